import PyProof.Rows.All
import Wide.All
import OpenK.AllK
import Wide.FinOn
import PyProof.EqAt
import PyProof.EqKinds
import PyProof.TupleCall
import PyProof.CompFree
import PyProof.Cells
import KE.KDictList
import KE.KIntText
import PyProof.CallStr
import PyProof.Rows.StrItems
import PyProof.StrLawsTight
import PyProof.ListMulRoad
import PyProof.AutoIntOps
import KE.KRevSl
import Lean
import PySem.Challenge.RW_touchtree_k01_known
set_option Elab.async false
set_option linter.all false
set_option maxRecDepth 100000
namespace L2
open PySem PySem.Spec PyProof.Rows
noncomputable abbrev Key := Sum Int Str
noncomputable def keyIs : Key → Value → Bool
  | .inl k, v => Value.isInt k v
  | .inr x, v => Value.isStrOf x v
noncomputable def keyH (w : World) : Key → Int
  | .inl k => hashInt k
  | .inr x => hashStr w x
theorem keyIs_shape : ∀ {k : Key} {v : Value}, keyIs k v = true → (∃ i t, k = Sum.inl i ∧ v = Value.int i t) ∨ (∃ x t, k = Sum.inr x ∧ v = Value.str x t)
  | .inl i, v, h => by
    obtain ⟨t, e⟩ := Value.isInt_shape (k := i) (v := v) h
    exact .inl ⟨i, t, rfl, e⟩
  | .inr x, v, h => by
    obtain ⟨t, e⟩ := Value.isStrOf_shape (x := x) (v := v) h
    exact .inr ⟨x, t, rfl, e⟩
theorem key_ll (a b : Int) : decide ((Sum.inl a : Key) = Sum.inl b) = (a == b) := by
  by_cases e : a = b
  · subst e; simp
  · have h : ¬ (Sum.inl a : Key) = Sum.inl b := fun q => e (Sum.inl.inj q)
    rw [decide_eq_false h]
    exact (beq_eq_false_iff_ne.mpr e).symm
theorem key_rr (a b : Str) : decide ((Sum.inr a : Key) = Sum.inr b) = decide (a = b) := by
  by_cases e : a = b
  · subst e; simp
  · have h : ¬ (Sum.inr a : Key) = Sum.inr b := fun q => e (Sum.inr.inj q)
    rw [decide_eq_false h, decide_eq_false e]
theorem key_lr (a : Int) (b : Str) : decide ((Sum.inl a : Key) = Sum.inr b) = false := decide_eq_false (fun q => nomatch q)
theorem key_rl (a : Str) (b : Int) : decide ((Sum.inr a : Key) = Sum.inl b) = false := decide_eq_false (fun q => nomatch q)
noncomputable def mixKind (prog : Program) (w : World) : PySem.KeyKind prog w Key where
  is := keyIs
  hash := keyH w
  inj := fun v a b ha hb => by
    rcases keyIs_shape ha with ⟨i, t, rfl, rfl⟩ | ⟨x, t, rfl, rfl⟩
    · rcases keyIs_shape hb with ⟨j, u, rfl, e⟩ | ⟨y, u, rfl, e⟩
      · injection e with e1 _; rw [e1]
      · exact nomatch e
    · rcases keyIs_shape hb with ⟨j, u, rfl, e⟩ | ⟨y, u, rfl, e⟩
      · exact nomatch e
      · injection e with e1 _; rw [e1]
  byValue := fun k v h => by
    rcases keyIs_shape h with ⟨i, t, rfl, rfl⟩ | ⟨x, t, rfl, rfl⟩ <;> rfl
  pyHash := fun hv h => by
    rcases keyIs_shape hv with ⟨i, t, rfl, rfl⟩ | ⟨x, t, rfl, rfl⟩
    · exact wpAny_pyHash_int h
    · exact wpAny_pyHash_str h
  eqBool := fun hu hv h => by
    rcases keyIs_shape hu with ⟨i, t, rfl, rfl⟩ | ⟨x, t, rfl, rfl⟩
    · rcases keyIs_shape hv with ⟨j, u, rfl, rfl⟩ | ⟨y, u, rfl, rfl⟩
      · rw [key_ll] at h; exact wpAny_eqBool_int h
      · rw [key_lr] at h; exact SeqAt.EqAt.int_str i t y u _ _ _ _ h
    · rcases keyIs_shape hv with ⟨j, u, rfl, rfl⟩ | ⟨y, u, rfl, rfl⟩
      · rw [key_rl] at h; exact SeqAt.EqAt.str_int x t j u _ _ _ _ h
      · rw [key_rr] at h; exact wpAny_eqBool_str h
  «strs» := fun k x t v h => by
    rcases keyIs_shape h with ⟨i, u, rfl, e⟩ | ⟨y, u, rfl, e⟩
    · exact nomatch e
    · injection e with e1 _
      subst e1
      cases v <;> rfl
end L2
namespace L2
open PySem PySem.Spec PyProof.Rows
inductive V where
  | non | bl (b : Bool) | int (i : Int) | str (x : Str) | byt (b : Array UInt8) | flt (b : UInt64) | ref (a : Addr) | ty (n : String)
  deriving DecidableEq
noncomputable def RelV : V → Value → Prop
  | .non, u => u = Value.none
  | .bl b, u => u = Value.bool b
  | .int i, u => ∃ t, u = Value.int i t
  | .str x, u => ∃ t, u = Value.str x t
  | .byt b, u => ∃ t, u = Value.bytes b t
  | .flt b, u => ∃ t, u = Value.float b t
  | .ref a, u => u = Value.ref a
  | .ty n, u => u = Value.type n
noncomputable abbrev Vals : List V → List Value → Prop := Paired RelV
theorem Vals.length {xs : List V} {us : List Value} (r : Vals xs us) : xs.length = us.length := Paired.length r
theorem Vals.get : ∀ {xs : List V} {us : List Value} {i : Nat} {x : V}, Vals xs us → xs[i]? = some x → ∃ u, us[i]? = some u ∧ RelV x u
  | _, _, _, _, .nil, e => by simp at e
  | _, _, 0, _, .cons r _, e => by simp at e; subst e; exact ⟨_, rfl, r⟩
  | _, _, i + 1, x, .cons _ t, e => by
    obtain ⟨u, h1, h2⟩ := Vals.get (i := i) (x := x) t (by simpa using e)
    exact ⟨u, by simpa using h1, h2⟩
theorem Vals.append : ∀ {xs ys : List V} {us ws : List Value}, Vals xs us → Vals ys ws → Vals (xs ++ ys) (us ++ ws)
  | _, _, _, _, .nil, s => s
  | _, _, _, _, .cons r t, s => .cons r (Vals.append t s)
theorem Vals.take : ∀ {xs : List V} {us : List Value} (n : Nat), Vals xs us → Vals (xs.take n) (us.take n)
  | _, _, 0, _ => .nil
  | _, _, _ + 1, .nil => .nil
  | _, _, n + 1, .cons r t => .cons r (Vals.take n t)
theorem Vals.drop : ∀ {xs : List V} {us : List Value} (n : Nat), Vals xs us → Vals (xs.drop n) (us.drop n)
  | _, _, 0, r => r
  | _, _, _ + 1, .nil => .nil
  | _, _, n + 1, .cons _ t => Vals.drop n t
noncomputable def RelO : Option V → Option Value → Prop
  | some v, some u => RelV v u
  | none, none => True
  | _, _ => False
noncomputable def KV {κ : Type} : List (κ × V) → List (κ × Value) → Prop := Paired fun (p : κ × V) (q : κ × Value) => p.1 = q.1 ∧ RelV p.2 q.2
noncomputable def kV : Key → V
  | .inl i => .int i
  | .inr x => .str x
inductive HO where
  | lst (xs : List V)
  | tup (xs : List V)
  | dK (kvs : List (Key × V)) | dT (kvs : List (List Key × V))
  | set (S : Int → Bool) (n : Nat)
  | ins (C dx : Addr) (fs : List (Str × V))
  | own (x : Addr)
  | xd (fs : List (Str × V))
  | met (f x : Addr)
  | rng (lo hi : Int)
  | frz (o : Obj) (u : HO)
  | tbl (ps : Array Value)
  | ext (φ : Heap → Prop)
noncomputable abbrev Hp := Addr → Option HO
noncomputable def upd (H : Hp) (a : Addr) (o : HO) : Hp := fun b => if b = a then some o else H b
theorem upd_same {H : Hp} {a : Addr} {o : HO} : upd H a o a = some o := by unfold upd; rw [if_pos rfl]
theorem upd_ne {H : Hp} {a b : Addr} {o : HO} (h : b ≠ a) : upd H a o b = H b := by unfold upd; rw [if_neg h]
theorem ne_of_none {H : Hp} {a b : Addr} {o : HO} (h : H a = some o) (h' : H b = none) : a ≠ b := by
  intro e; subst e; rw [h] at h'; cases h'
section
variable (P : Program) (w : World)
noncomputable def ObjOk (H : Hp) (h : Heap) (a : Addr) : HO → Prop
  | .lst xs => xs.length ≤ sizeLine ∧ ∃ (its : List Value) (n : Nat), Vals xs its ∧ h.get? a = some { cls := .type "list", data := .seq its.toArray n }
  | .tup xs => xs.length ≤ sizeLine ∧ ∃ its : List Value, Vals xs its ∧ IsTup h a its.toArray
  | .dK kvs => kvs.length ≤ sizeLine ∧ (a == sysModules) = false ∧ ∃ vs, KV kvs vs ∧ h.DictOf (mixKind P w) a vs
  | .dT kvs => kvs.length ≤ sizeLine ∧ (a == sysModules) = false ∧ ∃ xs : List (List Key × Addr × Value),
      Paired (fun (p : List Key × V) (q : List Key × Addr × Value) => p.1 = q.1 ∧ H q.2.1 = some (.tup (p.1.map kV)) ∧ RelV p.2 q.2.2) kvs xs ∧
      ∃ o es ep, h.get? a = some o ∧ o.ExactDict ∧ o.data = .dict es ep ∧ es.toList = xs.map (entryOfKey (tupleKind (mixKind P w))) ∧ (xs.map (·.1)).Nodup
  | .set S n => h.SetOf (intKind P w) a S n
  | .ins C dx fs => H dx = some (.own a) ∧ fs.length ≤ 1000 ∧ dx ≠ a ∧ h.get? a = some (PySem.W.instObj C dx) ∧
      ∃ mA, h.Ns1 dx mA ∧ (∀ f, RelO (fs.lookup f) (mA f)) ∧ PySem.Within mA (fs.map (·.1))
  | .own _ => ∃ o, h.get? a = some o
  | .xd fs => ∃ mA, h.Ns1 a mA ∧ ∀ f, RelO (fs.lookup f) (mA f)
  | .rng lo hi => ∃ t u v, h.get? a = some { cls := .type "range", data := .fields #[.int lo t, .int hi u, .int 1 v] }
  | .frz o u => h.get? a = some o ∧ ObjOk H h a u
  | .tbl ps => h.get? a = some { cls := .none, data := .fields ps }
  | .met f x => h.get? a = some (PySem.W.methodObj (.ref f) (.ref x))
  | .ext φ => φ h ∧ (∃ o, h.get? a = some o) ∧ ∀ h1 h2 : Heap, φ h1 → (∀ o, h1.get? a = some o → h2.get? a = some o) → φ h2
noncomputable def HOk (H : Hp) (h : Heap) : Prop := ∀ a o, H a = some o → ObjOk P w H h a o
end
section
variable {P : Program} {w : World} {H H' : Hp} {h h' : Heap} {a : Addr} {o : HO}
theorem ObjOk.lt (x : ObjOk P w H h a o) : a < h.objs.size := by
  cases o with
  | lst xs => obtain ⟨_, _, _, _, e⟩ := x; exact Heap.lt_size e
  | tup xs => obtain ⟨_, _, _, p⟩ := x; exact p.lt
  | dK kvs => obtain ⟨_, _, _, _, o, _, _, e, _⟩ := x; exact Heap.lt_size e
  | dT kvs => obtain ⟨_, _, _, _, o, _, _, e, _⟩ := x; exact Heap.lt_size e
  | set S n => obtain ⟨o, _, _, _, e, _⟩ := x; exact Heap.lt_size e
  | ins C dx fs => obtain ⟨_, _, _, e, _⟩ := x; exact Heap.lt_size e
  | own y => obtain ⟨_, e⟩ := x; exact Heap.lt_size e
  | xd fs => obtain ⟨_, ⟨_, _, _, e, _⟩, _⟩ := x; exact Heap.lt_size e
  | rng lo hi => obtain ⟨_, _, _, e⟩ := x; exact Heap.lt_size e
  | frz ob u => obtain ⟨e, _⟩ := x; exact Heap.lt_size e
  | tbl ps => exact Heap.lt_size (show h.get? a = some _ from x)
  | met f y => exact Heap.lt_size (show h.get? a = some _ from x)
  | ext φ => obtain ⟨_, ⟨_, e⟩, _⟩ := x; exact Heap.lt_size e
theorem Paired.mapP {α β : Type} {F G : α → β → Prop} : ∀ {l₁ : List α} {l₂ : List β}, Paired F l₁ l₂ → (∀ a b, F a b → G a b) → Paired G l₁ l₂
  | _, _, .nil, _ => .nil
  | _, _, .cons r t, f => .cons (f _ _ r) (Paired.mapP t f)
theorem ObjOk.stay (x : ObjOk P w H h a o) (k : ∀ b u, (b = a ∨ H b = some (.own a)) → h.get? b = some u → h'.get? b = some u)
    (ho : ∀ b, H b = some (.own a) → H' b = some (.own a)) (ht : ∀ b xs, H b = some (.tup xs) → H' b = some (.tup xs)) : ObjOk P w H' h' a o := by
  induction o with
  | lst xs => obtain ⟨z, its, n, r, e⟩ := x; exact ⟨z, its, n, r, k _ _ (.inl rfl) e⟩
  | tup xs => obtain ⟨z, its, r, ob, e, c⟩ := x; exact ⟨z, its, r, ob, k _ _ (.inl rfl) e, c⟩
  | dK kvs => obtain ⟨z, y, vs, r, ob, es, ep, e, c⟩ := x; exact ⟨z, y, vs, r, ob, es, ep, k _ _ (.inl rfl) e, c⟩
  | dT kvs =>
    obtain ⟨z, y, xs, r, ob, es, ep, e, c⟩ := x
    exact ⟨z, y, xs, Paired.mapP r fun p q z => ⟨z.1, ht _ _ z.2.1, z.2.2⟩, ob, es, ep, k _ _ (.inl rfl) e, c⟩
  | set S n => obtain ⟨ob, es, ep, t, e, c⟩ := x; exact ⟨ob, es, ep, t, k _ _ (.inl rfl) e, c⟩
  | ins C dx fs =>
    obtain ⟨d, z, ne, e, mA, ⟨od, es, ep, e2, c⟩, r⟩ := x
    exact ⟨ho _ d, z, ne, k _ _ (.inl rfl) e, mA, ⟨od, es, ep, k _ _ (.inr d) e2, c⟩, r⟩
  | own y => obtain ⟨ob, e⟩ := x; exact ⟨ob, k _ _ (.inl rfl) e⟩
  | xd fs => obtain ⟨mA, ⟨od, es, ep, e, c⟩, r⟩ := x; exact ⟨mA, ⟨od, es, ep, k _ _ (.inl rfl) e, c⟩, r⟩
  | rng lo hi => obtain ⟨t, u, v, e⟩ := x; exact ⟨t, u, v, k _ _ (.inl rfl) e⟩
  | frz ob u ih => obtain ⟨e, q⟩ := x; exact ⟨k _ _ (.inl rfl) e, ih q⟩
  | tbl ps =>
    have e : h.get? a = some { cls := .none, data := .fields ps } := x
    show h'.get? a = some { cls := .none, data := .fields ps }
    exact k a _ (.inl rfl) e
  | met f y =>
    have e : h.get? a = some (PySem.W.methodObj (.ref f) (.ref y)) := x
    show h'.get? a = some (PySem.W.methodObj (.ref f) (.ref y))
    exact k a _ (.inl rfl) e
  | ext φ => obtain ⟨p, ⟨o, e⟩, st⟩ := x; exact ⟨st _ _ p fun o q => k _ _ (.inl rfl) q, ⟨o, k _ _ (.inl rfl) e⟩, st⟩
theorem HOk.lt (x : HOk P w H h) (e : H a = some o) : a < h.objs.size := (x a o e).lt
theorem HOk.fresh (x : HOk P w H h) (e : h.objs.size ≤ a) : H a = none := by
  cases q : H a with
  | none => rfl
  | some u => exact absurd (Nat.lt_of_lt_of_le (x.lt q) e) (Nat.lt_irrefl _)
theorem HOk.kept (x : HOk P w H h) (k : ∀ b u, h.get? b = some u → h'.get? b = some u) : HOk P w H h' := fun a o e =>
  (x a o e).stay (fun b u _ q => k b u q) (fun _ q => q) fun _ _ q => q
theorem HOk.laid (x : HOk P w H h) (k : ∀ b u, h.get? b = some u → h'.get? b = some u) (hp : h.objs.size ≤ a) (new : ObjOk P w (upd H a o) h' a o) : HOk P w (upd H a o) h' := fun b u e => by
  have hn := x.fresh hp
  by_cases hb : b = a
  · subst hb; rw [upd_same] at e; cases e; exact new
  · rw [upd_ne hb] at e
    exact (x b u e).stay (fun c v _ q => k c v q) (fun c q => by rw [upd_ne (ne_of_none q hn)]; exact q) fun c xs q => by rw [upd_ne (ne_of_none q hn)]; exact q
end
noncomputable def Rd (H : Hp) (a : Addr) (u : HO) : Prop := H a = some u ∨ ∃ o, H a = some (.frz o u)
theorem Rd.ok {P : Program} {w : World} {H : Hp} {h : Heap} {a : Addr} {u : HO} (r : Rd H a u) (x : HOk P w H h) : ObjOk P w H h a u := by
  rcases r with r | ⟨o, r⟩
  · exact x a u r
  · obtain ⟨_, q⟩ := x a _ r
    exact q
noncomputable def Mut : Option HO → Prop
  | some (.lst _) => True
  | some (.dK _) => True
  | some (.dT _) => True
  | some (.set _ _) => True
  | some (.ins _ _ _) => True
  | some (.ext _) => True
  | _ => False
section
variable {P : Program} {w : World} {H : Hp} {h h' : Heap} {x e : Addr} {o' : HO}
theorem HOk.write (ok : HOk P w H h) (mu : Mut (H x)) (he : e = x ∨ H e = some (.own x)) (k : ∀ b u, b ≠ e → h.get? b = some u → h'.get? b = some u) (heo : ∃ u, h'.get? e = some u)
    (new : ObjOk P w (upd H x o') h' x o') : HOk P w (upd H x o') h' := fun b u q => by
  have nown : ∀ c y, H c = some (.own y) → c ≠ x := fun c y r z => by subst z; rw [r] at mu; exact mu
  have ntup : ∀ c xs, H c = some (.tup xs) → c ≠ x := fun c xs r z => by subst z; rw [r] at mu; exact mu
  by_cases hb : b = x
  · subst hb; rw [upd_same] at q; cases q; exact new
  · rw [upd_ne hb] at q
    by_cases hbe : b = e
    · have q' : H b = some (.own x) := by
        rcases he with z | z
        · exact absurd (hbe.trans z) hb
        · rw [hbe]; exact z
      rw [q] at q'; cases q'
      obtain ⟨v, hv⟩ := heo
      exact ⟨v, by rw [hbe]; exact hv⟩
    · refine (ok b u q).stay (fun c v hc r => k c v ?_ r) (fun c r => by rw [upd_ne (nown c b r)]; exact r) fun c xs r => by rw [upd_ne (ntup c xs r)]; exact r
      rcases hc with rfl | hc
      · exact hbe
      · rintro rfl
        rcases he with z | z
        · exact nown c b hc z
        · rw [hc] at z; cases z; exact hb rfl
end
structure Un (fs ex : List Addr) (H H' : Hp) (h h' : Heap) : Prop where
  keep : ∀ b o, h.get? b = some o → H b = none → b ∉ fs → b ∉ ex → h'.get? b = some o
  slot : ∀ b o, h.get? b = some o → H b = none → b ∈ fs → b ∉ ex → ∃ sl, h'.get? b = some { o with slots := sl }
  free : ∀ b o, h.get? b = some o → H b = none → b ∉ ex → H' b = none
  there : ∀ b o, h.get? b = some o → b ∉ ex → ∃ o', h'.get? b = some o'
  tups : ∀ b xs, H b = some (.tup xs) → H' b = some (.tup xs)
  frzs : ∀ b o u, H b = some (.frz o u) → H' b = some (.frz o u)
  tbls : ∀ b ps, H b = some (.tbl ps) → ∃ more, H' b = some (.tbl (ps ++ more))
section
variable {fs fs' ex ex' : List Addr} {H H1 H2 : Hp} {h h1 h2 h' : Heap} {a x e : Addr} {o : HO}
theorem Un.any (u : Un fs ex H H1 h h1) {b : Addr} {ob : Obj} (q : h.get? b = some ob) (n : H b = none) (hx : b ∉ ex) : ∃ sl, h1.get? b = some { ob with slots := sl } := by
  by_cases hb : b ∈ fs
  · exact u.slot b ob q n hb hx
  · exact ⟨ob.slots, u.keep b ob q n hb hx⟩
theorem Un.kept (k : ∀ b u, h.get? b = some u → h'.get? b = some u) : Un fs ex H H h h' :=
  ⟨fun b ob q _ _ _ => k b ob q, fun b ob q _ _ _ => ⟨ob.slots, k b ob q⟩, fun _ _ _ n _ => n, fun b ob q _ => ⟨ob, k b ob q⟩, fun _ _ q => q, fun _ _ _ q => q, fun _ ps q => ⟨#[], by rw [q]; simp⟩⟩
theorem Un.refl : Un fs ex H H h h := Un.kept fun _ _ q => q
theorem Un.laid (k : ∀ b u, h.get? b = some u → h'.get? b = some u) (hp : h.objs.size ≤ a) (hn : H a = none) : Un fs ex H (upd H a o) h h' where
  keep := fun b u q _ _ _ => k b u q
  slot := fun b u q _ _ _ => ⟨u.slots, k b u q⟩
  free := fun b u q n _ => by rw [upd_ne (Nat.ne_of_lt (Nat.lt_of_lt_of_le (Heap.lt_size q) hp))]; exact n
  there := fun b u q _ => ⟨u, k b u q⟩
  tups := fun b xs q => by rw [upd_ne (ne_of_none q hn)]; exact q
  frzs := fun b u xs q => by rw [upd_ne (ne_of_none q hn)]; exact q
  tbls := fun b ps q => ⟨#[], by rw [upd_ne (ne_of_none q hn), q]; simp⟩
theorem Un.write (mu : Mut (H x)) (he : e = x ∨ H e = some (.own x)) (k : ∀ b u, b ≠ e → h.get? b = some u → h'.get? b = some u) (heo : ∃ u, h'.get? e = some u) : Un fs ex H (upd H x o) h h' := by
  have hx : ∀ b, H b = none → b ≠ x := fun b n z => by subst z; rw [n] at mu; exact mu
  have hb : ∀ b, H b = none → b ≠ e := fun b n z => by
    subst z
    rcases he with r | r
    · exact hx b n r
    · rw [n] at r; cases r
  have hm : ∀ b u, H b = some u → ¬ Mut (some u) → b ≠ x := fun b u q nm z => by subst z; rw [q] at mu; exact nm mu
  refine ⟨fun b u q n _ _ => k b u (hb b n) q, fun b u q n _ _ => ⟨u.slots, k b u (hb b n) q⟩, fun b u q n _ => by rw [upd_ne (hx b n)]; exact n, fun b u q _ => ?_,
    fun b xs q => by rw [upd_ne (hm b _ q fun z => z)]; exact q, fun b u xs q => by rw [upd_ne (hm b _ q fun z => z)]; exact q, fun b ps q => ⟨#[], by rw [upd_ne (hm b _ q fun z => z), q]; simp⟩⟩
  by_cases hbe : b = e
  · subst hbe; exact heo
  · exact ⟨u, k b u hbe q⟩
end
noncomputable def trk (h : Heap) (H : Hp) : List Addr := (List.range h.objs.size).filter fun a => (H a).isSome
noncomputable def hidT (h : Heap) (H : Hp) : Heap := PySem.W.hideAll h (trk h H)
theorem hidT_size (h : Heap) (H : Hp) : (hidT h H).objs.size = h.objs.size := PySem.W.hideAll_size _ _
theorem hidT_get {h : Heap} {H : Hp} {b : Addr} {o : Obj} (e : h.get? b = some o) (n : H b = none) : (hidT h H).get? b = some o :=
  PySem.W.hideAll_get _ e fun hm => by
    have q : (H b).isSome = true := (List.mem_filter.mp hm).2
    rw [n] at q; simp at q
theorem of_hidT {h : Heap} {H : Hp} {b : Addr} {o : Obj} (e : (hidT h H).get? b = some o) : h.get? b = some o ∧ H b = none := by
  have e' : h.get? b = some o := PySem.W.of_hideAll (trk h H) e
  refine ⟨e', ?_⟩
  cases q : H b with
  | none => rfl
  | some x =>
    have hm : b ∈ trk h H := List.mem_filter.mpr ⟨List.mem_range.mpr (Heap.lt_size e'), by simp [q]⟩
    have z : (hidT h H).get? b = none := PySem.W.hideAll_none (trk h H) hm
    rw [z] at e; cases e
noncomputable def allNews (g h : Heap) (L : Addr) : List (Addr × Obj) := (List.range h.objs.size).filterMap fun a => if a = L ∨ (g.get? a).isSome = true then none else (h.get? a).map fun o => (a, o)
noncomputable def rest (g h : Heap) (L d : Addr) : List (Addr × Obj) := (allNews g h L).filter fun p => decide (p.1 ≠ d)
end L2
namespace L2
open PySem PySem.Spec PyProof.Rows
structure Mod (K : PySem.W.Frag) (mg : Str → Option Value) (base : Heap) : Prop where
  kin : K.In base
  glob : base.Ns mainGlobals mg
  blt : ∃ mb, base.Ns builtinsNs mb ∧ ∀ x : Str, x ≠ "__name__" → mb x = bootBuiltins x
  nolimit : base.NoLimit
structure Cx where
  prog : Program
  w : World
  K : PySem.W.Frag
  mg : Str → Option Value
  base : Heap
  A : Around
  N : List Str
  s₀ : Shared
  H₀ : Hp
  env : Env
  outer : List Env
  stack : List Env
  ex : List Addr
  fn : Str → Bool
  calm : Bool
  pn : List (Addr × Obj)
  xe : Value → Shared → Prop
noncomputable def frs (l : List Env) : List Addr := l.filterMap (·.frame)
noncomputable abbrev Cx.fs (X : Cx) : List Addr := frs X.outer
noncomputable def Vis (sc : Scope) (x : Str) : Prop := sc.names.lookup x = some .local ∨ sc.names.lookup x = some .cell ∨ sc.names.lookup x = some .free
noncomputable def Loc (sc : Scope) (x : Str) : Prop := sc.names.lookup x = some .local ∨ sc.names.lookup x = some .cell
noncomputable def Look (env : Env) (h : Heap) (m : Str → Option Value) (x : Str) (u : Value) : Prop :=
  (env.kindOf x = some .local ∧ m x = some u) ∨ ((env.kindOf x = some .cell ∨ env.kindOf x = some .free) ∧ ∃ c, env.cells.lookup x = some c ∧ h.IsCell c (some u))
structure Cx.Ok (X : Cx) : Prop where
  mod : Mod X.K X.mg X.base
  kind : X.env.scope.kind = .function
  glob : X.env.globals = mainGlobals
  blt : X.env.builtins = builtinsNs
  above : X.s₀.heap.objs.size ≤ X.env.locals
  inj : ∀ x y c, X.env.cells.lookup x = some c → X.env.cells.lookup y = some c → x = y
  has : ∀ x, (X.env.kindOf x = some .cell ∨ X.env.kindOf x = some .free) → ∃ c, X.env.cells.lookup x = some c
  cab : ∀ x c, X.fn x = true → X.env.cells.lookup x = some c → X.s₀.heap.objs.size ≤ c
  hd : X.calm = true → X.A.handled = none
  frames : X.A.frames = some X.stack
  stk : X.stack = X.outer ∨ (X.stack = X.env :: X.outer ∧ X.env.frame = some X.env.locals)
  exf : ∀ b ∈ X.ex, b ≠ X.env.locals ∧ ∀ x c, X.env.cells.lookup x = some c → c ≠ b
  bs : ∀ b o, X.base.get? b = some o → X.s₀.heap.get? b = some o ∧ X.H₀ b = none
  bsz : X.base.objs.size ≤ X.s₀.heap.objs.size
  noex : ∀ b o, X.base.get? b = some o → b ∉ X.ex
  exfs : ∀ b ∈ X.ex, b ∉ X.fs
  funs : X.s₀.heap.FunFrames X.base X.outer
  frf : ∀ b ∈ X.fs, X.H₀ b = none
structure Inv (X : Cx) (pins : List (Addr × Obj)) (σ : List (Option V)) (H : Hp) (s : Shared) : Prop where
  ok : X.Ok
  os : s.os = X.s₀.os
  bare : AllBare s.gens
  base : Un X.fs X.ex X.H₀ H X.s₀.heap s.heap
  loc : ∃ m, s.heap.Ns X.env.locals m ∧ ∀ (i : Nat) (x : Str) (v : V), X.N[i]? = some x → σ[i]? = some (some v) → Vis X.env.scope x → ∃ u, RelV v u ∧ Look X.env s.heap m x u
  cell : ∀ x c, X.env.cells.lookup x = some c → ∃ v, s.heap.IsCell c v
  free : H X.env.locals = none
  freeC : ∀ x c, X.env.cells.lookup x = some c → H c = none
  pin : ∀ p ∈ X.pn ++ pins, s.heap.get? p.1 = some p.2 ∧ H p.1 = none ∧ p.1 ≠ X.env.locals ∧ p.1 ∉ X.fs ∧ ∀ v, p.2.data ≠ .cell v
  hok : HOk X.prog X.w H s.heap
  len : σ.length = X.N.length
section
variable {X : Cx} {pins : List (Addr × Obj)} {σ : List (Option V)} {H H' : Hp} {s : Shared} {h' : Heap}
theorem Cx.Ok.nofr (ok : X.Ok) {b : Addr} {o : Obj} (e : X.base.get? b = some o) : b ∉ X.fs := fun hb => by
  have := (ok.funs.mem hb).1
  rw [e] at this; cases this
theorem Inv.bs (I : Inv X pins σ H s) : ∀ b o, X.base.get? b = some o → s.heap.get? b = some o ∧ H b = none := fun b o e =>
  ⟨I.base.keep b o (I.ok.bs b o e).1 (I.ok.bs b o e).2 (I.ok.nofr e) (I.ok.noex b o e), I.base.free b o (I.ok.bs b o e).1 (I.ok.bs b o e).2 (I.ok.noex b o e)⟩
theorem Inv.bk (I : Inv X pins σ H s) : ∀ b o, X.base.get? b = some o → s.heap.get? b = some o := fun b o e => (I.bs b o e).1
theorem Inv.mod (I : Inv X pins σ H s) : Mod X.K X.mg X.base := I.ok.mod
theorem Inv.kIn (I : Inv X pins σ H s) : X.K.In s.heap := I.ok.mod.kin.keeps I.bk
theorem Inv.lt (I : Inv X pins σ H s) : X.env.locals < s.heap.objs.size := let ⟨_, hn, _⟩ := I.loc; hn.lt
theorem Inv.sz (I : Inv X pins σ H s) : X.s₀.heap.objs.size ≤ s.heap.objs.size := Nat.le_trans I.ok.above (Nat.le_of_lt I.lt)
theorem Inv.nofs (I : Inv X pins σ H s) {a : Addr} (h : s.heap.objs.size ≤ a) : a ∉ X.fs := fun hb => by
  obtain ⟨_, o, ho, _⟩ := I.ok.funs.mem hb
  exact absurd (Nat.lt_of_lt_of_le (Heap.lt_size ho) (Nat.le_trans I.sz h)) (Nat.lt_irrefl _)
theorem Inv.cne (I : Inv X pins σ H s) : ∀ x c, X.env.cells.lookup x = some c → c ≠ X.env.locals := fun x c e z => by
  obtain ⟨v, o, ho, hd⟩ := I.cell x c e
  obtain ⟨m, ⟨o', es, ep, ho', hd', _⟩, _⟩ := I.loc
  rw [z, ho'] at ho; cases ho; rw [hd'] at hd; cases hd
theorem Inv.funs (I : Inv X pins σ H s) : s.heap.FunFrames X.base X.outer := by
  have all : ∀ (l : List Env), (∀ b ∈ frs l, b ∈ X.fs) → X.s₀.heap.FunFrames X.base l → s.heap.FunFrames X.base l := by
    intro l
    induction l with
    | nil => intro _ _; trivial
    | cons env r ih =>
      intro hs hl
      obtain ⟨hk, ⟨L, o, hf, hn, ho, hd⟩, hr⟩ := hl
      have hL : L ∈ X.fs := hs L (by unfold frs; rw [List.filterMap_cons, hf]; exact List.mem_cons_self)
      obtain ⟨sl, e⟩ := I.base.slot L o ho (I.ok.frf L hL) hL fun z => I.ok.exfs L z hL
      exact ⟨hk, ⟨L, _, hf, hn, e, hd⟩, ih (fun b hb => hs b (by unfold frs; rw [List.filterMap_cons, hf]; exact List.mem_cons_of_mem _ hb)) hr⟩
  exact all X.outer (fun _ hb => hb) I.ok.funs
theorem Inv.stack (I : Inv X pins σ H s) : s.heap.FunFrames X.base X.stack := by
  rcases I.ok.stk with e | ⟨e, hf⟩
  · rw [e]; exact I.funs
  · rw [e]
    obtain ⟨m, hn, _⟩ := I.loc
    refine .cons (by rw [I.ok.kind]; decide) hf hn ?_ I.funs
    exact Heap.get?_none_of_le (Nat.le_trans I.ok.bsz I.ok.above)
theorem Inv.stkSub (I : Inv X pins σ H s) : ∀ b ∈ frs X.stack, b ∈ X.env.locals :: X.fs := fun b hb => by
  rcases I.ok.stk with e | ⟨e, hf⟩
  · rw [e] at hb; exact List.mem_cons_of_mem _ hb
  · rw [e] at hb
    unfold frs at hb
    rw [List.filterMap_cons, hf] at hb
    exact hb
theorem Inv.stkFree (I : Inv X pins σ H s) : ∀ b ∈ frs X.stack, H b = none := fun b hb => by
  rcases List.mem_cons.mp (I.stkSub b hb) with e | hb
  · rw [e]; exact I.free
  · obtain ⟨_, o, ho, _⟩ := I.ok.funs.mem hb
    exact I.base.free b o ho (I.ok.frf b hb) fun z => I.ok.exfs b z hb
theorem Inv.step {g' : Array GenState} {t' : Nat} {d' : Drawn} {ch : List Addr} (I : Inv X pins σ H s)
    (hch : ∀ b ∈ ch, (b ∈ X.ex ∨ X.s₀.heap.objs.size ≤ b) ∧ b ≠ X.env.locals ∧ (∀ x c, X.env.cells.lookup x = some c → c ≠ b) ∧ ∀ p ∈ X.pn ++ pins, p.1 ≠ b)
    (keep : ∀ b o, b ≠ X.env.locals → b ∉ X.fs → b ∉ ch → s.heap.get? b = some o → H b = none → h'.get? b = some o)
    (slot : ∀ b o, b ≠ X.env.locals → b ∈ X.fs → b ∉ ch → s.heap.get? b = some o → H b = none → ∃ sl, h'.get? b = some { o with slots := sl }) (free : ∀ b o, b ∉ ch → s.heap.get? b = some o → H b = none → H' b = none)
    (there : ∀ b o, b ∉ ch → s.heap.get? b = some o → ∃ o', h'.get? b = some o')
    (tups : ∀ b xs, H b = some (.tup xs) → H' b = some (.tup xs)) (frzs : ∀ b o u, H b = some (.frz o u) → H' b = some (.frz o u)) (tbls : ∀ b ps, H b = some (.tbl ps) → ∃ more, H' b = some (.tbl (ps ++ more)))
    (ns : ∀ m, s.heap.Ns X.env.locals m → h'.Ns X.env.locals m) (hok : HOk X.prog X.w H' h') (hg : AllBare g') :
    Inv X pins σ H' { s with heap := h', gens := g', drawn := d', toks := t' } := by
  have neL : ∀ b o, X.s₀.heap.get? b = some o → b ≠ X.env.locals := fun b o e => Nat.ne_of_lt (Nat.lt_of_lt_of_le (Heap.lt_size e) I.ok.above)
  have neC : ∀ b o, X.s₀.heap.get? b = some o → b ∉ X.ex → b ∉ ch := fun b o e hx hb => by
    rcases (hch b hb).1 with z | z
    · exact hx z
    · exact absurd (Nat.lt_of_lt_of_le (Heap.lt_size e) z) (Nat.lt_irrefl _)
  have cellK : ∀ x c, X.env.cells.lookup x = some c → ∀ v, s.heap.IsCell c v → h'.IsCell c v := fun x c e v ⟨o, ho, hd⟩ => by
    have nch : c ∉ ch := fun z => (hch c z).2.2.1 x c e rfl
    by_cases hc : c ∈ X.fs
    · obtain ⟨sl, q⟩ := slot c o (I.cne x c e) hc nch ho (I.freeC x c e)
      exact ⟨_, q, hd⟩
    · exact ⟨o, keep c o (I.cne x c e) hc nch ho (I.freeC x c e), hd⟩
  refine ⟨I.ok, I.os, hg, ⟨fun b o e n hb hx => ?_, fun b o e n hb hx => ?_, fun b o e n hx => ?_, fun b o e hx => ?_, fun b xs e => tups b xs (I.base.tups b xs e), fun b o xs e => frzs b o xs (I.base.frzs b o xs e), fun b ps e => ?_⟩, ?_, fun x c e => ?_, ?_, fun x c e => ?_, fun p hp => ?_, hok, I.len⟩
  · exact keep b o (neL b o e) hb (neC b o e hx) (I.base.keep b o e n hb hx) (I.base.free b o e n hx)
  · obtain ⟨sl, e1⟩ := I.base.slot b o e n hb hx
    obtain ⟨sl', e2⟩ := slot b _ (neL b o e) hb (neC b o e hx) e1 (I.base.free b o e n hx)
    exact ⟨sl', e2⟩
  · obtain ⟨o', e1⟩ := I.base.there b o e hx
    exact free b o' (neC b o e hx) e1 (I.base.free b o e n hx)
  · obtain ⟨o', e1⟩ := I.base.there b o e hx
    exact there b o' (neC b o e hx) e1
  · obtain ⟨m1, e1⟩ := I.base.tbls b ps e
    obtain ⟨m2, e2⟩ := tbls b _ e1
    exact ⟨m1 ++ m2, by rw [e2, Array.append_assoc]⟩
  · obtain ⟨m, hn, hl⟩ := I.loc
    refine ⟨m, ns m hn, fun i x v e1 e2 e3 => ?_⟩
    obtain ⟨u, r, l⟩ := hl i x v e1 e2 e3
    refine ⟨u, r, ?_⟩
    rcases l with l | ⟨k, c, e, z⟩
    · exact .inl l
    · exact .inr ⟨k, c, e, cellK x c e _ z⟩
  · obtain ⟨v, z⟩ := I.cell x c e
    exact ⟨v, cellK x c e v z⟩
  · obtain ⟨m, ⟨o, _, _, ho, _⟩, _⟩ := I.loc
    exact free _ o (fun z => (hch _ z).2.1 rfl) ho I.free
  · obtain ⟨v, o, ho, hd⟩ := I.cell x c e
    exact free c o (fun z => (hch c z).2.2.1 x c e rfl) ho (I.freeC x c e)
  · obtain ⟨e, n, ne, nf, d⟩ := I.pin p hp
    have nch : p.1 ∉ ch := fun z => (hch p.1 z).2.2.2 p hp rfl
    exact ⟨keep p.1 p.2 ne nf nch e n, free p.1 p.2 nch e n, ne, nf, d⟩
theorem Inv.un {t' : Nat} (I : Inv X pins σ H s) (u : Un X.fs [] H H' s.heap h') (hok : HOk X.prog X.w H' h') : Inv X pins σ H' { s with heap := h', toks := t' } := by
  obtain ⟨m, ⟨o, es, ep, ho, r⟩, _⟩ := id I.loc
  obtain ⟨sl, hL⟩ := u.any ho I.free (by simp)
  exact I.step (g' := s.gens) (d' := s.drawn) (ch := []) (fun _ z => nomatch z) (fun b o _ hb _ e n => u.keep b o e n hb (by simp)) (fun b o _ hb _ e n => u.slot b o e n hb (by simp)) (fun b o _ e n => u.free b o e n (by simp)) (fun b o _ e => u.there b o e (by simp)) u.tups u.frzs u.tbls (fun m' hm => by
    obtain ⟨o', es', ep', ho', r'⟩ := hm
    rw [ho] at ho'; cases ho'
    exact ⟨_, es', ep', hL, r'⟩) hok I.bare
theorem Inv.call {g' : Array GenState} {t' : Nat} {d' : Drawn} {ch : List Addr} (I : Inv X pins σ H s) (u : Un (frs X.stack) ch H H' s.heap h') (hok : HOk X.prog X.w H' h') (hg : AllBare g')
    (hch : ∀ b ∈ ch, (b ∈ X.ex ∨ X.s₀.heap.objs.size ≤ b) ∧ b ≠ X.env.locals ∧ (∀ x c, X.env.cells.lookup x = some c → c ≠ b) ∧ ∀ p ∈ X.pn ++ pins, p.1 ≠ b) :
    Inv X pins σ H' { s with heap := h', gens := g', drawn := d', toks := t' } := by
  obtain ⟨m, ⟨o, es, ep, ho, r⟩, _⟩ := id I.loc
  obtain ⟨sl, hL⟩ := u.any ho I.free fun z => (hch _ z).2.1 rfl
  exact I.step (ch := ch) hch (fun b o hL hb hc e n => u.keep b o e n (fun z => (List.mem_cons.mp (I.stkSub b z)).elim hL hb) hc) (fun b o _ _ hc e n => u.any e n hc) (fun b o hc e n => u.free b o e n hc) (fun b o hc e => u.there b o e hc) u.tups u.frzs u.tbls (fun m' hm => by
    obtain ⟨o', es', ep', ho', r'⟩ := hm
    rw [ho] at ho'; cases ho'
    exact ⟨_, es', ep', hL, r'⟩) hok hg
theorem Inv.turned {t' : Nat} {it : Addr} (I : Inv X pins σ H s) (k : ∀ b o, b ≠ it → s.heap.get? b = some o → h'.get? b = some o) (hn : H it = none) (hL : it ≠ X.env.locals)
    (h1 : it ∈ X.ex ∨ X.s₀.heap.objs.size ≤ it) (h2 : ∀ x c, X.env.cells.lookup x = some c → c ≠ it) (h3 : ∀ p ∈ X.pn ++ pins, p.1 ≠ it) : Inv X pins σ H { s with heap := h', toks := t' } := by
  have nit : ∀ b u, H b = some u → b ≠ it := fun b u e z => by rw [z, hn] at e; cases e
  refine I.step (g' := s.gens) (d' := s.drawn) (ch := [it]) (fun b hb => ?_) (fun b o _ _ hc e _ => k b o (fun z => hc (by simp [z])) e) (fun b o _ _ hc e _ => ⟨o.slots, k b o (fun z => hc (by simp [z])) e⟩) (fun _ _ _ _ n => n)
    (fun b o hc e => ⟨o, k b o (fun z => hc (by simp [z])) e⟩) (fun _ _ e => e) (fun _ _ _ e => e) (fun b ps e => ⟨#[], by rw [e]; simp⟩) (fun m hm => ?_) (fun b u e => ?_) I.bare
  · have e : b = it := by simpa using hb
    subst e
    exact ⟨h1, hL, h2, h3⟩
  · obtain ⟨o, es, ep, ho, r⟩ := hm
    exact ⟨o, es, ep, k _ o (Ne.symm hL) ho, r⟩
  · refine (I.hok b u e).stay (fun c v hc q => k c v ?_ q) (fun _ q => q) fun _ _ q => q
    rcases hc with z | z
    · rw [z]; exact nit b u e
    · exact nit c _ z
theorem Inv.tok (I : Inv X pins σ H s) (t : Nat) : Inv X pins σ H { s with toks := t } := I.un (h' := s.heap) (t' := t) Un.refl I.hok
theorem Inv.kept {t' : Nat} (I : Inv X pins σ H s) (k : ∀ b u, s.heap.get? b = some u → h'.get? b = some u) : Inv X pins σ H { s with heap := h', toks := t' } := I.un (Un.kept k) (I.hok.kept k)
theorem Inv.laid {a : Addr} {o : HO} {t' : Nat} (I : Inv X pins σ H s) (k : ∀ b u, s.heap.get? b = some u → h'.get? b = some u) (hp : s.heap.objs.size ≤ a) (new : ObjOk X.prog X.w (upd H a o) h' a o) :
    Inv X pins σ (upd H a o) { s with heap := h', toks := t' } := I.un (Un.laid k hp (I.hok.fresh hp)) (I.hok.laid k hp new)
theorem Inv.write {x e : Addr} {o : HO} {t' : Nat} (I : Inv X pins σ H s) (mu : Mut (H x)) (he : e = x ∨ H e = some (.own x)) (k : ∀ b u, b ≠ e → s.heap.get? b = some u → h'.get? b = some u) (heo : ∃ u, h'.get? e = some u)
    (new : ObjOk X.prog X.w (upd H x o) h' x o) : Inv X pins σ (upd H x o) { s with heap := h', toks := t' } := I.un (Un.write mu he k heo) (I.hok.write mu he k heo new)
theorem Inv.weak {σ' : List (Option V)} (I : Inv X pins σ H s) (hl : σ'.length = σ.length) (w : ∀ (i : Nat) v, σ'[i]? = some (some v) → σ[i]? = some (some v)) : Inv X pins σ' H s :=
  ⟨I.ok, I.os, I.bare, I.base, let ⟨m, hn, hl'⟩ := I.loc; ⟨m, hn, fun i x v e1 e2 e3 => hl' i x v e1 (w i v e2) e3⟩, I.cell, I.free, I.freeC, I.pin, I.hok, hl.trans I.len⟩
theorem Inv.pins_of {pins' : List (Addr × Obj)} (I : Inv X pins σ H s) (h : ∀ p ∈ pins', s.heap.get? p.1 = some p.2 ∧ H p.1 = none ∧ p.1 ≠ X.env.locals ∧ p.1 ∉ X.fs ∧ ∀ v, p.2.data ≠ .cell v) : Inv X pins' σ H s :=
  ⟨I.ok, I.os, I.bare, I.base, I.loc, I.cell, I.free, I.freeC, fun p hp => (List.mem_append.mp hp).elim (fun z => I.pin p (List.mem_append_left _ z)) (h p), I.hok, I.len⟩
theorem nodup_ix {N : List Str} (hN : N.Nodup) {i j : Nat} {x : Str} (a : N[i]? = some x) (b : N[j]? = some x) : i = j := by
  obtain ⟨h1, e1⟩ := List.getElem?_eq_some_iff.mp a
  obtain ⟨h2, e2⟩ := List.getElem?_eq_some_iff.mp b
  exact (List.getElem_inj hN).mp (e1.trans e2.symm)
theorem store_ok2 {M : Model} {A : Around} {E : Value → Shared → Prop} {i : Nat} {x : Str} {v : V} {u : Value} {Q : Unit → Shared → Prop} (I : Inv X pins σ H s) (hN : X.N.Nodup) (hi : X.N[i]? = some x) (hx : Loc X.env.scope x) (r : RelV v u)
    (h : ∀ s', Inv X pins (σ.set i (some v)) H s' → (∃ a, Heap.SameBut a s.heap s'.heap ∧ (a = X.env.locals ∨ X.env.cells.lookup x = some a)) → Q () s') (hf : X.fn x = true ∨ X.env.scope.names.lookup x = some .local := by first | exact .inl rfl | exact .inr rfl | assumption) : wpAny M A (storeName X.env x u) Q E s := by
  obtain ⟨m, hn, hl⟩ := id I.loc
  have hcls : (X.env.scope.kind == .class || (X.env.scope.kind == .module && X.env.locals != X.env.globals)) = false := by rw [I.ok.kind]; rfl
  have hiσ : i < σ.length := by rw [I.len]; exact (List.getElem?_eq_some_iff.mp hi).1
  have cne := I.cne
  have tracked : ∀ {a : Addr} {h' : Heap}, (∃ o, s.heap.get? a = some o ∧ H a = none) → Heap.SameBut a s.heap h' → HOk X.prog X.w H h' := fun {a h'} ha hs b ob e => by
    obtain ⟨_, _, hfree⟩ := ha
    refine (I.hok b ob e).stay (fun c w' hc q => (hs.2 c ?_).trans q) (fun _ q => q) fun _ _ q => q
    rintro rfl
    rcases hc with rfl | hc
    · rw [hfree] at e; cases e
    · rw [hfree] at hc; cases hc
  rcases hx with hk | hk
  · refine wpAny_storeName_local hk hn (fun h' hn' hs => ?_) hcls
    obtain ⟨oL, _, _, hoL, _⟩ := id hn
    refine h _ ⟨I.ok, I.os, I.bare, ⟨fun b o e n hb hx => ?_, fun b o e n hb hx => ?_, I.base.free, fun b o e hx => ?_, I.base.tups, I.base.frzs, I.base.tbls⟩, ⟨_, hn', fun j y v' e1 e2 e3 => ?_⟩, fun y c e => ?_, I.free, I.freeC, fun p hp => ?_, tracked ⟨oL, hoL, I.free⟩ hs, by simpa using I.len⟩ ⟨_, hs, .inl rfl⟩
    · exact (hs.2 b (Nat.ne_of_lt (Nat.lt_of_lt_of_le (Heap.lt_size e) I.ok.above))).trans (I.base.keep b o e n hb hx)
    · obtain ⟨sl, e1⟩ := I.base.slot b o e n hb hx
      exact ⟨sl, (hs.2 b (Nat.ne_of_lt (Nat.lt_of_lt_of_le (Heap.lt_size e) I.ok.above))).trans e1⟩
    · obtain ⟨o', e1⟩ := I.base.there b o e hx
      exact ⟨o', (hs.2 b (Nat.ne_of_lt (Nat.lt_of_lt_of_le (Heap.lt_size e) I.ok.above))).trans e1⟩
    · by_cases hj : j = i
      · subst hj
        rw [hi] at e1; cases e1
        rw [List.getElem?_set_self hiσ] at e2
        cases e2
        exact ⟨u, r, .inl ⟨hk, by simp⟩⟩
      · rw [List.getElem?_set_ne (Ne.symm hj)] at e2
        obtain ⟨u', r', q⟩ := hl j y v' e1 e2 e3
        refine ⟨u', r', ?_⟩
        rcases q with ⟨k, e⟩ | ⟨k, c, e, z⟩
        · refine .inl ⟨k, ?_⟩
          have : y ≠ x := fun e => hj (nodup_ix hN e1 (e ▸ hi))
          simp [this, e]
        · exact .inr ⟨k, c, e, z.sameBut hs (cne y c e)⟩
    · obtain ⟨w', z⟩ := I.cell y c e
      exact ⟨w', z.sameBut hs (cne y c e)⟩
    · obtain ⟨e, n, ne, nf, d⟩ := I.pin p hp
      exact ⟨(hs.2 p.1 ne).trans e, n, ne, nf, d⟩
  · have hfn : X.fn x = true := by
      rcases hf with z | z
      · exact z
      · rw [z] at hk; cases hk
    obtain ⟨c, hc⟩ := I.ok.has x (.inl hk)
    obtain ⟨w', z⟩ := I.cell x c hc
    refine wpAny_storeName_cell I.ok.kind hk hc z (fun h' hc' hs => ?_)
    obtain ⟨oc, hoc, hocd⟩ := id z
    refine h { s with heap := h' } ⟨I.ok, I.os, I.bare, ⟨fun b o e n hb hx => ?_, fun b o e n hb hx => ?_, I.base.free, fun b o e hx => ?_, I.base.tups, I.base.frzs, I.base.tbls⟩, ⟨m, hn.sameBut hs (Ne.symm (cne x c hc)), fun j y v' e1 e2 e3 => ?_⟩, fun y c' e => ?_, I.free, I.freeC, fun p hp => ?_, tracked ⟨oc, hoc, I.freeC x c hc⟩ hs, by simpa using I.len⟩ ⟨c, hs, .inr hc⟩
    · exact (hs.2 b (Nat.ne_of_lt (Nat.lt_of_lt_of_le (Heap.lt_size e) (I.ok.cab x c hfn hc)))).trans (I.base.keep b o e n hb hx)
    · obtain ⟨sl, e1⟩ := I.base.slot b o e n hb hx
      exact ⟨sl, (hs.2 b (Nat.ne_of_lt (Nat.lt_of_lt_of_le (Heap.lt_size e) (I.ok.cab x c hfn hc)))).trans e1⟩
    · obtain ⟨o', e1⟩ := I.base.there b o e hx
      exact ⟨o', (hs.2 b (Nat.ne_of_lt (Nat.lt_of_lt_of_le (Heap.lt_size e) (I.ok.cab x c hfn hc)))).trans e1⟩
    · by_cases hj : j = i
      · subst hj
        rw [hi] at e1; cases e1
        rw [List.getElem?_set_self hiσ] at e2
        cases e2
        exact ⟨u, r, .inr ⟨.inl hk, c, hc, hc'⟩⟩
      · rw [List.getElem?_set_ne (Ne.symm hj)] at e2
        obtain ⟨u', r', q⟩ := hl j y v' e1 e2 e3
        refine ⟨u', r', ?_⟩
        rcases q with q | ⟨k, c', e, z'⟩
        · exact .inl q
        · refine .inr ⟨k, c', e, z'.sameBut hs ?_⟩
          rintro rfl
          exact hj (nodup_ix hN e1 (I.ok.inj _ _ _ e hc ▸ hi))
    · by_cases hcc : c' = c
      · subst hcc; exact ⟨_, hc'⟩
      · obtain ⟨w2, z2⟩ := I.cell y c' e
        exact ⟨w2, z2.sameBut hs hcc⟩
    · obtain ⟨e, n, ne, nf, d⟩ := I.pin p hp
      refine ⟨(hs.2 p.1 ?_).trans e, n, ne, nf, d⟩
      intro q
      rw [q, hoc] at e
      have q' : oc = p.2 := Option.some.inj e
      exact d w' (by rw [← q']; exact hocd)
theorem store_ok {M : Model} {A : Around} {E : Value → Shared → Prop} {i : Nat} {x : Str} {v : V} {u : Value} {Q : Unit → Shared → Prop} (I : Inv X pins σ H s) (hN : X.N.Nodup) (hi : X.N[i]? = some x) (hx : Loc X.env.scope x) (r : RelV v u)
    (h : ∀ s', Inv X pins (σ.set i (some v)) H s' → Q () s') (hf : X.fn x = true ∨ X.env.scope.names.lookup x = some .local := by first | exact .inl rfl | exact .inr rfl | assumption) : wpAny M A (storeName X.env x u) Q E s :=
  store_ok2 I hN hi hx r (fun s' I' _ => h s' I') hf
theorem Inv.call' {s' : Shared} {ch : List Addr} (I : Inv X pins σ H s) (ho : s'.os = s.os) (u : Un (frs X.stack) ch H H' s.heap s'.heap) (hok : HOk X.prog X.w H' s'.heap) (hg : AllBare s'.gens)
    (hch : ∀ b ∈ ch, (b ∈ X.ex ∨ X.s₀.heap.objs.size ≤ b) ∧ b ≠ X.env.locals ∧ (∀ x c, X.env.cells.lookup x = some c → c ≠ b) ∧ ∀ p ∈ X.pn ++ pins, p.1 ≠ b) : Inv X pins σ H' s' := by
  obtain ⟨h', g', d', t', o'⟩ := s'
  have e : o' = s.os := ho
  subst e
  exact I.call (g' := g') (t' := t') (d' := d') u hok hg hch
end
noncomputable abbrev XK := Value → Option Addr → Hp → Prop
noncomputable abbrev St := List (Option V)
noncomputable abbrev VK := V → Hp → Prop
noncomputable abbrev TE := St → Hp → VK → Prop
noncomputable abbrev TT := St → Hp → (Bool → Hp → Prop) → Prop
noncomputable abbrev TA := St → Hp → (List V → Hp → Prop) → Prop
structure Ends where
  nx : St → Hp → Prop
  rt : VK
  bk : St → Hp → Prop := fun _ _ => False
  ct : St → Hp → Prop := fun _ _ => False
noncomputable abbrev TS := Ends → St → Hp → Prop
noncomputable def EP (X : Cx) (pins : List (Addr × Obj)) (σ : St) (Q : VK) (u : Value) (s' : Shared) : Prop := ∃ v H', Inv X pins σ H' s' ∧ RelV v u ∧ Q v H'
noncomputable def TP (X : Cx) (pins : List (Addr × Obj)) (σ : St) (Q : Bool → Hp → Prop) (b : Bool) (s' : Shared) : Prop := ∃ H', Inv X pins σ H' s' ∧ Q b H'
noncomputable def AP (X : Cx) (pins : List (Addr × Obj)) (σ : St) (Q : List V → Hp → Prop) (us : List Value) (s' : Shared) : Prop := ∃ vs H', Inv X pins σ H' s' ∧ Vals vs us ∧ Q vs H'
noncomputable def SP (X : Cx) (pins : List (Addr × Obj)) (D : Ends) (f : Flow) (s' : Shared) : Prop :=
  match f with
  | .next => ∃ σ' H', Inv X pins σ' H' s' ∧ D.nx σ' H'
  | .brk => ∃ σ' H', Inv X pins σ' H' s' ∧ D.bk σ' H'
  | .cont => ∃ σ' H', Inv X pins σ' H' s' ∧ D.ct σ' H'
  | .ret u => ∃ v σ' H', Inv X pins σ' H' s' ∧ RelV v u ∧ D.rt v H'
noncomputable def PE (X : Cx) (e : Expr) (t : TE) : Prop :=
  ∀ (pins : List (Addr × Obj)) (s : Shared) (σ : St) (H : Hp) (Q : VK), Inv X pins σ H s → t σ H Q → wpAny (model X.prog X.w) X.A (eval e X.env) (EP X pins σ Q) X.xe s
noncomputable def PT (X : Cx) (e : Expr) (t : TT) : Prop :=
  ∀ (pins : List (Addr × Obj)) (s : Shared) (σ : St) (H : Hp) (Q : Bool → Hp → Prop), Inv X pins σ H s → t σ H Q → wpAny (model X.prog X.w) X.A (isTrue e X.env (eval e X.env)) (TP X pins σ Q) X.xe s
noncomputable def PW (X : Cx) (e : Expr) (t : TT) : Prop :=
  ∀ (whole : Sem Value) (pins : List (Addr × Obj)) (s : Shared) (σ : St) (H : Hp) (Q : Bool → Hp → Prop), Inv X pins σ H s → t σ H Q → wpAny (model X.prog X.w) X.A (isTrue e X.env whole) (TP X pins σ Q) X.xe s
theorem PW.pt {X : Cx} {e : Expr} {t : TT} (h : PW X e t) : PT X e t := h _
noncomputable def PA (X : Cx) (es : List Expr) (t : TA) : Prop :=
  ∀ (pos : Pos) (pins : List (Addr × Obj)) (s : Shared) (σ : St) (H : Hp) (Q : List V → Hp → Prop), Inv X pins σ H s → t σ H Q → wpAny (model X.prog X.w) X.A (spliced (backTo pos (starEach es X.env))) (AP X pins σ Q) X.xe s
noncomputable def PS (X : Cx) (st : Stmt) (t : TS) : Prop :=
  ∀ (pins : List (Addr × Obj)) (s : Shared) (σ : St) (H : Hp) (D : Ends), Inv X pins σ H s → t D σ H → wpAny (model X.prog X.w) X.A (exec st X.env) (SP X pins D) X.xe s
noncomputable def PSs (X : Cx) (st : List Stmt) (t : TS) : Prop :=
  ∀ (pins : List (Addr × Obj)) (s : Shared) (σ : St) (H : Hp) (D : Ends), Inv X pins σ H s → t D σ H → wpAny (model X.prog X.w) X.A (execs st X.env) (SP X pins D) X.xe s
theorem thn {α : Type} {t : Sem α} {Q Q' : α → Shared → Prop} {M : Model} {A : Around} {E : Value → Shared → Prop} {s : Shared} (h : wpAny M A t Q E s) (hQ : ∀ a s, Q a s → Q' a s) : wpAny M A t Q' E s := wpAny_mono h hQ fun _ _ x => x
end L2
namespace L2
open PySem PySem.Spec PyProof.Rows
section
variable {X : Cx}
noncomputable def tVar (i : Nat) : TE := fun σ H Q => ∃ v, σ[i]? = some (some v) ∧ Q v H
noncomputable def tC (v : V) : TE := fun _ H Q => Q v H
theorem pe_var {i : Nat} {x : Str} {pos : Pos} (hN : X.N[i]? = some x) (hv : Vis X.env.scope x) (hd : (x == ("__debug__" : Str)) = false := by decide) (hcd : (x == ("__classdict__" : Str)) = false := by decide) : PE X (.Name x pos) (tVar i) := by
  intro pins s σ H Q I h
  obtain ⟨v, e, h⟩ := h
  obtain ⟨m, hn, hl⟩ := I.loc
  obtain ⟨u, r, l⟩ := hl i x v hN e hv
  have fin : EP X pins σ Q u s := ⟨v, H, I, r, h⟩
  rcases l with ⟨hk, hm⟩ | ⟨hk, c, hc, hcell⟩
  · exact wpAny_Name (wpAny_loadName_local I.ok.kind hk hn hm fin) hd
  · rcases hk with hk | hk
    · exact wpAny_Name (wpAny_loadName_cell I.ok.kind hk hc hcell fin) hd
    · exact wpAny_Name (wpAny_loadName_free I.ok.kind hk hc hcell fin hcd) hd
theorem pe_int {i j pos} : PE X (.Constant (.int i) j pos) (tC (.int i)) := fun _ _ _ H _ I h => wpAny_Constant_int ⟨.int i, H, I.tok _, ⟨_, rfl⟩, h⟩
theorem pe_bl {b j pos} : PE X (.Constant (.bool b) j pos) (tC (.bl b)) := fun _ _ _ H _ I h => Constant_bool ⟨.bl b, H, I, rfl, h⟩
theorem pe_non {j pos} : PE X (.Constant .none j pos) (tC .non) := fun _ _ _ H _ I h => Constant_none ⟨.non, H, I, rfl, h⟩
theorem pe_str {x j pos} : PE X (.Constant (.str x) j pos) (tC (.str x)) := fun _ _ _ H _ I h => Calls.Constant_str ⟨.str x, H, I.tok _, ⟨_, rfl⟩, h⟩
noncomputable def Gl (X : Cx) (x : Str) : Prop := X.env.kindOf x = some .globalImplicit
theorem ld_glob {E : Value → Shared → Prop} {pins : List (Addr × Obj)} {s : Shared} {σ : St} {H : Hp} {x : Str} {u : Value} {pos : Pos} {Q : Value → Shared → Prop} (I : Inv X pins σ H s) (hg : Gl X x) (hm : X.mg x = some u) (h : Q u s)
    (hd : (x == ("__debug__" : Str)) = false := by decide) : wpAny (model X.prog X.w) X.A (eval (.Name x pos) X.env) Q E s :=
  Calls.Name_function_global I.ok.kind hg (Calls.loadGlobal_global (by rw [I.ok.glob]; exact I.mod.glob.keeps I.bk) hm h) hd
theorem ld_blt {E : Value → Shared → Prop} {pins : List (Addr × Obj)} {s : Shared} {σ : St} {H : Hp} {x : Str} {u : Value} {pos : Pos} {Q : Value → Shared → Prop} (I : Inv X pins σ H s) (hg : Gl X x) (hm : X.mg x = none) (hv : bootBuiltins x = some u) (h : Q u s)
    (hn : x ≠ "__name__" := by decide) (hd : (x == ("__debug__" : Str)) = false := by decide) : wpAny (model X.prog X.w) X.A (eval (.Name x pos) X.env) Q E s := by
  obtain ⟨mb, h1, h2⟩ := I.mod.blt
  exact Calls.Name_function_global I.ok.kind hg (Calls.loadGlobal_builtin (by rw [I.ok.glob]; exact I.mod.glob.keeps I.bk) hm (by rw [I.ok.blt]; exact h1.keeps I.bk) ((h2 x hn).trans hv) h) hd
theorem pe_glob {x : Str} {v : V} {u : Value} {pos : Pos} (hg : Gl X x) (hm : X.mg x = some u) (r : RelV v u) (hd : (x == ("__debug__" : Str)) = false := by decide) : PE X (.Name x pos) (tC v) :=
  fun _ _ _ H _ I h => ld_glob I hg hm ⟨v, H, I, r, h⟩ hd
theorem pe_bltn {x : Str} {v : V} {u : Value} {pos : Pos} (hg : Gl X x) (hm : X.mg x = none) (hv : bootBuiltins x = some u) (r : RelV v u) (hn : x ≠ "__name__" := by decide) (hd : (x == ("__debug__" : Str)) = false := by decide) : PE X (.Name x pos) (tC v) :=
  fun _ _ _ H _ I h => ld_blt I hg hm hv ⟨v, H, I, r, h⟩ hn hd
noncomputable def t2I (ta tb : TE) (k : Int → Int → Hp → Prop) : St → Hp → Prop := fun σ H => ta σ H fun x H1 => tb σ H1 fun y H2 => ∃ i j, x = .int i ∧ y = .int j ∧ k i j H2
noncomputable def tAdd (ta tb : TE) : TE := fun σ H Q => t2I ta tb (fun i j H2 => Q (.int (i + j)) H2) σ H
noncomputable def tSub (ta tb : TE) : TE := fun σ H Q => t2I ta tb (fun i j H2 => Q (.int (i - j)) H2) σ H
noncomputable def tMul (ta tb : TE) : TE := fun σ H Q => t2I ta tb (fun i j H2 => (-(2 ^ 64) < i ∧ i < 2 ^ 64) ∧ Q (.int (i * j)) H2) σ H
variable {a b : Expr} {ta tb : TE} {pos : Pos}
noncomputable def PC (X : Cx) (op : CmpOp) (a b : Expr) (t : TE) : Prop :=
  ∀ (pins : List (Addr × Obj)) (s : Shared) (σ : St) (H : Hp) (Q : VK), Inv X pins σ H s → t σ H Q →
    wpAny (model X.prog X.w) X.A (eval a X.env) (fun v s₁ => wpAny (model X.prog X.w) X.A (eval b X.env) (fun u s₂ => wpAny (model X.prog X.w) X.A (compareOp op v u) (EP X pins σ Q) X.xe s₂) X.xe s₁) X.xe s
noncomputable def tCmp (p : Int → Int → Bool) (ta tb : TE) : TE := fun σ H Q => t2I ta tb (fun i j H2 => Q (.bl (p i j)) H2) σ H
noncomputable abbrev tLt : TE → TE → TE := tCmp fun i j => decide (i < j)
noncomputable abbrev tLe : TE → TE → TE := tCmp fun i j => decide (i ≤ j)
noncomputable abbrev tGt : TE → TE → TE := tCmp fun i j => decide (j < i)
noncomputable abbrev tGe : TE → TE → TE := tCmp fun i j => decide (j ≤ i)
noncomputable abbrev tEqI : TE → TE → TE := tCmp fun i j => decide (i = j)
noncomputable abbrev tNeI : TE → TE → TE := tCmp fun i j => !decide (i = j)
noncomputable def tIsN (ta : TE) : TE := fun σ H Q => ta σ H fun x H1 => Q (.bl (decide (x = .non))) H1
noncomputable def tNotN (ta : TE) : TE := fun σ H Q => ta σ H fun x H1 => Q (.bl (!decide (x = .non))) H1
noncomputable def tB (t : TE) : TT := fun σ H Q => t σ H fun x H1 => ∃ c, x = .bl c ∧ Q c H1
theorem pt_val {e : Expr} {t : TE} (h : PE X e t) (he : ∀ whole, isTrue e X.env whole = (do let v ← whole; standAt e.pos; holding [v] (truthy v)) := by intro _; rfl) : PT X e (tB t) := by
  intro pins s σ H Q I hw
  refine isTrue_plain (thn (h pins s σ H _ I hw) fun v s1 ⟨x, H1, I1, r1, q1⟩ => ?_) (he _)
  obtain ⟨d, rfl, q⟩ := q1
  cases r1
  exact wpAny_truthy_bool ⟨H1, I1, q⟩
variable {tA tB' : TT} {rest : List Expr}
noncomputable def tAnd (t u : TT) : TT := fun σ H Q => t σ H fun c H1 => if c = true then u σ H1 Q else Q false H1
noncomputable def tOr (t u : TT) : TT := fun σ H Q => t σ H fun c H1 => if c = true then Q true H1 else u σ H1 Q
noncomputable def tNot (t : TT) : TT := fun σ H Q => t σ H fun c H1 => Q (!c) H1
theorem pw_and1 (ha : PT X a tA) : PW X (.BoolOp .And [a] pos) tA := by
  intro wh pins s σ H Q I h
  refine isTrue_and (thn (ha pins s σ H Q I h) fun c s1 e => ?_)
  cases c with
  | true => exact isTrue_and_nil e
  | false => exact e
theorem pw_or1 (ha : PT X a tA) : PW X (.BoolOp .Or [a] pos) tA := by
  intro wh pins s σ H Q I h
  refine isTrue_or (thn (ha pins s σ H Q I h) fun c s1 e => ?_)
  cases c with
  | false => exact isTrue_or_nil e
  | true => exact e
theorem pw_and (ha : PT X a tA) (hb : PW X (.BoolOp .And (b :: rest) pos) tB') : PW X (.BoolOp .And (a :: b :: rest) pos) (tAnd tA tB') := by
  intro wh pins s σ H Q I h
  refine isTrue_and (thn (ha pins s σ H _ I h) fun c s1 ⟨H1, I1, q1⟩ => ?_)
  cases c with
  | true => exact hb wh pins s1 σ H1 Q I1 q1
  | false => exact ⟨H1, I1, q1⟩
theorem pw_or (ha : PT X a tA) (hb : PW X (.BoolOp .Or (b :: rest) pos) tB') : PW X (.BoolOp .Or (a :: b :: rest) pos) (tOr tA tB') := by
  intro wh pins s σ H Q I h
  refine isTrue_or (thn (ha pins s σ H _ I h) fun c s1 ⟨H1, I1, q1⟩ => ?_)
  cases c with
  | true => exact ⟨H1, I1, q1⟩
  | false => exact hb wh pins s1 σ H1 Q I1 q1
theorem pt_not (ha : PT X a tA) : PT X (.UnaryOp .Not a pos) (tNot tA) := by
  intro pins s σ H Q I h
  exact isTrue_not (ha pins s σ H (fun c H1 => Q (!c) H1) I h)
noncomputable def tAndV (ta tb : TE) : TE := fun σ H Q => ta σ H fun x H1 => ∃ c, x = .bl c ∧ if c = true then tb σ H1 Q else Q (.bl false) H1
noncomputable def tOrV (ta tb : TE) : TE := fun σ H Q => ta σ H fun x H1 => ∃ c, x = .bl c ∧ if c = true then Q (.bl true) H1 else tb σ H1 Q
noncomputable def tNotV (ta : TE) : TE := fun σ H Q => ta σ H fun x H1 => ∃ c, x = .bl c ∧ Q (.bl (!c)) H1
theorem pe_one {op} {t : TE} (h : PE X a t) : PE X (.BoolOp op [a] pos) t := fun pins s σ H Q I hw => BoolOp_one (h pins s σ H Q I hw)
theorem pe_and (ha : PE X a ta) (hb : PE X (.BoolOp .And (b :: rest) pos) tb) : PE X (.BoolOp .And (a :: b :: rest) pos) (tAndV ta tb) := by
  intro pins s σ H Q I h
  refine BoolOp_and (thn (ha pins s σ H _ I h) fun v s1 ⟨x, H1, I1, r1, q1⟩ => ?_)
  obtain ⟨c, rfl, q1⟩ := q1
  cases r1
  refine wpAny_truthy_bool ?_
  cases c with
  | true => exact hb pins s1 σ H1 Q I1 q1
  | false => exact ⟨.bl false, H1, I1, rfl, q1⟩
theorem pe_not (ha : PE X a ta) : PE X (.UnaryOp .Not a pos) (tNotV ta) := by
  intro pins s σ H Q I h
  refine UnaryOp_ (thn (ha pins s σ H _ I h) fun v s1 ⟨x, H1, I1, r1, q1⟩ => ?_)
  obtain ⟨c, rfl, q1⟩ := q1
  cases r1
  exact not_of (wpAny_truthy_bool ⟨.bl (!c), H1, I1, rfl, q1⟩)
noncomputable def tIf (t : TT) (ta tb : TE) : TE := fun σ H Q => t σ H fun c H1 => if c = true then ta σ H1 Q else tb σ H1 Q
end
end L2
namespace L2
open PySem PySem.Spec PyProof.Rows
noncomputable def SqL (K : PySem.W.Frag) (H : Hp) (a : Addr) (xs : List V) : Prop :=
  Rd H a (.lst xs) ∨
    ∃ (o : Obj) (its : Array Value) (n : Nat), K.lookup a = some o ∧ o.cls = .type "list" ∧ o.dict = none ∧ o.data = .seq its n ∧ its.size ≤ sizeLine ∧ Vals xs its.toList
noncomputable def SqT (K : PySem.W.Frag) (H : Hp) (a : Addr) (xs : List V) : Prop :=
  Rd H a (.tup xs) ∨
    ∃ (o : Obj) (its : Array Value) (n : Nat), K.lookup a = some o ∧ o.cls = .type "tuple" ∧ o.data = .seq its n ∧ its.size ≤ sizeLine ∧ Vals xs its.toList
noncomputable def absV : Value → Option V
  | .none => some .non
  | .bool b => some (.bl b)
  | .int i _ => some (.int i)
  | .str x _ => some (.str x)
  | .bytes b _ => some (.byt b)
  | .float b _ => some (.flt b)
  | .ref a => some (.ref a)
  | .type n => some (.ty n)
  | _ => none
theorem RelV.abs {x : V} {u : Value} (r : RelV x u) : absV u = some x := by
  cases x with
  | non => cases r; rfl
  | bl _ => cases r; rfl
  | int _ => obtain ⟨t, rfl⟩ := r; rfl
  | str _ => obtain ⟨t, rfl⟩ := r; rfl
  | byt _ => obtain ⟨t, rfl⟩ := r; rfl
  | flt _ => obtain ⟨t, rfl⟩ := r; rfl
  | ref _ => cases r; rfl
  | ty _ => cases r; rfl
theorem RelV.inj {x y : V} {u : Value} (r : RelV x u) (q : RelV y u) : x = y := Option.some.inj (r.abs.symm.trans q.abs)
theorem Vals.inj : ∀ {xs ys : List V} {us : List Value}, Vals xs us → Vals ys us → xs = ys
  | _, _, _, .nil, .nil => rfl
  | _, _, _, .cons r t, .cons r' t' => by rw [r.inj r', Vals.inj t t']
section
variable {X : Cx} {pins : List (Addr × Obj)} {σ : St} {H : Hp} {s : Shared} {a : Addr} {xs ys : List V}
theorem SqL.of {K : PySem.W.Frag} (h : H a = some (.lst xs)) : SqL K H a xs := .inl (.inl h)
theorem SqT.of {K : PySem.W.Frag} (h : H a = some (.tup xs)) : SqT K H a xs := .inl (.inl h)
theorem Inv.list (I : Inv X pins σ H s) (h : SqL X.K H a xs) : ∃ its : List Value, Vals xs its ∧ PlainL s.heap a its.toArray ∧ xs.length ≤ sizeLine := by
  rcases h with h | ⟨o, its, n, hk, hc, hd, hs, hz, r⟩
  · obtain ⟨z, its, n, r, e⟩ := h.ok I.hok
    exact ⟨its, r, ⟨_, n, e, rfl, rfl, rfl⟩, z⟩
  · refine ⟨its.toList, r, ⟨o, n, I.kIn a o hk, hc, hd, by simpa using hs⟩, ?_⟩
    have e := r.length
    simp only [Array.length_toList] at e
    omega
theorem Inv.tuple (I : Inv X pins σ H s) (h : SqT X.K H a xs) : ∃ its : List Value, Vals xs its ∧ IsTup s.heap a its.toArray ∧ xs.length ≤ sizeLine := by
  rcases h with h | ⟨o, its, n, hk, hc, hs, hz, r⟩
  · obtain ⟨z, its, r, p⟩ := h.ok I.hok
    exact ⟨its, r, p, z⟩
  · refine ⟨its.toList, r, ⟨o, I.kIn a o hk, hc, n, by simpa using hs⟩, ?_⟩
    have e := r.length
    simp only [Array.length_toList] at e
    omega
theorem Inv.list_inj (I : Inv X pins σ H s) (h : SqL X.K H a xs) (h' : SqL X.K H a ys) : xs = ys := by
  obtain ⟨its, r, ⟨o, n, e, _, _, d⟩, _⟩ := I.list h
  obtain ⟨its', r', ⟨o', n', e', _, _, d'⟩, _⟩ := I.list h'
  rw [e] at e'; cases e'
  rw [d] at d'
  injection d' with d1 _
  have : its = its' := by simpa using congrArg Array.toList d1
  subst this
  exact r.inj r'
theorem Inv.tuple_inj (I : Inv X pins σ H s) (h : SqT X.K H a xs) (h' : SqT X.K H a ys) : xs = ys := by
  obtain ⟨its, r, ⟨o, e, _, n, d⟩, _⟩ := I.tuple h
  obtain ⟨its', r', ⟨o', e', _, n', d'⟩, _⟩ := I.tuple h'
  rw [e] at e'; cases e'
  rw [d] at d'
  injection d' with d1 _
  have : its = its' := by simpa using congrArg Array.toList d1
  subst this
  exact r.inj r'
end
noncomputable abbrev Cx.wish (X : Cx) (E : Value → Shared → Prop) : Cx := { X with xe := E }
noncomputable abbrev Cx.nox (X : Cx) : Cx := X.wish fun _ _ => False
theorem Cx.Ok.wish {X : Cx} (ok : X.Ok) (E : Value → Shared → Prop) : (X.wish E).Ok :=
  ⟨ok.mod, ok.kind, ok.glob, ok.blt, ok.above, ok.inj, ok.has, ok.cab, ok.hd, ok.frames, ok.stk, ok.exf, ok.bs, ok.bsz, ok.noex, ok.exfs, ok.funs, ok.frf⟩
theorem Cx.Ok.unwish {X : Cx} {E : Value → Shared → Prop} (ok : (X.wish E).Ok) : X.Ok :=
  ⟨ok.mod, ok.kind, ok.glob, ok.blt, ok.above, ok.inj, ok.has, ok.cab, ok.hd, ok.frames, ok.stk, ok.exf, ok.bs, ok.bsz, ok.noex, ok.exfs, ok.funs, ok.frf⟩
section
variable {X : Cx} {pins : List (Addr × Obj)} {σ : St} {H : Hp} {s : Shared} {E : Value → Shared → Prop}
theorem Inv.wish (I : Inv X pins σ H s) (E : Value → Shared → Prop) : Inv (X.wish E) pins σ H s := ⟨I.ok.wish E, I.os, I.bare, I.base, I.loc, I.cell, I.free, I.freeC, I.pin, I.hok, I.len⟩
theorem Inv.unwish (I : Inv (X.wish E) pins σ H s) : Inv X pins σ H s := ⟨I.ok.unwish, I.os, I.bare, I.base, I.loc, I.cell, I.free, I.freeC, I.pin, I.hok, I.len⟩
theorem SP.unwish {D : Ends} {f : Flow} {s' : Shared} (h : SP (X.wish E) pins D f s') : SP X pins D f s' := by
  cases f with
  | next => obtain ⟨σ', H', I, q⟩ := h; exact ⟨σ', H', I.unwish, q⟩
  | brk => obtain ⟨σ', H', I, q⟩ := h; exact ⟨σ', H', I.unwish, q⟩
  | cont => obtain ⟨σ', H', I, q⟩ := h; exact ⟨σ', H', I.unwish, q⟩
  | ret u => obtain ⟨v, σ', H', I, r, q⟩ := h; exact ⟨v, σ', H', I.unwish, r, q⟩
theorem PSs.nox {st : List Stmt} {t : TS} (h : PSs X.nox st t) : PSs X st t := fun pins s σ H D I hw =>
  wpAny_mono (h pins s σ H D (I.wish _) hw) (fun _ _ q => q.unwish) fun _ _ z => False.elim z
end
section
variable {X : Cx} {st : Stmt} {rest : List Stmt} {t u : TS} {e : Expr} {te : TE} {pos : Pos}
noncomputable def tNext : TS := fun D σ H => D.nx σ H
noncomputable def tSeq (t u : TS) : TS := fun D σ H => t { D with nx := u D } σ H
theorem pss_nil : PSs X [] tNext := fun _ _ σ H _ I h => wpAny_execs_nil ⟨σ, H, I, h⟩
theorem pss_cons (h1 : PS X st t) (h2 : PSs X rest u) : PSs X (st :: rest) (tSeq t u) := by
  intro pins s σ H D I h
  refine wpAny_execs_cons (thn (h1 pins s σ H { D with nx := u D } I h) fun f s1 q => ?_)
  cases f with
  | next =>
    obtain ⟨σ', H', I', q⟩ := q
    exact h2 pins s1 σ' H' D I' q
  | ret v => exact q
  | brk => exact q
  | cont => exact q
theorem pss_one (h1 : PS X st t) : PSs X [st] t := by
  intro pins s σ H D I h
  refine wpAny_execs_cons (thn (h1 pins s σ H D I h) fun f s1 q => ?_)
  cases f with
  | next => exact wpAny_execs_nil q
  | ret v => exact q
  | brk => exact q
  | cont => exact q
noncomputable def tBreak : TS := fun D σ H => D.bk σ H
noncomputable def tCont : TS := fun D σ H => D.ct σ H
theorem Inv.quiet {pins : List (Addr × Obj)} {σ : St} {H : Hp} {s : Shared} (I : Inv X pins σ H s) : interactive X.env = false := by simp [interactive, I.ok.kind]
noncomputable def tDrop (te : TE) : TS := fun D σ H => te σ H fun _ H1 => D.nx σ H1
theorem ps_expr (he : PE X e te) (hs : swapsWith e none pos.line X.env = pure false := by rfl) : PS X (.Expr e pos) (tDrop te) := by
  intro pins s σ H D I h
  exact wpAny_Expr_any (thn (he pins s σ H _ I h) fun v s1 ⟨x, H1, I1, r1, q1⟩ => ⟨σ, H1, I1, q1⟩) I.quiet hs
noncomputable def tRet (te : TE) : TS := fun D σ H => te σ H D.rt
theorem ps_ret (he : PE X e te) : PS X (.Return (some e) pos) (tRet te) := by
  intro pins s σ H D I h
  exact wpAny_Return_some (thn (he pins s σ H _ I h) fun v s1 ⟨x, H1, I1, r1, q1⟩ => ⟨x, σ, H1, I1, r1, q1⟩)
noncomputable def tRetN : TS := fun D _ H => D.rt .non H
noncomputable def tIfS (c : TT) (t u : TS) : TS := fun D σ H => c σ H fun b H1 => if b = true then t D σ H1 else u D σ H1
theorem ps_if {c : Expr} {a b : List Stmt} {tc : TT} (hc : PT X c tc) (ha : PSs X a t) (hb : PSs X b u) : PS X (.If c a b pos) (tIfS tc t u) := by
  intro pins s σ H D I h
  refine wpAny_If (thn (hc pins s σ H _ I h) fun d s1 ⟨H1, I1, q1⟩ => ?_)
  cases d with
  | true => exact ha pins s1 σ H1 D I1 q1
  | false => exact hb pins s1 σ H1 D I1 q1
noncomputable def tNever : TS := fun _ _ _ => False
end
noncomputable abbrev TG := V → St → Hp → (St → Hp → Prop) → Prop
noncomputable abbrev TGs := List V → St → Hp → (St → Hp → Prop) → Prop
noncomputable def PG (X : Cx) (target : Expr) (t : TG) : Prop :=
  ∀ (pins : List (Addr × Obj)) (s : Shared) (σ : St) (H : Hp) (v : V) (u : Value) (Q : St → Hp → Prop), Inv X pins σ H s → RelV v u → t v σ H Q →
    wpAny (model X.prog X.w) X.A (assign target X.env u) (fun _ s' => ∃ σ' H', Inv X pins σ' H' s' ∧ Q σ' H') X.xe s
noncomputable def PGs (X : Cx) (ts : List Expr) (t : TGs) : Prop :=
  ∀ (pins : List (Addr × Obj)) (s : Shared) (σ : St) (H : Hp) (vs : List V) (us : List Value) (Q : St → Hp → Prop), Inv X pins σ H s → Vals vs us → t vs σ H Q →
    wpAny (model X.prog X.w) X.A (assignInOrder ((assignEach ts X.env).map (·.2)) us) (fun _ s' => ∃ σ' H', Inv X pins σ' H' s' ∧ Q σ' H') X.xe s
noncomputable abbrev TSet := V → V → V → Hp → (Hp → Prop) → Prop
noncomputable def PSet (X : Cx) (t : TSet) : Prop :=
  ∀ (pins : List (Addr × Obj)) (s : Shared) (σ : St) (H : Hp) (o i v : V) (ov iv u : Value) (Q : Hp → Prop), Inv X pins σ H s → RelV o ov → RelV i iv → RelV v u → t o i v H Q →
    wpAny (model X.prog X.w) X.A (setItem ov iv u) (fun _ s' => ∃ H', Inv X pins σ H' s' ∧ Q H') X.xe s
noncomputable abbrev TIp := V → V → Hp → VK → Prop
noncomputable def PIp (X : Cx) (op : Operator) (t : TIp) : Prop :=
  ∀ (pins : List (Addr × Obj)) (s : Shared) (σ : St) (H : Hp) (x y : V) (v u : Value) (Q : VK), Inv X pins σ H s → RelV x v → RelV y u → t x y H Q →
    wpAny (model X.prog X.w) X.A (inplaceOp op v u) (EP X pins σ Q) X.xe s
section
variable {X : Cx} {pos : Pos}
noncomputable def gName (i : Nat) : TG := fun v σ H Q => Q (σ.set i (some v)) H
theorem pg_name {i : Nat} {x : Str} (hN : X.N.Nodup) (hi : X.N[i]? = some x) (hx : Loc X.env.scope x) (hf : X.fn x = true ∨ X.env.scope.names.lookup x = some .local := by first | exact .inl rfl | exact .inr rfl | assumption) : PG X (.Name x pos) (gName i) := by
  intro pins s σ H v u Q I r h
  exact wpAny_assign_Name (store_ok I hN hi hx r (fun s' I' => ⟨_, H, I', h⟩) hf)
noncomputable def gNil : TGs := fun vs σ H Q => vs = [] ∧ Q σ H
noncomputable def gCons (t : TG) (u : TGs) : TGs := fun vs σ H Q => ∃ v r, vs = v :: r ∧ t v σ H fun σ' H' => u r σ' H' Q
theorem pgs_nil : PGs X [] gNil := by
  intro pins s σ H vs us Q I r h
  obtain ⟨e, h⟩ := h
  subst e
  cases r
  exact assignInOrder_nil ⟨σ, H, I, h⟩
theorem pgs_cons {e : Expr} {es : List Expr} {t : TG} {u : TGs} (h1 : PG X e t) (h2 : PGs X es u)
    (hs : (assignEach (e :: es) X.env).map (·.2) = assign e X.env :: (assignEach es X.env).map (·.2) := by rfl) : PGs X (e :: es) (gCons t u) := by
  intro pins s σ H vs us Q I r h
  obtain ⟨v, vr, e1, h⟩ := h
  subst e1
  cases r with
  | cons r rr =>
    rw [hs]
    refine assignInOrder_cons (thn (h1 pins s σ H _ _ _ I r h) fun _ s1 ⟨σ1, H1, I1, q1⟩ => ?_)
    exact h2 pins s1 σ1 H1 _ _ Q I1 rr q1
noncomputable def gTup (K : PySem.W.Frag) (n : Nat) (t : TGs) : TG := fun v σ H Q => ∃ a xs, v = .ref a ∧ SqT K H a xs ∧ xs.length = n ∧ t xs σ H Q
theorem pg_tup {es : List Expr} {k : Nat} {t : TGs} {n : Nat} (hc : X.calm = true) (h : PGs X es t)
    (hn : (assignEach es X.env).length = n := by rfl) (hst : (assignEach es X.env).findIdx? (·.1) = none := by rfl) : PG X (.Tuple es k pos) (gTup X.K n t) := by
  intro pins s σ H v u Q I r hw
  obtain ⟨a, xs, e1, hq, hl, hw⟩ := hw
  subst e1
  cases r
  obtain ⟨its, rv, ht, hz⟩ := I.tuple hq
  refine assign_Tuple_tuple (I.ok.hd hc) ht (by simp [hn, ← hl, rv.length]) hst fun h' hx => ?_
  have I1 : Inv X pins σ H { s with heap := h' } := I.kept (t' := s.toks) fun b o e => hx b o (Nat.ne_of_lt (Heap.lt_size e)) e
  exact h pins _ σ H xs _ Q I1 (by simpa using rv) hw
noncomputable def gSub (to ti : TE) (t : TSet) : TG := fun v σ H Q => to σ H fun o H1 => ti σ H1 fun i H2 => t o i v H2 fun H3 => Q σ H3
noncomputable def tAsg (te : TE) (g : TG) : TS := fun D σ H => te σ H fun x H1 => g x σ H1 D.nx
theorem ps_set {i : Nat} {x : Str} {e : Expr} {te : TE} {pos' : Pos} (hN : X.N.Nodup) (hi : X.N[i]? = some x) (hx : Loc X.env.scope x) (he : PE X e te) (hs : swapsWith e (some (.Name x pos')) pos.line X.env = pure false := by rfl) (hf : X.fn x = true ∨ X.env.scope.names.lookup x = some .local := by first | exact .inl rfl | exact .inr rfl | assumption) :
    PS X (.Assign [.Name x pos'] e pos) (tAsg te (gName i)) := by
  intro pins s σ H D I h
  refine wpAny_Assign_Name (thn (he pins s σ H _ I h) fun v s1 ⟨y, H1, I1, r1, q1⟩ => ?_) hs
  exact store_ok I1 hN hi hx r1 (fun s2 I2 => ⟨_, H1, I2, q1⟩) hf
noncomputable def tPar (i j : Nat) (ta : TA) : TS := fun D σ H => ta σ H fun vs H1 => ∃ v w, vs = [v, w] ∧ D.nx ((σ.set i (some v)).set j (some w)) H1
noncomputable def tAug (i : Nat) (te : TE) (ti : TIp) : TS := fun D σ H => ∃ x, σ[i]? = some (some x) ∧ te σ H fun y H1 => ti x y H1 fun z H2 => D.nx (σ.set i (some z)) H2
noncomputable def tAugS (to ti te : TE) (tget : V → V → Hp → VK → Prop) (tip : TIp) (tset : TSet) : TS := fun D σ H => to σ H fun o H1 => ti σ H1 fun i H2 => tget o i H2 fun x H3 => te σ H3 fun y H4 => tip x y H4 fun z H5 => tset o i z H5 fun H6 => D.nx σ H6
noncomputable def PGet (X : Cx) (t : V → V → Hp → VK → Prop) : Prop :=
  ∀ (pins : List (Addr × Obj)) (s : Shared) (σ : St) (H : Hp) (o i : V) (ov iv : Value) (Q : VK), Inv X pins σ H s → RelV o ov → RelV i iv → t o i H Q →
    wpAny (model X.prog X.w) X.A (getItem ov iv) (EP X pins σ Q) X.xe s
noncomputable def ipI (f : Int → Int → Int) : TIp := fun x y H Q => ∃ i j, x = .int i ∧ y = .int j ∧ Q (.int (f i j)) H
end
section
variable {X : Cx} {pos : Pos}
noncomputable def tWhile (c : TT) (tb : TS) : TS := fun D σ H => ∃ W : Nat → St → Hp → Prop, (∃ m, W m σ H) ∧ ∀ m σ H, W m σ H →
  c σ H fun b H1 => if b = true then ∃ N : St → Hp → Prop, (∀ σ' H', N σ' H' → ∃ m', m' < m ∧ W m' σ' H') ∧ tb { D with nx := N, ct := N, bk := D.nx } σ H1 else D.nx σ H1
end
structure It where
  go : Nat → Hp → Prop
  yld : Nat → Hp → V → Hp → Prop
  stop : Nat → Hp → Prop
noncomputable def FpOk (X : Cx) (pins : List (Addr × Obj)) (H : Hp) (b : Addr) : Prop :=
  H b = none ∧ b ≠ X.env.locals ∧ b ∉ X.fs ∧ (b ∈ X.ex ∨ X.s₀.heap.objs.size ≤ b) ∧ (∀ x c, X.env.cells.lookup x = some c → c ≠ b) ∧ ∀ p ∈ X.pn ++ pins, p.1 ≠ b
theorem Inv.fpOk {X : Cx} {pins : List (Addr × Obj)} {σ : St} {H H' : Hp} {s : Shared} {b : Addr} (I : Inv X pins σ H s) (hb : s.heap.objs.size ≤ b) (hn : H' b = none) : FpOk X pins H' b := by
  refine ⟨hn, Nat.ne_of_gt (Nat.lt_of_lt_of_le I.lt hb), I.nofs hb, .inr (Nat.le_trans I.sz hb), fun x c e z => ?_, fun p hp z => ?_⟩
  · obtain ⟨v, q⟩ := I.cell x c e
    exact absurd (Nat.lt_of_lt_of_le q.lt (by rw [z]; exact hb)) (Nat.lt_irrefl _)
  · exact absurd (Nat.lt_of_lt_of_le (Heap.lt_size (I.pin p hp).1) (by rw [z]; exact hb)) (Nat.lt_irrefl _)
structure Turn (P : Program) (w : World) (K : PySem.W.Frag) (tg : Expr) (J : It) (fp : List Addr) (it : Addr) (tn : Nat → Heap → Prop) : Prop where
  mem : it ∈ fp
  obj : ∀ i h, tn i h → ∀ b ∈ fp, ∃ o, h.get? b = some o ∧ ∀ v, o.data ≠ .cell v
  keep : ∀ i h h', tn i h → (∀ b ∈ fp, ∀ o, h.get? b = some o → h'.get? b = some o) → tn i h'
  item : ∀ (X : Cx), X.prog = P → X.w = w → X.K = K → X.calm = true → ∀ (i : Nat) (pins : List (Addr × Obj)) (s : Shared) (σ : St) (H : Hp) (E : Value → Shared → Prop), Inv X pins σ H s → (∀ b ∈ fp, FpOk X pins H b) → tn i s.heap → J.go i H →
    wpAny (model P w) X.A (pyNext (.ref it)) (fun r s1 => ∃ u, r = some u ∧
      wpAny (model P w) X.A (letOwnedTupleGo tg (.ref it) u) (fun _ s2 => ∃ x H', Inv X pins σ H' s2 ∧ RelV x u ∧ J.yld i H x H' ∧ tn (i + 1) s2.heap ∧ ∀ b ∈ fp, H' b = none) E s1) E s
  done : ∀ (X : Cx), X.prog = P → X.w = w → X.K = K → X.calm = true → ∀ (i : Nat) (pins : List (Addr × Obj)) (s : Shared) (σ : St) (H : Hp) (E : Value → Shared → Prop), Inv X pins σ H s → (∀ b ∈ fp, FpOk X pins H b) → tn i s.heap → J.stop i H →
    wpAny (model P w) X.A (pyNext (.ref it)) (fun r s1 => r = none ∧ Inv X pins σ H s1) E s
  self : ∀ (A : Around) (i : Nat) (s : Shared) (Q : Value → Shared → Prop) (E : Value → Shared → Prop), tn i s.heap → Q (.ref it) s → wpAny (model P w) A (pyIter (.ref it)) Q E s
noncomputable abbrev TI := St → Hp → (It → Hp → Prop) → Prop
noncomputable def PIE (X : Cx) (pins : List (Addr × Obj)) (σ : St) (tg : Expr) (R : It → Hp → Prop) (itv : Value) (s2 : Shared) : Prop :=
  ∃ (it : Addr) (fp : List Addr) (tn : Nat → Heap → Prop) (J : It) (H' : Hp), itv = .ref it ∧ Inv X pins σ H' s2 ∧ Turn X.prog X.w X.K tg J fp it tn ∧ tn 0 s2.heap ∧ (∀ b ∈ fp, FpOk X pins H' b) ∧ R J H'
noncomputable def PI (X : Cx) (tg iter : Expr) (wi : TI) : Prop :=
  ∀ (pins : List (Addr × Obj)) (s : Shared) (σ : St) (H : Hp) (R : It → Hp → Prop), Inv X pins σ H s → wi σ H R →
    wpAny (model X.prog X.w) X.A (eval iter X.env) (fun v s1 => wpAny (model X.prog X.w) X.A (pyIter v) (PIE X pins σ tg R) X.xe s1) X.xe s
theorem go_of {M : Model} {A : Around} {E : Value → Shared → Prop} {s : Shared} {tg : Expr} {it : Addr} {u : Value} {o : Obj} {n : String} {vs : Array Value} {Q : Unit → Shared → Prop} (ho : s.heap.get? it = some o) (hc : o.cls = .type n) (hd : o.data = .fields vs)
    (hn : ["enumerate", "zip", "dict_itemiterator", "dict_reverseitemiterator", "odict_iterator", "itertools.zip_longest", "itertools.pairwise"].contains n = false) (hQ : Q () s) : wpAny M A (letOwnedTupleGo tg (.ref it) u) Q E s := by
  unfold letOwnedTupleGo
  cases tg <;> first
    | exact wpAny_pure hQ
    | (cases u <;> first
        | exact wpAny_pure hQ
        | (refine wpAny_bind (wpAny_load ho ?_)
           rw [hc, hd]
           show wpAny M A (if (["enumerate", "zip", "dict_itemiterator", "dict_reverseitemiterator", "odict_iterator", "itertools.zip_longest", "itertools.pairwise"].contains n && vs[0]? == some (rawInt _)) = true then _ else _) Q E s
           rw [if_neg (by intro h; rw [hn, Bool.false_and] at h; cases h)]
           exact wpAny_pure hQ))
noncomputable def Itl (K : PySem.W.Frag) (a : Addr) : It :=
  ⟨fun i H => ∃ xs x, SqL K H a xs ∧ xs[i]? = some x, fun i H x H' => H' = H ∧ ∀ xs, SqL K H a xs → xs[i]? = some x, fun i H => ∃ xs, SqL K H a xs ∧ xs.length ≤ i⟩
noncomputable def Itt (K : PySem.W.Frag) (a : Addr) : It :=
  ⟨fun i H => ∃ xs x, SqT K H a xs ∧ xs[i]? = some x, fun i H x H' => H' = H ∧ ∀ xs, SqT K H a xs → xs[i]? = some x, fun i H => ∃ xs, SqT K H a xs ∧ xs.length ≤ i⟩
noncomputable def Itr (lo : Int) (n : Nat) : It := ⟨fun i _ => i < n, fun i H x H' => H' = H ∧ x = .int (lo + i), fun i _ => n ≤ i⟩
theorem turn_list {P : Program} {w : World} {K : PySem.W.Frag} {tg : Expr} (a it : Addr) : Turn P w K tg (Itl K a) [it] it (fun i h => h.IsListIter it a i) where
  mem := by simp
  obj := fun i h st b hb => by
    have e : b = it := by simpa using hb
    subst e
    obtain ⟨o, e, c, d⟩ := st
    exact ⟨o, e, fun v z => by rw [d] at z; cases z⟩
  keep := fun i h h' st k => st.at fun o e => k it (by simp) o e
  item := by
    intro X hP hw hK hc i pins s σ H E I hf st hg
    subst hP hw hK
    obtain ⟨xs, x, hq, hx⟩ := hg
    obtain ⟨its, rv, p, hz⟩ := I.list hq
    obtain ⟨u, hu, ru⟩ := rv.get hx
    obtain ⟨f0, f1, f2, f3, f4, f5⟩ := hf it (by simp)
    refine wpAny_pyNext_list_item st p.isList (x := u) (by simpa using hu) fun h' st' sb => ?_
    have I1 : Inv X pins σ H { s with heap := h' } := I.turned (t' := s.toks) (fun b o hb e => (sb.2 b hb).trans e) f0 f1 f3 f4 f5
    obtain ⟨o, e, c, d⟩ := id st'
    exact ⟨u, rfl, go_of (s := { s with heap := h' }) e c d (by decide) ⟨x, H, I1, ru, ⟨rfl, fun ys hy => by rw [I.list_inj hy hq]; exact hx⟩, st', fun b hb => (hf b hb).1⟩⟩
  done := by
    intro X hP hw hK hc i pins s σ H E I hf st hg
    subst hP hw hK
    obtain ⟨xs, hq, hx⟩ := hg
    obtain ⟨its, rv, p, hz⟩ := I.list hq
    obtain ⟨f0, f1, f2, f3, f4, f5⟩ := hf it (by simp)
    have hl := rv.length
    exact wpAny_pyNext_list_end (I.ok.hd hc) st p.isList (by simp; omega) fun h' eb => ⟨rfl, I.turned (t' := s.toks) (fun b o hb e => eb b o hb e) f0 f1 f3 f4 f5⟩
  self := fun _ _ _ _ _ st h => wpAny_pyIter_listiter st h
theorem turn_tuple {P : Program} {w : World} {K : PySem.W.Frag} {tg : Expr} (a it : Addr) : Turn P w K tg (Itt K a) [it] it (fun i h => h.IsTupleIter it a i) where
  mem := by simp
  obj := fun i h st b hb => by
    have e : b = it := by simpa using hb
    subst e
    obtain ⟨o, e, c, d⟩ := st
    exact ⟨o, e, fun v z => by rw [d] at z; cases z⟩
  keep := fun i h h' st k => st.at fun o e => k it (by simp) o e
  item := by
    intro X hP hw hK hc i pins s σ H E I hf st hg
    subst hP hw hK
    obtain ⟨xs, x, hq, hx⟩ := hg
    obtain ⟨its, rv, p, hz⟩ := I.tuple hq
    obtain ⟨u, hu, ru⟩ := rv.get hx
    obtain ⟨f0, f1, f2, f3, f4, f5⟩ := hf it (by simp)
    refine wpAny_pyNext_tuple_item st (show s.heap.IsTuple a its.toArray from p) (x := u) (by simpa using hu) fun h' st' sb => ?_
    have I1 : Inv X pins σ H { s with heap := h' } := I.turned (t' := s.toks) (fun b o hb e => (sb.2 b hb).trans e) f0 f1 f3 f4 f5
    obtain ⟨o, e, c, d⟩ := id st'
    exact ⟨u, rfl, go_of (s := { s with heap := h' }) e c d (by decide) ⟨x, H, I1, ru, ⟨rfl, fun ys hy => by rw [I.tuple_inj hy hq]; exact hx⟩, st', fun b hb => (hf b hb).1⟩⟩
  done := by
    intro X hP hw hK hc i pins s σ H E I hf st hg
    subst hP hw hK
    obtain ⟨xs, hq, hx⟩ := hg
    obtain ⟨its, rv, p, hz⟩ := I.tuple hq
    obtain ⟨f0, f1, f2, f3, f4, f5⟩ := hf it (by simp)
    have hl := rv.length
    exact wpAny_pyNext_tuple_end (I.ok.hd hc) st (show s.heap.IsTuple a its.toArray from p) (by simp; omega) fun h' eb => ⟨rfl, I.turned (t' := s.toks) (fun b o hb e => eb b o hb e) f0 f1 f3 f4 f5⟩
  self := fun _ _ _ _ _ st h => wpAny_pyIter_tupleiter st h
theorem turn_range {P : Program} {w : World} {K : PySem.W.Frag} {tg : Expr} (it : Addr) (lo : Int) (n : Nat) : Turn P w K tg (Itr lo n) [it] it (fun i h => IsRangeIter h it (lo + (i : Nat) * 1) ((n : Int) - (i : Nat)) 1) where
  mem := by simp
  obj := fun i h st b hb => by
    have e : b = it := by simpa using hb
    subst e
    exact ⟨_, st, fun v z => by
      have z' : Data.fields _ = Data.cell v := z
      cases z'⟩
  keep := fun i h h' st k => k it (by simp) _ st
  item := by
    intro X hP hw hK hc i pins s σ H E I hf st hg
    subst hP hw hK
    obtain ⟨f0, f1, f2, f3, f4, f5⟩ := hf it (by simp)
    have W := Walks.range (prog := X.prog) (w := X.w) (I.ok.hd hc) it lo 1 n
    refine W.item i s _ _ hg st fun v h' tk hv st' kk => ?_
    obtain ⟨t, rfl⟩ := hv
    have I1 : Inv X pins σ H { s with heap := h', toks := tk } := I.turned (fun b o hb e => kk b o (by simpa using hb) e) f0 f1 f3 f4 f5
    refine ⟨_, rfl, go_of (s := { s with heap := h', toks := tk }) (n := "range_iterator") st' rfl rfl (by decide) ⟨.int (lo + i), H, I1, ⟨t, ?_⟩, ⟨rfl, rfl⟩, st', fun b hb => (hf b hb).1⟩⟩
    rw [Int.mul_one]
  done := by
    intro X hP hw hK hc i pins s σ H E I hf st hg
    subst hP hw hK
    obtain ⟨f0, f1, f2, f3, f4, f5⟩ := hf it (by simp)
    exact wpAny_pyNext_range_end (I.ok.hd hc) st (by have : n ≤ i := hg; omega) fun h' eb => ⟨rfl, I.turned (t' := s.toks) (fun b o hb e => eb b o hb e) f0 f1 f3 f4 f5⟩
  self := fun _ _ _ _ _ st h => wpAny_pyIter_rangeiter st h
end L2
namespace L2
open PySem PySem.Spec PyProof.Rows
section
variable {X : Cx} {tg : Expr}
noncomputable def iList (K : PySem.W.Frag) (tl : TE) : TI := fun σ H R => tl σ H fun x H1 => ∃ a, x = .ref a ∧ (∃ xs, SqL K H1 a xs) ∧ R (Itl K a) H1
noncomputable def iTup (K : PySem.W.Frag) (tl : TE) : TI := fun σ H R => tl σ H fun x H1 => ∃ a, x = .ref a ∧ (∃ xs, SqT K H1 a xs) ∧ R (Itt K a) H1
theorem pi_list {l : Expr} {tl : TE} (hl : PE X l tl) : PI X tg l (iList X.K tl) := by
  intro pins s σ H R I h
  refine thn (hl pins s σ H _ I h) fun v s1 ⟨x, H1, I1, r1, q1⟩ => ?_
  obtain ⟨a, e, ⟨xs, hq⟩, q⟩ := q1
  subst e
  cases r1
  obtain ⟨its, rv, p, hz⟩ := I1.list hq
  refine wpAny_pyIter_list p.isList ?_
  refine ⟨s1.heap.objs.size, [s1.heap.objs.size], _, _, H1, rfl, I1.kept (t' := s1.toks) fun b o e => Heap.get?_push_of_some _ e, turn_list a _, ⟨_, Heap.get?_push_size _ rfl, rfl, rfl⟩, fun b hb => ?_, q⟩
  have e : b = s1.heap.objs.size := by simpa using hb
  subst e
  exact I1.fpOk (Nat.le_refl _) (I1.hok.fresh (Nat.le_refl _))
theorem pi_tup {l : Expr} {tl : TE} (hl : PE X l tl) : PI X tg l (iTup X.K tl) := by
  intro pins s σ H R I h
  refine thn (hl pins s σ H _ I h) fun v s1 ⟨x, H1, I1, r1, q1⟩ => ?_
  obtain ⟨a, e, ⟨xs, hq⟩, q⟩ := q1
  subst e
  cases r1
  obtain ⟨its, rv, p, hz⟩ := I1.tuple hq
  refine wpAny_pyIter_tuple (show s1.heap.IsTuple a its.toArray from p) ?_
  refine ⟨s1.heap.objs.size, [s1.heap.objs.size], _, _, H1, rfl, I1.kept (t' := s1.toks) fun b o e => Heap.get?_push_of_some _ e, turn_tuple a _, ⟨_, Heap.get?_push_size _ rfl, rfl, rfl⟩, fun b hb => ?_, q⟩
  have e : b = s1.heap.objs.size := by simpa using hb
  subst e
  exact I1.fpOk (Nat.le_refl _) (I1.hok.fresh (Nat.le_refl _))
theorem range_it {pins : List (Addr × Obj)} {σ : St} {H : Hp} {s : Shared} {R : It → Hp → Prop} {E : Value → Shared → Prop} {lo hi : Int} {t u v : Tok} {tk : Nat} (I : Inv X pins σ H s) (h1 : -(2 ^ 62) ≤ lo) (h2 : lo < 2 ^ 62) (h3 : -(2 ^ 62) ≤ hi) (h4 : hi < 2 ^ 62)
    (q : R (Itr lo (hi - lo).toNat) H) : wpAny (model X.prog X.w) X.A (pyIter (.ref s.heap.objs.size)) (PIE X pins σ tg R) E { s with heap := s.heap.push { cls := .type "range", data := .fields #[.int lo t, .int hi u, .int 1 v] }, toks := tk } := by
  refine wpAny_pyIter_range (IsRange.new ..) (small_one h1 h2 h3 h4) ?_
  have I1 : Inv X pins σ H { s with heap := s.heap.push { cls := .type "range", data := .fields #[.int lo t, .int hi u, .int 1 v] }, toks := tk } := I.kept fun b o e => Heap.get?_push_of_some _ e
  refine ⟨(s.heap.push { cls := .type "range", data := .fields #[.int lo t, .int hi u, .int 1 v] }).objs.size, [(s.heap.push { cls := .type "range", data := .fields #[.int lo t, .int hi u, .int 1 v] }).objs.size], _, _, H, rfl,
    I1.kept (t' := tk) fun b o e => Heap.get?_push_of_some _ e, turn_range _ lo (hi - lo).toNat, ?_, fun b hb => ?_, q⟩
  · have e1 : lo + ((0 : Nat) : Int) * 1 = lo := by simp
    have e2 : (((hi - lo).toNat : Nat) : Int) - ((0 : Nat) : Int) = Builtin.Range.rangeSize lo hi 1 := by rw [rangeSize_one]; split <;> omega
    show IsRangeIter _ _ (lo + ((0 : Nat) : Int) * 1) ((((hi - lo).toNat : Nat) : Int) - ((0 : Nat) : Int)) 1
    rw [e1, e2]
    exact Heap.get?_push_size _ rfl
  · have e : b = (s.heap.push { cls := .type "range", data := .fields #[.int lo t, .int hi u, .int 1 v] }).objs.size := by simpa using hb
    subst e
    exact I1.fpOk (Nat.le_refl _) (I1.hok.fresh (Nat.le_refl _))
noncomputable def iRng1 (ta : TA) : TI := fun σ H R => ta σ H fun vs H1 => ∃ j : Int, vs = [.int j] ∧ -(2 ^ 62) ≤ j ∧ j < 2 ^ 62 ∧ R (Itr 0 j.toNat) H1
noncomputable def iRng2 (ta : TA) : TI := fun σ H R => ta σ H fun vs H1 => ∃ i j : Int, vs = [.int i, .int j] ∧ (-(2 ^ 62) ≤ i ∧ i < 2 ^ 62 ∧ -(2 ^ 62) ≤ j ∧ j < 2 ^ 62) ∧ R (Itr i (j - i).toNat) H1
theorem pi_range1 {a : Expr} {ta : TA} {p pos : Pos} (hg : Gl X "range") (hm : X.mg "range" = none) (ha : PA X [a] ta) (hs : starEach [a] X.env = [(false, eval a X.env)] := by rfl) : PI X tg (.Call (.Name "range" p) [a] [] pos) (iRng1 ta) := by
  intro pins s σ H R I h
  refine Call_ (ld_blt I hg hm boot_range (PyProof.Rows.callWith_type1 (thn (ha pos pins s σ H _ I h) fun us s1 ⟨vs, H1, I1, r1, q1⟩ => ?_) hs rfl))
  obtain ⟨j, e, q1, q2, q⟩ := q1
  subst e
  cases r1 with
  | cons r rr =>
    cases rr
    obtain ⟨t, rfl⟩ := r
    exact call_range_1 (range_it I1 (by omega) (by omega) q1 q2 (by simpa using q))
noncomputable def tFor (wi : TI) (g : TG) (tb : TS) : TS := fun D σ H => wi σ H fun J H1 => ∃ W : Nat → Nat → St → Hp → Prop, (∃ m, W 0 m σ H1) ∧ ∀ i m σ H, W i m σ H →
  (J.stop i H ∧ D.nx σ H) ∨ (J.go i H ∧ ∃ N : St → Hp → Prop, (∀ σ' H', N σ' H' → ∃ m', m' < m ∧ W (i + 1) m' σ' H') ∧ ∀ x H', J.yld i H x H' → g x σ H' fun σ2 H2 => tb { D with nx := N, ct := N, bk := D.nx } σ2 H2)
noncomputable def pinsAt (fp : List Addr) (h : Heap) : List (Addr × Obj) := fp.filterMap fun b => (h.get? b).map fun o => (b, o)
theorem mem_pinsAt {fp : List Addr} {h : Heap} {b : Addr} {o : Obj} (hb : b ∈ fp) (e : h.get? b = some o) : (b, o) ∈ pinsAt fp h := List.mem_filterMap.mpr ⟨b, hb, by rw [e]; rfl⟩
theorem of_pinsAt {fp : List Addr} {h : Heap} {p : Addr × Obj} (hp : p ∈ pinsAt fp h) : p.1 ∈ fp ∧ h.get? p.1 = some p.2 := by
  obtain ⟨b, hb, e⟩ := List.mem_filterMap.mp hp
  cases q : h.get? b with
  | none => rw [q] at e; cases e
  | some o =>
    rw [q] at e
    have e' : (b, o) = p := Option.some.inj e
    subst e'
    exact ⟨hb, q⟩
theorem Inv.pinned {pins : List (Addr × Obj)} {σ : St} {H : Hp} {s : Shared} {fp : List Addr} (I : Inv X pins σ H s) (hf : ∀ b ∈ fp, FpOk X pins H b) (ho : ∀ b ∈ fp, ∃ o, s.heap.get? b = some o ∧ ∀ v, o.data ≠ .cell v) : Inv X (pins ++ pinsAt fp s.heap) σ H s :=
  I.pins_of fun p hp => (List.mem_append.mp hp).elim (fun z => I.pin p (List.mem_append_right _ z)) fun z => by
    obtain ⟨hb, e⟩ := of_pinsAt z
    obtain ⟨f0, f1, f2, _⟩ := hf p.1 hb
    obtain ⟨o, e', d⟩ := ho p.1 hb
    rw [e] at e'; cases e'
    exact ⟨e, f0, f1, f2, d⟩
theorem Inv.unpinned {pins pl : List (Addr × Obj)} {σ : St} {H : Hp} {s : Shared} (I : Inv X (pins ++ pl) σ H s) : Inv X pins σ H s := I.pins_of fun p hp => I.pin p (List.mem_append_right _ (List.mem_append_left _ hp))
theorem ps_for {iter : Expr} {body : List Stmt} {wi : TI} {g : TG} {tb : TS} {pos : Pos} (hp : PassesOwn (model X.prog X.w) X.A X.env X.xe) (hc : X.calm = true) (hi : PI X tg iter wi) (hg : PG X tg g) (hb : PSs X body tb)
    (hs : ∀ x, foldedSetIterable iter X.env x = pure x := by intro _; rfl) : PS X (.For tg iter body [] pos) (tFor wi g tb) := by
  intro pins s σ H D I h
  refine wpAny_For (thn (hi pins s σ H _ I h) fun v s1 h1 => thn h1 fun itv s2 h2 => ?_) hs
  obtain ⟨it, fp, tn, J, H2, e, I2, T, st2, f2, W, ⟨m0, w0⟩, turn⟩ := h2
  subst e
  have stat : ∀ {H' : Hp}, (∀ b ∈ fp, H' b = none) → ∀ b ∈ fp, FpOk X pins H' b := fun hn b hb => ⟨hn b hb, (f2 b hb).2⟩
  refine codeAny_forLoop_any (fun n s' => ∃ i σ' H', Inv X pins σ' H' s' ∧ tn i s'.heap ∧ (∀ b ∈ fp, H' b = none) ∧ W i n σ' H') ?_ m0 ⟨0, σ, H2, I2, st2, fun b hb => (f2 b hb).1, w0⟩
  rintro n s3 ⟨i, σ3, H3, I3, st3, fr3, w3⟩
  rcases turn i n σ3 H3 w3 with ⟨stop, qn⟩ | ⟨go, N, hN, step⟩
  · refine wpAny_passesOwn hp (thn (T.done X rfl rfl rfl hc i pins s3 σ3 H3 X.xe I3 (stat fr3) st3 stop) fun r s4 ⟨hr, I4⟩ => ?_)
    subst hr
    exact wpAny_execs_nil ⟨σ3, H3, I4, qn⟩
  · refine wpAny_passesOwn hp (thn (T.item X rfl rfl rfl hc i pins s3 σ3 H3 X.xe I3 (stat fr3) st3 go) fun r s4 ⟨u, hr, h4⟩ => ?_)
    subst hr
    refine wpAny_passesOwn hp (thn h4 fun _ s5 ⟨x, H5, I5, r5, y5, st5, fr5⟩ => ?_)
    have I5' := I5.pinned (stat fr5) (T.obj _ _ st5)
    refine wpAny_passesOwn hp (thn (hg _ s5 σ3 H5 x u _ I5' r5 (step x H5 y5)) fun _ s6 ⟨σ6, H6, I6, q6⟩ => ?_)
    refine wpAny_passesOwn hp (thn (hb _ s6 σ6 H6 _ I6 q6) fun f s7 q7 => ?_)
    have again : ∀ {σ7 : St} {H7 : Hp}, Inv X (pins ++ pinsAt fp s5.heap) σ7 H7 s7 → N σ7 H7 → ∃ m, m < n ∧ ∃ i σ' H', Inv X pins σ' H' s7 ∧ tn i s7.heap ∧ (∀ b ∈ fp, H' b = none) ∧ W i m σ' H' := fun {σ7 H7} I7 n7 => by
      obtain ⟨m', hm, w7⟩ := hN σ7 H7 n7
      refine ⟨m', hm, i + 1, σ7, H7, I7.unpinned, T.keep _ _ _ st5 fun b hb o e => (I7.pin (b, o) (List.mem_append_right _ (List.mem_append_right _ (mem_pinsAt hb e)))).1, fun b hb => ?_, w7⟩
      obtain ⟨o, e, d⟩ := T.obj _ _ st5 b hb
      exact (I7.pin (b, o) (List.mem_append_right _ (List.mem_append_right _ (mem_pinsAt hb e)))).2.1
    cases f with
    | next => obtain ⟨σ7, H7, I7, n7⟩ := q7; exact again I7 n7
    | cont => obtain ⟨σ7, H7, I7, n7⟩ := q7; exact again I7 n7
    | brk => obtain ⟨σ7, H7, I7, q7⟩ := q7; exact ⟨σ7, H7, I7.unpinned, q7⟩
    | ret v => obtain ⟨x7, σ7, H7, I7, r7, q7⟩ := q7; exact ⟨x7, σ7, H7, I7.unpinned, r7, q7⟩
end
end L2
namespace L2
open PySem PySem.Spec PyProof.Rows
noncomputable abbrev R2 := V → V → Hp → VK → Prop
noncomputable def OpR (X : Cx) (f : Value → Value → Sem Value) (r : R2) : Prop :=
  ∀ (pins : List (Addr × Obj)) (s : Shared) (σ : St) (H : Hp) (x y : V) (v u : Value) (Q : VK), Inv X pins σ H s → RelV x v → RelV y u → r x y H Q →
    wpAny (model X.prog X.w) X.A (f v u) (EP X pins σ Q) X.xe s
noncomputable def UnR (X : Cx) (f : Value → Sem Value) (r : V → Hp → VK → Prop) : Prop :=
  ∀ (pins : List (Addr × Obj)) (s : Shared) (σ : St) (H : Hp) (x : V) (v : Value) (Q : VK), Inv X pins σ H s → RelV x v → r x H Q →
    wpAny (model X.prog X.w) X.A (f v) (EP X pins σ Q) X.xe s
noncomputable def CallR (X : Cx) (f : Value) (r : List V → Hp → VK → Prop) : Prop :=
  ∀ (pins : List (Addr × Obj)) (s : Shared) (σ : St) (H : Hp) (xs : List V) (us : List Value) (Q : VK), Inv X pins σ H s → Vals xs us → r xs H Q →
    wpAny (model X.prog X.w) X.A (call f us) (EP X pins σ Q) X.xe s
noncomputable def TruR (X : Cx) (r : V → Hp → (Bool → Hp → Prop) → Prop) : Prop :=
  ∀ (pins : List (Addr × Obj)) (s : Shared) (σ : St) (H : Hp) (x : V) (v : Value) (Q : Bool → Hp → Prop), Inv X pins σ H s → RelV x v → r x H Q →
    wpAny (model X.prog X.w) X.A (truthy v) (TP X pins σ Q) X.xe s
noncomputable def tOp (r : R2) (ta tb : TE) : TE := fun σ H Q => ta σ H fun x H1 => tb σ H1 fun y H2 => r x y H2 Q
noncomputable def tUn (r : V → Hp → VK → Prop) (ta : TE) : TE := fun σ H Q => ta σ H fun x H1 => r x H1 Q
noncomputable def rI (C : Int → Int → Prop) (g : Int → Int → V) : R2 := fun x y H Q => ∃ i j, x = .int i ∧ y = .int j ∧ C i j ∧ Q (g i j) H
noncomputable def rI0 (g : Int → Int → V) : R2 := fun x y H Q => ∃ i j, x = .int i ∧ y = .int j ∧ Q (g i j) H
noncomputable def rU (g : Int → V) : V → Hp → VK → Prop := fun x H Q => ∃ i, x = .int i ∧ Q (g i) H
section
variable {X : Cx} {a b c : Expr} {ta tb tc : TE} {pos : Pos}
theorem binT (ha : PE X a ta) (hb : PE X b tb) {pins : List (Addr × Obj)} {s : Shared} {σ : St} {H : Hp} {R : V → V → Hp → Prop} (I : Inv X pins σ H s)
    (h : ta σ H fun x H1 => tb σ H1 fun y H2 => R x y H2) {Q : Value → Shared → Prop} {f : Value → Value → Sem Value}
    (hf : ∀ v u s2 x y H2, Inv X pins σ H2 s2 → RelV x v → RelV y u → R x y H2 → wpAny (model X.prog X.w) X.A (f v u) Q X.xe s2) :
    wpAny (model X.prog X.w) X.A (eval a X.env) (fun v s₁ => wpAny (model X.prog X.w) X.A (eval b X.env) (fun u s₂ => wpAny (model X.prog X.w) X.A (f v u) Q X.xe s₂) X.xe s₁) X.xe s := by
  refine thn (ha pins s σ H _ I h) fun v s1 ⟨x, H1, I1, r1, q1⟩ => ?_
  refine thn (hb pins s1 σ H1 _ I1 q1) fun u s2 ⟨y, H2, I2, r2, q2⟩ => ?_
  exact hf v u s2 x y H2 I2 r1 r2 q2
theorem pe_op {op : Operator} {r : R2} (ho : OpR X (binaryOp op) r) (ha : PE X a ta) (hb : PE X b tb) : PE X (.BinOp a op b pos) (tOp r ta tb) := by
  intro pins s σ H Q I h
  exact wpAny_BinOp (binT ha hb I h fun v u s2 x y H2 I2 rx ry q => ho pins s2 σ H2 x y v u Q I2 rx ry q)
theorem pe_un {op : UnaryOp} {r : V → Hp → VK → Prop} (ho : UnR X (unaryOp op) r) (ha : PE X a ta) : PE X (.UnaryOp op a pos) (tUn r ta) := by
  intro pins s σ H Q I h
  exact UnaryOp_ (thn (ha pins s σ H _ I h) fun v s1 ⟨x, H1, I1, r1, q1⟩ => ho pins s1 σ H1 x v Q I1 r1 q1)
theorem opI {f : Value → Value → Sem Value} {C : Int → Int → Prop} {g : Int → Int → Int}
    (rule : ∀ (i j : Int) (t u : Tok) (s : Shared) (Q : Value → Shared → Prop) (E : Value → Shared → Prop), C i j → Q (.int (g i j) s.toks) { s with toks := s.toks + 1 } → wpAny (model X.prog X.w) X.A (f (.int i t) (.int j u)) Q E s) :
    OpR X f (rI C fun i j => .int (g i j)) := by
  intro pins s σ H x y v u Q I rx ry h
  obtain ⟨i, j, rfl, rfl, hc, q⟩ := h
  obtain ⟨t, rfl⟩ := rx
  obtain ⟨t', rfl⟩ := ry
  exact rule i j t t' s _ _ hc ⟨.int (g i j), H, I.tok _, ⟨_, rfl⟩, q⟩
theorem opI0 {f : Value → Value → Sem Value} {g : Int → Int → Int}
    (rule : ∀ (i j : Int) (t u : Tok) (s : Shared) (Q : Value → Shared → Prop) (E : Value → Shared → Prop), Q (.int (g i j) s.toks) { s with toks := s.toks + 1 } → wpAny (model X.prog X.w) X.A (f (.int i t) (.int j u)) Q E s) :
    OpR X f (rI0 fun i j => .int (g i j)) := by
  intro pins s σ H x y v u Q I rx ry h
  obtain ⟨i, j, rfl, rfl, q⟩ := h
  obtain ⟨t, rfl⟩ := rx
  obtain ⟨t', rfl⟩ := ry
  exact rule i j t t' s _ _ ⟨.int (g i j), H, I.tok _, ⟨_, rfl⟩, q⟩
theorem opB0 {f : Value → Value → Sem Value} {g : Int → Int → Bool}
    (rule : ∀ (i j : Int) (t u : Tok) (s : Shared) (Q : Value → Shared → Prop) (E : Value → Shared → Prop), Q (.bool (g i j)) s → wpAny (model X.prog X.w) X.A (f (.int i t) (.int j u)) Q E s) :
    OpR X f (rI0 fun i j => .bl (g i j)) := by
  intro pins s σ H x y v u Q I rx ry h
  obtain ⟨i, j, rfl, rfl, q⟩ := h
  obtain ⟨t, rfl⟩ := rx
  obtain ⟨t', rfl⟩ := ry
  exact rule i j t t' s _ _ ⟨.bl (g i j), H, I, rfl, q⟩
noncomputable def CDiv (i j : Int) : Prop := 0 < j ∧ j < 1073741824
noncomputable def CDivN (i j : Int) : Prop := j ≠ 0 ∧ j.natAbs < 1073741824
noncomputable def CPow (i j : Int) : Prop := 0 ≤ j ∧ j ≤ 1000000 ∧ i.natAbs < 2 ^ 64
noncomputable def CMul (i j : Int) : Prop := (-(2 ^ 64) < i ∧ i < 2 ^ 64) ∨ (-(2 ^ 64) < j ∧ j < 2 ^ 64)
theorem CMul.ok {i j : Int} (h : CMul i j) : IntMulOk i j := by
  rcases h with ⟨h1, h2⟩ | ⟨h1, h2⟩
  · exact .of_left (intBits_le_64 h1 h2)
  · exact .of_right (intBits_le_64 h1 h2)
theorem op_add : OpR X (binaryOp .Add) (rI0 fun i j => .int (i + j)) := opI0 fun _ _ _ _ _ _ _ q => add_int q
theorem op_sub : OpR X (binaryOp .Sub) (rI0 fun i j => .int (i - j)) := opI0 fun _ _ _ _ _ _ _ q => sub_int q
theorem op_mul : OpR X (binaryOp .Mult) (rI CMul fun i j => .int (i * j)) := opI fun _ _ _ _ _ _ _ hc q => mul_int q hc.ok
theorem op_fdiv : OpR X (binaryOp .FloorDiv) (rI CDiv fun i j => .int (i / j)) := opI fun i j _ _ _ _ _ hc q => by
  have h1 : (0 : Int) < j := hc.1
  have h2 : j < 1073741824 := hc.2
  exact floordiv_int (by omega) (by rw [Int.fdiv_eq_ediv_of_nonneg i (by omega)]; exact q) (.inl (PyProof.noPylong_small (by omega)))
theorem op_mod : OpR X (binaryOp .Mod) (rI (fun _ j => 0 < j) fun i j => .int (i % j)) := opI fun i j _ _ _ _ _ hc q => by
  have h1 : (0 : Int) < j := hc
  exact mod_int' (by omega) (by rw [Int.fmod_eq_emod_of_nonneg i (by omega)]; exact q)
theorem unI {f : Value → Sem Value} {g : Int → Int}
    (rule : ∀ (i : Int) (t : Tok) (s : Shared) (Q : Value → Shared → Prop) (E : Value → Shared → Prop), Q (.int (g i) s.toks) { s with toks := s.toks + 1 } → wpAny (model X.prog X.w) X.A (f (.int i t)) Q E s) :
    UnR X f (rU fun i => .int (g i)) := by
  intro pins s σ H x v Q I rx h
  obtain ⟨i, rfl, q⟩ := h
  obtain ⟨t, rfl⟩ := rx
  exact rule i t s _ _ ⟨.int (g i), H, I.tok _, ⟨_, rfl⟩, q⟩
theorem un_neg : UnR X (unaryOp .USub) (rU fun i => .int (-i)) := unI fun _ _ _ _ _ q => neg_int q
end
noncomputable def scal : V → V → Bool
  | .non, .non => true | .non, .int _ => true | .int _, .non => true | .non, .bl _ => true | .bl _, .non => true | .non, .str _ => true | .str _, .non => true
  | .int _, .int _ => true | .bl _, .bl _ => true | .str _, .str _ => true | .byt _, .byt _ => true
  | .int _, .str _ => true | .str _, .int _ => true | .bl _, .str _ => true | .str _, .bl _ => true
  | _, _ => false
noncomputable def rEq : R2 := fun x y H Q => scal x y = true ∧ Q (.bl (decide (x = y))) H
noncomputable def rNe : R2 := fun x y H Q => scal x y = true ∧ Q (.bl (!decide (x = y))) H
section
variable {X : Cx} {a b c : Expr} {ta tb tc : TE} {pos : Pos}
theorem fin_bl {pins : List (Addr × Obj)} {σ : St} {H : Hp} {s : Shared} {Q : VK} {k k' : Bool} (I : Inv X pins σ H s) (q : Q (.bl k) H) (e : k = k') : EP X pins σ Q (.bool k') s := by
  subst e
  exact ⟨.bl k, H, I, rfl, q⟩
theorem op_le : OpR X (compareOp .LtE) (rI0 fun i j => .bl (decide (i ≤ j))) := opB0 fun _ _ _ _ _ _ _ q => le_int q
theorem op_gt : OpR X (compareOp .Gt) (rI0 fun i j => .bl (decide (j < i))) := opB0 fun _ _ _ _ _ _ _ q => gt_int q
theorem op_in_str : OpR X (compareOp .In) (fun x y H Q => ∃ i j, x = .str i ∧ y = .str j ∧ Q (.bl (!(Builtin.Str.occurrences j i 0 j.length 1).isEmpty)) H) := by
  intro pins s σ H x y v u Q I rx ry h
  obtain ⟨i, j, rfl, rfl, q⟩ := h
  obtain ⟨t, rfl⟩ := rx
  obtain ⟨t', rfl⟩ := ry
  exact in_str (fin_bl I q rfl)
noncomputable def isObj : HO → Bool
  | .lst _ => true
  | .ins _ _ _ => true
  | _ => false
theorem OpR.or {f : Value → Value → Sem Value} {r r' : R2} (h : OpR X f r) (h' : OpR X f r') : OpR X f (fun x y H Q => r x y H Q ∨ r' x y H Q) := by
  intro pins s σ H x y v u Q I rx ry q
  rcases q with q | q
  · exact h pins s σ H x y v u Q I rx ry q
  · exact h' pins s σ H x y v u Q I rx ry q
theorem nomark (b : Expr) {op : CmpOp} (h : op ≠ .In := by decide) (h2 : op ≠ .NotIn := by decide) : behindInMarks op b = false := by
  have e1 : (op == CmpOp.In) = false := by cases op <;> first | rfl | exact absurd rfl h
  have e2 : (op == CmpOp.NotIn) = false := by cases op <;> first | rfl | exact absurd rfl h2
  cases b <;> simp [behindInMarks, e1, e2]
theorem pe_cmpR {op : CmpOp} {r : R2} (ho : OpR X (compareOp op) r) (ha : PE X a ta) (hb : PE X b tb) (hm : behindInMarks op b = false) : PE X (.Compare a [op] [b] pos) (tOp r ta tb) := by
  intro pins s σ H Q I h
  exact wpAny_Compare1 (binT ha hb I h fun v u s2 x y H2 I2 rx ry q => ho pins s2 σ H2 x y v u Q I2 rx ry q) hm
noncomputable def tTest (t : TE) : TT := fun σ H Q => t σ H fun x H' => ∃ k, x = .bl k ∧ Q k H'
theorem pt_cmpR {op : CmpOp} {r : R2} (ho : OpR X (compareOp op) r) (ha : PE X a ta) (hb : PE X b tb) (hm : behindInMarks op b = false) : PT X (.Compare a [op] [b] pos) (tTest (tOp r ta tb)) := by
  intro pins s σ H Q I h
  refine wpAny_isTrue_Compare1 (thn (ha pins s σ H _ I h) fun v s1 ⟨x, H1, I1, r1, q1⟩ => thn (hb pins s1 σ H1 _ I1 q1) fun u s2 ⟨y, H2, I2, r2, q2⟩ =>
    thn (ho pins s2 σ H2 x y v u _ I2 r1 r2 q2) fun c s3 ⟨z, H3, I3, r3, k, e, q3⟩ => ?_) hm
  subst e
  cases r3
  exact wpAny_truthy_bool ⟨H3, I3, q3⟩
noncomputable def tChain (r r' : R2) (ta tb tc : TE) : TE := fun σ H Q => ta σ H fun x H1 => tb σ H1 fun y H2 => r x y H2 fun z H3 => ∃ k, z = .bl k ∧
  (if k = true then tc σ H3 fun w' H4 => r' y w' H4 Q else Q (.bl false) H3)
theorem pe_chain {op op' : CmpOp} {r r' : R2} (ho : OpR X (compareOp op) r) (ho' : OpR X (compareOp op') r') (ha : PE X a ta) (hb : PE X b tb) (hc : PE X c tc)
    (hm : lastMarks [op, op'] [b, c] = false := by with_unfolding_all rfl) : PE X (.Compare a [op, op'] [b, c] pos) (tChain r r' ta tb tc) := by
  intro pins s σ H Q I h
  refine Compare_chain (thn (ha pins s σ H _ I h) fun v s1 ⟨x, H1, I1, r1, q1⟩ => chain_link (thn (hb pins s1 σ H1 _ I1 q1) fun u s2 ⟨y, H2, I2, r2, q2⟩ =>
    thn (ho pins s2 σ H2 x y v u _ I2 r1 r2 q2) fun d s3 ⟨z, H3, I3, r3, k, e, q3⟩ => ?_)) hm
  subst e
  cases r3
  refine wpAny_truthy_bool ?_
  cases k with
  | false => exact ite_ff ⟨.bl false, H3, I3, rfl, q3⟩
  | true => exact ite_tt (chain_last (thn (hc pins s3 σ H3 _ I3 q3) fun w' s4 ⟨z', H4, I4, r4, q4⟩ => ho' pins s4 σ H4 y z' u w' Q I4 r2 r4 q4))
theorem pt_chain {op op' : CmpOp} {r r' : R2} (ho : OpR X (compareOp op) r) (ho' : OpR X (compareOp op') r') (ha : PE X a ta) (hb : PE X b tb) (hc : PE X c tc)
    (hm : lastMarks [op, op'] [b, c] = false := by with_unfolding_all rfl) : PT X (.Compare a [op, op'] [b, c] pos) (tTest (tChain r r' ta tb tc)) := by
  intro pins s σ H Q I h
  refine isTrue_chain (thn (ha pins s σ H _ I h) fun v s1 ⟨x, H1, I1, r1, q1⟩ => test_link (thn (hb pins s1 σ H1 _ I1 q1) fun u s2 ⟨y, H2, I2, r2, q2⟩ =>
    thn (ho pins s2 σ H2 x y v u _ I2 r1 r2 q2) fun d s3 ⟨z, H3, I3, r3, k, e, q3⟩ => ?_)) hm
  subst e
  cases r3
  refine wpAny_truthy_bool ?_
  cases k with
  | false =>
    obtain ⟨k', e', q'⟩ := q3
    cases e'
    exact ite_ff ⟨H3, I3, q'⟩
  | true =>
    refine ite_tt (test_last (thn (hc pins s3 σ H3 _ I3 q3) fun w' s4 ⟨z', H4, I4, r4, q4⟩ => thn (ho' pins s4 σ H4 y z' u w' _ I4 r2 r4 q4) fun d' s5 ⟨z2, H5, I5, r5, k2, e2, q5⟩ => ?_))
    subst e2
    cases r5
    exact wpAny_truthy_bool ⟨H5, I5, q5⟩
noncomputable def TruV (K : PySem.W.Frag) (x : V) (H : Hp) (k : Bool) : Prop :=
  match x with
  | .non => k = false
  | .bl b => k = b
  | .int i => k = (i != 0)
  | .str y => y.length ≤ sizeLine ∧ k = ((y.length : Int) != 0)
  | .byt y => y.size ≤ sizeLine ∧ k = ((y.size : Int) != 0)
  | .ref p => (∃ xs, SqL K H p xs ∧ k = !xs.isEmpty) ∨ (∃ xs, SqT K H p xs ∧ k = !xs.isEmpty) ∨ ∃ kvs, H p = some (.dK kvs) ∧ k = !kvs.isEmpty
  | _ => False
theorem line63 : (sizeLine : Nat) < 2 ^ 63 := by rw [sizeLine_eq]; decide
theorem op_add_str : OpR X (binaryOp .Add) (fun x y H Q => ∃ i j, x = .str i ∧ y = .str j ∧ i.length + j.length ≤ sizeLine ∧ Q (.str (i ++ j)) H) := by
  intro pins s σ H x y v u Q I rx ry h
  obtain ⟨i, j, rfl, rfl, hz, q⟩ := h
  obtain ⟨t, rfl⟩ := rx
  obtain ⟨t', rfl⟩ := ry
  exact add_str (fun t' tk => ⟨.str (i ++ j), H, I.tok _, ⟨_, rfl⟩, q⟩) hz
noncomputable def PlainIxT (b : Expr) : Prop := ∀ o i, subscripted b false o i = operate [o, i] (getItem o i)
theorem vals1 {x : V} {us : List Value} (r : Vals [x] us) : ∃ u, us = [u] ∧ RelV x u := by
  cases r with
  | cons r1 r2 => cases r2; exact ⟨_, rfl, r1⟩
theorem vals2 {x y : V} {us : List Value} (r : Vals [x, y] us) : ∃ u w', us = [u, w'] ∧ RelV x u ∧ RelV y w' := by
  cases r with
  | cons r1 r2 =>
    cases r2 with
    | cons r3 r4 => cases r4; exact ⟨_, _, rfl, r1, r3⟩
noncomputable def LenV (K : PySem.W.Frag) (x : V) (H : Hp) (n : Nat) : Prop :=
  match x with
  | .str y => y.length ≤ sizeLine ∧ n = y.length
  | .byt y => y.size ≤ sizeLine ∧ n = y.size
  | .ref p => (∃ xs, SqL K H p xs ∧ n = xs.length) ∨ ∃ xs, SqT K H p xs ∧ n = xs.length
  | _ => False
end
end L2
namespace L2
open PySem PySem.Spec PyProof.Rows
structure ObjM (h : Heap) (x dx C : Addr) (mA : Str → Option Value) : Prop where
  obj : h.get? x = some (PySem.W.instObj C dx)
  ns : h.Ns1 dx mA
  ne : dx ≠ x
noncomputable def putF (f : Str) (v : V) : List (Str × V) → List (Str × V)
  | [] => [(f, v)]
  | (g, x) :: r => if g = f then (g, v) :: r else (g, x) :: putF f v r
structure Cls (K : PySem.W.Frag) (C : Addr) : Prop where
  pg : PySem.W.plainGet K C Str.empty = true
  hd : PySem.W.hasDictIn K C = true
  po : PySem.W.plainOver K C = true
  sa : PySem.W.findIn K (.ref C) "__setattr__" = some (some (.builtin "object.__setattr__"))
noncomputable def NoAttr (K : PySem.W.Frag) (C : Addr) (f : Str) : Prop := PySem.W.findIn K (.ref C) f = some none
structure Con (K : PySem.W.Frag) (C : Addr) (f : Str) (v : V) (u : Value) : Prop where
  at_ : PySem.W.findIn K (.ref C) f = some (some u)
  rel : RelV v u
  get : PySem.W.specialIn K u "__get__" = some none
  cp : PySem.W.copiedNames.contains f = false
structure Meth (K : PySem.W.Frag) (C : Addr) (m : Str) (f : Addr) : Prop where
  at_ : PySem.W.findIn K (.ref C) m = some (some (.ref f))
  fn : PySem.W.isFn K (.ref f) = true
  kp : PySem.W.keepIn K (.ref f) = true
noncomputable def tFld (K : PySem.W.Frag) (ta : TE) (f : Str) : TE := fun σ H Q => ta σ H fun x H1 => ∃ a C dx fs v, x = .ref a ∧ H1 a = some (.ins C dx fs) ∧ Cls K C ∧ NoAttr K C f ∧ fs.lookup f = some v ∧ Q v H1
noncomputable def tCon (K : PySem.W.Frag) (ta : TE) (f : Str) : TE := fun σ H Q => ta σ H fun x H1 => ∃ a C dx fs v u, x = .ref a ∧ H1 a = some (.ins C dx fs) ∧ Cls K C ∧ Con K C f v u ∧ fs.lookup f = none ∧ Q v H1
noncomputable def sFld (K : PySem.W.Frag) (ta tv : TE) (f : Str) : TS := fun D σ H => tv σ H fun y H1 => ta σ H1 fun x H2 => ∃ a C dx fs, x = .ref a ∧ H2 a = some (.ins C dx fs) ∧ Cls K C ∧ NoAttr K C f ∧ fs.length < 1000 ∧
  D.nx σ (upd H2 a (.ins C dx (putF f y fs)))
noncomputable def InOp (X : Cx) (op : Operator) (rd : V → V → Hp → VK → Prop) : Prop :=
  ∀ (pins : List (Addr × Obj)) (s : Shared) (σ : St) (H : Hp) (x y : V) (u v : Value) (Q : VK), Inv X pins σ H s → RelV x u → RelV y v → rd x y H Q → wpAny (model X.prog X.w) X.A (inplaceOp op u v) (EP X pins σ Q) X.xe s
noncomputable def sFldAug (K : PySem.W.Frag) (ta tv : TE) (rd : V → V → Hp → VK → Prop) (f : Str) : TS := fun D σ H => ta σ H fun x H1 => ∃ a C dx fs v, x = .ref a ∧ H1 a = some (.ins C dx fs) ∧ Cls K C ∧ NoAttr K C f ∧ fs.lookup f = some v ∧
  tv σ H1 fun y H2 => rd v y H2 fun z H3 => ∃ dx' fs', H3 a = some (.ins C dx' fs') ∧ fs'.length < 1000 ∧ D.nx σ (upd H3 a (.ins C dx' (putF f z fs')))
section
variable {X : Cx} {o e value : Expr} {f : Str} {pos pos' tpos : Pos} {ta tv : TE}
noncomputable def rAdd : V → V → Hp → VK → Prop := fun x y H Q => ∃ i j, x = .int i ∧ y = .int j ∧ Q (.int (i + j)) H
noncomputable def rSub : V → V → Hp → VK → Prop := fun x y H Q => ∃ i j, x = .int i ∧ y = .int j ∧ Q (.int (i - j)) H
end
section
variable {X : Cx} {pins : List (Addr × Obj)} {σ : St} {H : Hp} {s : Shared} {A : Around} {E : Value → Shared → Prop} {Q : Value → Shared → Prop} {c : Value} {b : Bool}
inductive TyOf (K : PySem.W.Frag) (H : Hp) : V → Value → Prop where
  | non : TyOf K H .non (.type "NoneType")
  | bl (x : Bool) : TyOf K H (.bl x) (.type "bool")
  | int (i : Int) : TyOf K H (.int i) (.type "int")
  | str (x : Str) : TyOf K H (.str x) (.type "str")
  | flt (x : UInt64) : TyOf K H (.flt x) (.type "float")
  | lst {a : Addr} {xs : List V} (e : H a = some (.lst xs)) : TyOf K H (.ref a) (.type "list")
  | frz {a : Addr} {o : Obj} {xs : List V} (e : H a = some (.frz o (.lst xs))) : TyOf K H (.ref a) (.type "list")
  | tup {a : Addr} {xs : List V} (e : H a = some (.tup xs)) : TyOf K H (.ref a) (.type "tuple")
  | dK {a : Addr} {kvs : List (Key × V)} (e : H a = some (.dK kvs)) : TyOf K H (.ref a) (.type "dict")
  | dT {a : Addr} {kvs : List (List Key × V)} (e : H a = some (.dT kvs)) : TyOf K H (.ref a) (.type "dict")
  | ins {a C dx : Addr} {fs : List (Str × V)} (e : H a = some (.ins C dx fs)) (cl : Cls K C) (ha : PySem.W.findIn K (.ref C) "__class__" = some (some (.builtin "object.__class__")))
      (hn : PySem.W.specialIn K (.builtin "object.__class__") "__get__" = some (some (.builtin "getset_descriptor.__get__"))) (htk : PySem.W.takesIn K (.builtin "object.__class__") = some true)
      (hm : PySem.W.mroIn K C (.type "object") = some true) : TyOf K H (.ref a) (.ref C)
end
end L2
namespace L2
open PySem PySem.Spec PyProof.Rows
structure Room (k : Nat) (A : Around) : Prop where
  hd : A.handled = none
  dp : A.depth + 3 * k + 5 < recursionLimit
  un : A.units + 16 * k + 200 < cLine
theorem Room.mono {j k : Nat} {A : Around} (r : Room k A) (h : j ≤ k) : Room j A := ⟨r.hd, by have := r.dp; omega, by have := r.un; omega⟩
theorem Room.deeper {k : Nat} {A : Around} (r : Room (k + 1) A) (env : Env) : Room k (A.deeper env) :=
  ⟨r.hd, by have := r.dp; show A.depth + 1 + 3 * k + 5 < _; omega, by have := r.un; show A.units + 3 + 16 * k + 200 < _; omega⟩
theorem Room.depth {k : Nat} {A : Around} (r : Room k A) : A.depth < recursionLimit := by have := r.dp; omega
theorem Room.units {k : Nat} {A : Around} (r : Room k A) : A.units + 64 < cLine := by have := r.un; omega
noncomputable def tNil : TA := fun _ H Q => Q [] H
noncomputable def tCons (ta : TE) (tr : TA) : TA := fun σ H Q => ta σ H fun x H1 => tr σ H1 fun xs H2 => Q (x :: xs) H2
section
variable {X : Cx} {e : Expr} {es : List Expr} {te : TE} {t : TA} {pos : Pos}
theorem pa_nil : PA X [] tNil := fun _ _ _ _ H Q I h => Calls.spliced_nil ⟨[], H, I, .nil, h⟩
theorem pa_cons (ha : PE X e te) (hr : PA X es t) (hs : starEach (e :: es) X.env = (false, eval e X.env) :: starEach es X.env := by rfl) : PA X (e :: es) (tCons te t) := by
  intro pos pins s σ H Q I h
  rw [hs]
  show wpAny _ _ (spliced ((false, eval e X.env) :: backTo pos (starEach es X.env))) _ _ s
  refine Calls.spliced_cons (thn (ha pins s σ H _ I h) fun u s1 ⟨x, H1, I1, r1, q1⟩ => ?_)
  exact thn (hr pos pins s1 σ H1 _ I1 q1) fun us s2 ⟨xs, H2, I2, r2, q2⟩ => ⟨x :: xs, H2, I2, .cons r1 r2, q2⟩
noncomputable def tTup (t : TA) : TE := fun σ H Q => t σ H fun xs H1 => xs.length ≤ sizeLine ∧ ∀ p, H1 p = none → Q (.ref p) (upd H1 p (.tup xs))
noncomputable def tLst (t : TA) : TE := fun σ H Q => t σ H fun xs H1 => xs.length ≤ sizeLine ∧ ∀ p, H1 p = none → Q (.ref p) (upd H1 p (.lst xs))
theorem pe_tup {x1} (h : PA X es t) : PE X (.Tuple es x1 pos) (tTup t) := by
  intro pins s σ H Q I hq
  refine wpAny_Tuple_spliced (thn (h pos pins s σ H _ I hq) fun us s1 ⟨xs, H1, I1, r, z, q⟩ => ⟨by rw [← r.length]; exact z, ?_⟩)
  have hf : H1 s1.heap.objs.size = none := I1.hok.fresh (Nat.le_refl _)
  refine ⟨.ref s1.heap.objs.size, upd H1 s1.heap.objs.size (.tup xs), I1.laid (t' := s1.toks) (fun b u e => Heap.get?_push_of_some _ e) (Nat.le_refl _) ?_, rfl, q _ hf⟩
  exact ⟨z, us, r, ⟨_, Heap.get?_push_size _ rfl, rfl, _, rfl⟩⟩
theorem pe_lst (h : PA X es t) : PE X (.List es pos) (tLst t) := by
  intro pins s σ H Q I hq
  refine wpAny_List_spliced (thn (h pos pins s σ H _ I hq) fun us s1 ⟨xs, H1, I1, r, z, q⟩ => ⟨by rw [← r.length]; exact z, ?_⟩)
  have hf : H1 s1.heap.objs.size = none := I1.hok.fresh (Nat.le_refl _)
  refine ⟨.ref s1.heap.objs.size, upd H1 s1.heap.objs.size (.lst xs), I1.laid (t' := s1.toks) (fun b u e => Heap.get?_push_of_some _ e) (Nat.le_refl _) ?_, rfl, q _ hf⟩
  exact ⟨z, us, 0, r, Heap.get?_push_size _ rfl⟩
end
noncomputable abbrev Sp := List V → Hp → VK → XK → Prop
noncomputable abbrev CXT := List Env → Hp → Shared → XK → Value → Shared → Prop
structure Env0 (P : Program) (w : World) (K : PySem.W.Frag) (mg : Str → Option Value) (base : Heap) (A : Around) (outer : List Env) (s : Shared) (H : Hp) : Prop where
  frames : A.frames = some outer
  mod : Mod K mg base
  bs : ∀ b o, base.get? b = some o → s.heap.get? b = some o ∧ H b = none
  bsz : base.objs.size ≤ s.heap.objs.size
  funs : s.heap.FunFrames base outer
  frf : ∀ b ∈ frs outer, H b = none
  hok : HOk P w H s.heap
  bare : AllBare s.gens
noncomputable def CE (outer : List Env) (P : Program) (w : World) (H : Hp) (s : Shared) (Q : VK) (u : Value) (s' : Shared) : Prop :=
  ∃ v H', s'.os = s.os ∧ AllBare s'.gens ∧ Un (frs outer) [] H H' s.heap s'.heap ∧ HOk P w H' s'.heap ∧ RelV v u ∧ Q v H'
noncomputable def CR (CX : CXT) (outer : List Env) (P : Program) (w : World) (H : Hp) (s : Shared) (Q : VK) (E : XK) (r : Result) (s' : Shared) : Prop :=
  match r with
  | .ok (.ret u) => CE outer P w H s Q u s'
  | .ok _ => False
  | .error e => CX outer H s E e s'
structure FnOk (P : Program) (w : World) (K : PySem.W.Frag) (mg : Str → Option Value) (base : Heap) (CX : CXT) (k : Nat) (f : Addr) (fd : FuncData) (ps : List Str) (sp : Sp) : Prop where
  len : ∀ vs H Q E, sp vs H Q E → vs.length = ps.length
  run : ∀ (A : Around) (outer : List Env) (s : Shared) (H : Hp) (args : Args) (us : List Value) (vs : List V) (Q : VK) (E : XK), Room k A → Env0 P w K mg base A outer s H → BindsTo s fd args (ps.zip us) → Vals vs us → sp vs H Q E →
    codeAny (model P w) A (.call (.ref f) args) (CR CX outer P w H s Q E) s
theorem FnOk.mono {P : Program} {w : World} {K : PySem.W.Frag} {mg : Str → Option Value} {base : Heap} {CX : CXT} {j k : Nat} {f : Addr} {fd : FuncData} {ps : List Str} {sp : Sp} (F : FnOk P w K mg base CX j f fd ps sp) (h : j ≤ k) :
    FnOk P w K mg base CX k f fd ps sp := ⟨F.len, fun A outer s H args us vs Q E hr => F.run A outer s H args us vs Q E (hr.mono h)⟩
section
variable {X : Cx} {pins : List (Addr × Obj)} {σ : St} {H : Hp} {s s' : Shared}
theorem Inv.env0 (I : Inv X pins σ H s) : Env0 X.prog X.w X.K X.mg X.base X.A X.stack s H :=
  ⟨I.ok.frames, I.ok.mod, I.bs, Nat.le_trans I.ok.bsz I.sz, I.stack, I.stkFree, I.hok, I.bare⟩
theorem Inv.after {Q : VK} {u : Value} (I : Inv X pins σ H s) (h : CE X.stack X.prog X.w H s Q u s') : EP X pins σ Q u s' := by
  obtain ⟨v, H', os, bare, un, hok, r, q⟩ := h
  obtain ⟨hh, g, d, t, os'⟩ := s'
  obtain rfl : os' = s.os := os
  exact ⟨v, H', I.call (h' := hh) (g' := g) (d' := d) (t' := t) (ch := []) un hok bare (fun b z => absurd z (by simp)), r, q⟩
end
noncomputable def tCall (sp : Sp) (dvs : List V) (E : XK) (t : TA) : TE := fun σ H Q => t σ H fun vs H1 => sp (vs ++ dvs) H1 Q E
noncomputable def tMeth (C : Addr) (m : Str) (sp : Sp) (dvs : List V) (E : XK) (ta : TE) (t : TA) : TE := fun σ H Q => ta σ H fun x H1 => ∃ a dx fs, x = .ref a ∧ H1 a = some (.ins C dx fs) ∧ fs.lookup m = none ∧
  t σ H1 fun vs H2 => sp (x :: (vs ++ dvs)) H2 Q E
noncomputable def tMake (C : Addr) (sp : Sp) (dvs : List V) (E : XK) (t : TA) : TE := fun σ H Q => t σ H fun vs H1 => ∀ x dx, H1 x = none → H1 dx = none → dx ≠ x →
  sp (.ref x :: (vs ++ dvs)) (upd (upd H1 dx (.own x)) x (.ins C dx [])) (fun v H2 => v = .non ∧ Q (.ref x) H2) E
noncomputable def Binds (K : PySem.W.Frag) (fd : FuncData) (ps : List Str) (ds : List Value) : Prop :=
  ∀ (s : Shared) (us : List Value), K.In s.heap → (us ++ ds).length = ps.length → BindsTo s fd ⟨us, []⟩ (ps.zip (us ++ ds))
theorem Binds.all {K : PySem.W.Frag} {fd : FuncData} {ps : List Str} (h : ∀ us : List Value, us.length = ps.length → bindArgs fd ⟨us, []⟩ = pure (ps.zip us)) : Binds K fd ps [] := fun s us _ hl => by
  rw [List.append_nil] at hl ⊢
  exact .of_eq (h us hl)
noncomputable def Passes (CX : CXT) (X : Cx) (E : XK) : Prop := ∀ (pins : List (Addr × Obj)) (σ : St) (H : Hp) (s : Shared) (e : Value) (s' : Shared), Inv X pins σ H s → CX X.stack H s E e s' → X.xe e s'
section
variable {X : Cx} {CX : CXT} {k : Nat} {f C : Addr} {fd : FuncData} {ps : List Str} {sp : Sp} {dvs : List V} {ds : List Value} {E : XK} {x m : Str} {p pos apos : Pos} {e o : Expr} {es : List Expr} {ta : TE} {t : TA}
theorem run_fn {pins : List (Addr × Obj)} {σ : St} {H : Hp} {s : Shared} {Q : VK} {us : List Value} {vs : List V} (F : FnOk X.prog X.w X.K X.mg X.base CX k f fd ps sp) (hr : Room k X.A) (hb : Binds X.K fd ps ds) (hd : Vals dvs ds) (hx : Passes CX X E)
    (I : Inv X pins σ H s) (r : Vals vs us) (h : sp (vs ++ dvs) H Q E) : wpAny (model X.prog X.w) X.A (call (.ref f) us) (EP X pins σ Q) X.xe s := by
  have r2 : Vals (vs ++ dvs) (us ++ ds) := r.append hd
  have hl : (us ++ ds).length = ps.length := by rw [← r2.length]; exact F.len _ _ _ _ h
  refine wpAny_call (codeAny_mono (F.run X.A X.stack s H ⟨us, []⟩ (us ++ ds) (vs ++ dvs) Q E hr I.env0 (hb s us I.kIn hl) r2 h) fun r s' hq => ?_)
  cases r with
  | error e => exact hx pins σ H s e s' I hq
  | ok fl =>
    cases fl with
    | ret u => exact I.after hq
    | next => exact False.elim hq
    | brk => exact False.elim hq
    | cont => exact False.elim hq
theorem pe_call (F : FnOk X.prog X.w X.K X.mg X.base CX k f fd ps sp) (hr : Room k X.A) (hg : Gl X x) (hm : X.mg x = some (.ref f)) (hk : PySem.W.keepIn X.K (.ref f) = true) (hb : Binds X.K fd ps ds) (hd : Vals dvs ds) (hx : Passes CX X E)
    (ha : PA X (e :: es) t) (hdb : (x == ("__debug__" : Str)) = false := by decide) (he : starEach (e :: es) X.env = (false, eval e X.env) :: starEach es X.env := by rfl) (hpl : (backTo pos (starEach es X.env)).any (·.1) = false := by rfl) :
    PE X (.Call (.Name x p) (e :: es) [] pos) (tCall sp dvs E t) := by
  intro pins s σ H Q I h
  refine wpAny_Call_Name_kw (ld_glob I hg hm ?_ hdb)
  refine PySem.W.callWith_K (h₀ := X.base) I.ok.mod.kin hk (thn (ha pos pins s σ H _ I h) fun us s1 ⟨vs, H1, I1, r, q⟩ => ⟨I1.kIn, ?_⟩) he hpl
  exact run_fn F hr hb hd hx I1 r q
structure Mk (K : PySem.W.Frag) (C f : Addr) : Prop where
  makes : PySem.W.makesIn K C = true
  init : PySem.W.findIn K (.ref C) "__init__" = some (some (.ref f))
  fn : PySem.W.isFn K (.ref f) = true
  kp : PySem.W.keepIn K (.ref C) = true
end
noncomputable def PK (X : Cx) (kws : List Keyword) (t : TA) : Prop :=
  ∀ (pos : Pos) (pins : List (Addr × Obj)) (s : Shared) (σ : St) (H : Hp) (Q : List V → Hp → Prop), Inv X pins σ H s → t σ H Q → wpAny (model X.prog X.w) X.A (evalAll ((backToKw pos (keywordEach kws X.env)).map (·.2))) (AP X pins σ Q) X.xe s
section
variable {X : Cx} {CX : CXT} {k : Nat} {f C : Addr} {fd : FuncData} {ps ks : List Str} {sp : Sp} {E : XK} {x m : Str} {p pos apos kpos : Pos} {e o : Expr} {es : List Expr} {kws : List Keyword} {te ta : TE} {t tk : TA} {nm : Option Str}
structure KBinds (K : PySem.W.Frag) (fd : FuncData) (ps ks : List Str) (g : List Value → List Value → List Value) (gV : List V → List V → List V) : Prop where
  to : ∀ (s : Shared) (us ws : List Value), K.In s.heap → (g us ws).length = ps.length → BindsTo s fd ⟨us, ks.zip ws⟩ (ps.zip (g us ws))
  rel : ∀ {vs : List V} {us : List Value} {zs : List V} {ws : List Value}, Vals vs us → Vals zs ws → Vals (gV vs zs) (g us ws)
noncomputable def tCallK (sp : Sp) (gV : List V → List V → List V) (E : XK) (t tk : TA) : TE := fun σ H Q => t σ H fun vs H1 => tk σ H1 fun zs H2 => sp (gV vs zs) H2 Q E
variable {g : List Value → List Value → List Value} {gV : List V → List V → List V}
end
structure FnScope (N P : List Str) (sc : Scope) : Prop where
  kind : sc.kind = .function
  co : sc.isCoroutine = false
  gen : sc.isGenerator = false
  nd : N.Nodup
  pre : N.take P.length = P
  par : ∀ x ∈ P, sc.names.lookup x = some .local ∨ sc.names.lookup x = some .cell
  nofree : ∀ y ∈ sc.names, y.2 ≠ .free
theorem bindL_out {kindOf : Str → Option NameKind} {x : Str} : ∀ {binds : List (Str × Value)} {m : Str → Option Value}, (∀ v, (x, v) ∉ binds) → bindL kindOf binds m x = m x
  | [], _, _ => rfl
  | (n, v) :: r, m, h => by
    unfold bindL
    rw [bindL_out fun w hw => h w (List.mem_cons_of_mem _ hw)]
    split
    · have : x ≠ n := by rintro rfl; exact h v List.mem_cons_self
      simp [this]
    · rfl
theorem bindC_out {kindOf : Str → Option NameKind} {x : Str} : ∀ {binds : List (Str × Value)} {m : Str → Option Value}, (∀ v, (x, v) ∉ binds) → bindC kindOf binds m x = m x
  | [], _, _ => rfl
  | (n, v) :: r, m, h => by
    unfold bindC
    rw [bindC_out fun w hw => h w (List.mem_cons_of_mem _ hw)]
    split
    · rfl
    · have : x ≠ n := by rintro rfl; exact h v List.mem_cons_self
      simp [this]
theorem bindL_get {kindOf : Str → Option NameKind} {x : Str} {v : Value} : ∀ {P : List Str} {vs : List Value} {i : Nat} {m : Str → Option Value}, P.Nodup → P[i]? = some x → vs[i]? = some v → kindOf x = some .local →
    bindL kindOf (P.zip vs) m x = some v
  | [], _, _, _, _, h, _, _ => by simp at h
  | _ :: _, [], _, _, _, _, h, _ => by simp at h
  | p :: P, w :: vs, 0, m, nd, h1, h2, hk => by
    simp at h1 h2; subst h1; subst h2
    show bindL kindOf ((p, w) :: P.zip vs) m p = _
    unfold bindL
    rw [bindL_out fun v hv => (List.nodup_cons.mp nd).1 (List.of_mem_zip hv).1, if_pos hk]
    simp
  | p :: P, w :: vs, i + 1, m, nd, h1, h2, hk => by
    show bindL kindOf ((p, w) :: P.zip vs) m x = _
    unfold bindL
    exact bindL_get (i := i) (List.nodup_cons.mp nd).2 (by simpa using h1) (by simpa using h2) hk
theorem bindC_get {kindOf : Str → Option NameKind} {x : Str} {v : Value} : ∀ {P : List Str} {vs : List Value} {i : Nat} {m : Str → Option Value}, P.Nodup → P[i]? = some x → vs[i]? = some v → kindOf x ≠ some .local →
    bindC kindOf (P.zip vs) m x = some v
  | [], _, _, _, _, h, _, _ => by simp at h
  | _ :: _, [], _, _, _, _, h, _ => by simp at h
  | p :: P, w :: vs, 0, m, nd, h1, h2, hk => by
    simp at h1 h2; subst h1; subst h2
    show bindC kindOf ((p, w) :: P.zip vs) m p = _
    unfold bindC
    rw [bindC_out fun v hv => (List.nodup_cons.mp nd).1 (List.of_mem_zip hv).1, if_neg hk]
    simp
  | p :: P, w :: vs, i + 1, m, nd, h1, h2, hk => by
    show bindC kindOf ((p, w) :: P.zip vs) m x = _
    unfold bindC
    exact bindC_get (i := i) (List.nodup_cons.mp nd).2 (by simpa using h1) (by simpa using h2) hk
noncomputable def start (N : List Str) (vs : List V) : St := vs.map some ++ List.replicate (N.length - vs.length) none
noncomputable def cxOf (CX : CXT) (P : Program) (w : World) (K : PySem.W.Frag) (mg : Str → Option Value) (base : Heap) (N : List Str) (qual : Str) (scope : Scope) (f : Addr) (cd : Value) (A : Around) (outer : List Env) (s : Shared) (H : Hp) (E : XK) : Cx where
  prog := P
  w := w
  K := K
  mg := mg
  base := base
  A := A.deeper (envOfC qual scope s.heap.objs.size f cd)
  N := N
  s₀ := s
  H₀ := H
  env := envOfC qual scope s.heap.objs.size f cd
  outer := outer
  stack := envOfC qual scope s.heap.objs.size f cd :: outer
  ex := []
  calm := true
  fn := fun _ => true
  pn := []
  xe := fun e s' => wpAny (model P w) (A.deeper (envOfC qual scope s.heap.objs.size f cd)) (leaving (envOfC qual scope s.heap.objs.size f cd) e) (fun _ s'' => CX outer H s E e s'') (fun e' s'' => CX outer H s E e' s'') s'
theorem cell_has {sc : Scope} {n : Nat} {x : Str} (h : sc.names.lookup x = some .cell) : ∃ c, (cellsFrom n sc.names []).lookup x = some c := by
  have q := PySem.W.cellsFrom_some sc.names n [] (.inl h)
  exact Option.isSome_iff_exists.mp q
theorem inv_start {CX : CXT} {P : Program} {w : World} {K : PySem.W.Frag} {mg : Str → Option Value} {base : Heap} {N ps : List Str} {qual : Str} {scope : Scope} {f : Addr} {cd : Value} {A : Around} {outer : List Env} {s s1 : Shared} {H : Hp} {E : XK} {us : List Value} {vs : List V}
    (S : FnScope N ps scope) (hd : A.handled = none) (e0 : Env0 P w K mg base A outer s H) (hl : vs.length = ps.length) (r : Vals vs us)
    (x : InCallC s s.heap.objs.size (bindL (envOfC qual scope s.heap.objs.size f cd).kindOf (ps.zip us) fun _ => none) (cellsFrom (s.heap.objs.size + 1) scope.names []) (bindC (envOfC qual scope s.heap.objs.size f cd).kindOf (ps.zip us) fun _ => none) s1) :
    Inv (cxOf CX P w K mg base N qual scope f cd A outer s H E) [] (start N vs) H s1 := by
  have hpl : ps.length ≤ N.length := by have := congrArg List.length S.pre; rw [List.length_take] at this; omega
  obtain ⟨h1, tk, rfl, hk⟩ := x.done
  have noA : ∀ b : Addr, b ∉ (cxOf CX P w K mg base N qual scope f cd A outer s H E).ex := fun b z => absurd (show b ∈ ([] : List Addr) from z) (by simp)
  refine ⟨⟨e0.mod, S.kind, rfl, rfl, Nat.le_refl _, fun y z c h1 h2 => ?_, fun y hy => ?_, fun y c _ h => ?_, fun _ => hd, Around.frames_deeper e0.frames, .inr ⟨rfl, rfl⟩, fun b z => absurd z (noA b), e0.bs, e0.bsz, fun b _ _ => noA b, fun b z => absurd z (noA b), e0.funs, e0.frf⟩,
    rfl, e0.bare, Un.kept hk, ⟨_, x.toInCall.ns, fun i y v h1 h2 h3 => ?_⟩, fun y c h => ⟨_, x.cell y c h⟩, e0.hok.fresh (Nat.le_refl _), fun y c h => ?_, fun p hp => absurd (show p ∈ ([] : List (Addr × Obj)) from hp) (by simp), e0.hok.kept hk, ?_⟩
  · exact name_of_addr x.apart (PySem.mem_of_lookup h1) (PySem.mem_of_lookup h2)
  · have hy : scope.names.lookup y = some .cell ∨ scope.names.lookup y = some .free := hy
    rcases hy with hy | hy
    · exact cell_has hy
    · exact absurd rfl (S.nofree _ (PySem.mem_of_lookup hy))
  · exact Nat.le_of_lt (x.above y c (PySem.mem_of_lookup h))
  · have hi : i < vs.length := by
      unfold start at h2
      by_cases hi : i < vs.length
      · exact hi
      · rw [List.getElem?_append_right (by simpa using hi)] at h2
        rw [List.getElem?_replicate] at h2
        split at h2 <;> cases h2
    have ha : vs[i]? = some v := by
      unfold start at h2
      rw [List.getElem?_append_left (by simpa using hi), List.getElem?_map] at h2
      cases e : vs[i]? with
      | none => rw [e] at h2; cases h2
      | some a => rw [e] at h2; cases h2; rfl
    obtain ⟨u, hu, rv⟩ := r.get ha
    have hp : ps[i]? = some y := by
      rw [← S.pre, List.getElem?_take_of_lt (by omega)]; exact h1
    have ndP : ps.Nodup := by rw [← S.pre]; exact S.nd.sublist (List.take_sublist _ _)
    refine ⟨u, rv, ?_⟩
    rcases S.par y (List.mem_of_getElem? hp) with k | k
    · exact .inl ⟨k, bindL_get ndP hp hu k⟩
    · obtain ⟨c, e⟩ := cell_has (n := s.heap.objs.size + 1) k
      refine .inr ⟨.inl k, c, e, ?_⟩
      have q := x.cell y c e
      rw [bindC_get ndP hp hu (by show scope.names.lookup y ≠ _; rw [k]; decide)] at q
      exact q
  · exact e0.hok.fresh (Nat.le_of_lt (x.above y c (PySem.mem_of_lookup h)))
  · unfold start
    show _ = N.length
    rw [List.length_append, List.length_map, List.length_replicate]
    omega
theorem fn_of {CX : CXT} {P : Program} {w : World} {K : PySem.W.Frag} {mg : Str → Option Value} {base : Heap} {k : Nat} {f : Addr} {name qual : Str} {params : Arguments} {body : List Stmt} {scope : Scope} {dV kV doc pm cdv ct oc : Value} {an od : Option Addr}
    {osl : Array (Option Value)} {N ps : List Str} {sp : Sp} (lk : K.lookup f = some ⟨oc, od, .func (PySem.W.fnOf name qual params body scope dV kV doc pm an cdv ct), osl⟩) (hcd : PySem.W.codeIn K cdv qual = true) (S : FnScope N ps scope)
    (len : ∀ vs H Q E, sp vs H Q E → vs.length = ps.length)
    (hbody : ∀ (A : Around) (outer : List Env) (s : Shared) (H : Hp) (vs : List V) (Q : VK) (E : XK), Room k (A.deeper (envOfC qual scope s.heap.objs.size f cdv)) → sp vs H Q E →
      ∃ t, PSs (cxOf CX P w K mg base N qual scope f cdv A outer s H E) body t ∧ t { nx := fun _ H' => Q .non H', rt := Q } (start N vs) H) :
    FnOk P w K mg base CX (k + 1) f (PySem.W.fnOf name qual params body scope dV kV doc pm an cdv ct) ps sp := by
  refine ⟨len, fun A outer s H args us vs Q E hr e0 hb r hsp => ?_⟩
  have hl := len _ _ _ _ hsp
  have KX : K.In s.heap := e0.mod.kin.keeps fun b o e => (e0.bs b o e).1
  have lim : s.heap.NoLimit := e0.mod.nolimit.keeps fun b o e => (e0.bs b o e).1
  have hkind : ∀ y ∈ ps.zip us, scope.names.lookup y.1 = some .local ∨ (scope.names.lookup y.1 = some .cell ∧ ((cellsFrom (s.heap.objs.size + 1) scope.names []).lookup y.1).isSome = true) := fun ⟨n, v⟩ hy => by
    rcases S.par n (List.of_mem_zip hy).1 with q | q
    · exact .inl q
    · exact .inr ⟨q, PySem.W.cellsFrom_some _ _ _ (.inl q)⟩
  refine codeAny_call_function hr.depth (KX _ _ lk) rfl S.co S.gen rfl (PySem.W.codeRec_of KX hcd) (hb _ _ _ _ ?_)
  refine wpAny_newFunctionEnv_cells S.kind hkind fun env he s1 x => ?_
  subst he
  refine ⟨lim.keeps x.toInCall.keep, codeAny_func ?_⟩
  obtain ⟨t, ht, hq⟩ := hbody A outer s H vs Q E (hr.deeper _) hsp
  have I : Inv (cxOf CX P w K mg base N qual scope f cdv A outer s H E) [] (start N vs) H s1 := inv_start S hr.hd e0 hl r x
  refine wpAny_mono (ht [] s1 (start N vs) H _ I hq) (fun fl s' hs => ?_) fun e s' hs => hs
  have fin : ∀ {σ' : St} {H' : Hp} {v : V} {u : Value}, Inv (cxOf CX P w K mg base N qual scope f cdv A outer s H E) [] σ' H' s' → RelV v u → Q v H' → CE outer P w H s Q u s' :=
    fun {σ' H' v u} J rv q => ⟨v, H', J.os, J.bare, J.base, J.hok, rv, q⟩
  cases fl with
  | ret u =>
    obtain ⟨v, σ', H', J, rv, q⟩ := hs
    exact fin J rv q
  | next =>
    obtain ⟨σ', H', J, q⟩ := hs
    exact fin (v := V.non) (u := Value.none) J rfl q
  | brk =>
    obtain ⟨_, _, _, q⟩ := hs
    exact False.elim q
  | cont =>
    obtain ⟨_, _, _, q⟩ := hs
    exact False.elim q
end L2
namespace L2
open PySem PySem.Spec PyProof.Rows
section
variable {X : Cx} {x : Str} {p pos : Pos} {e : Expr} {es : List Expr} {t : TA} {id T : String} {r : List V → Hp → VK → Prop}
noncomputable def tCB (r : List V → Hp → VK → Prop) (t : TA) : TE := fun σ H Q => t σ H fun vs H1 => r vs H1 Q
theorem pe_callB (hc : CallR X (.builtin id) r) (hg : Gl X x) (hm : X.mg x = none) (hv : bootBuiltins x = some (.builtin id)) (ha : PA X (e :: es) t) (hn : x ≠ "__name__" := by decide) (hdb : (x == ("__debug__" : Str)) = false := by decide)
    (he : starEach (e :: es) X.env = (false, eval e X.env) :: starEach es X.env := by rfl) (hpl : (backTo pos (starEach es X.env)).any (·.1) = false := by rfl) : PE X (.Call (.Name x p) (e :: es) [] pos) (tCB r t) := by
  intro pins s σ H Q I h
  refine wpAny_Call_Name_kw (ld_blt I hg hm hv ?_ hn hdb)
  exact PyProof.Rows.callWith_builtin1 (thn (ha pos pins s σ H _ I h) fun us s1 ⟨vs, H1, I1, r1, q1⟩ => hc pins s1 σ H1 vs us Q I1 r1 q1) he hpl
theorem pe_callTy (hc : CallR X (.type T) r) (hg : Gl X x) (hm : X.mg x = none) (hv : bootBuiltins x = some (.type T)) (ha : PA X (e :: es) t) (hn : x ≠ "__name__" := by decide) (hdb : (x == ("__debug__" : Str)) = false := by decide)
    (he : starEach (e :: es) X.env = (false, eval e X.env) :: starEach es X.env := by rfl) (hpl : (backTo pos (starEach es X.env)).any (·.1) = false := by rfl) : PE X (.Call (.Name x p) (e :: es) [] pos) (tCB r t) := by
  intro pins s σ H Q I h
  refine wpAny_Call_Name_kw (ld_blt I hg hm hv ?_ hn hdb)
  exact PyProof.Rows.callWith_type1 (thn (ha pos pins s σ H _ I h) fun us s1 ⟨vs, H1, I1, r1, q1⟩ => hc pins s1 σ H1 vs us Q I1 r1 q1) he hpl
end
end L2
namespace HT
open PySem PyProof.Rows
noncomputable def lexLt : List Int → List Int → Bool
  | [], [] => false
  | [], _ :: _ => true
  | _ :: _, [] => false
  | x :: xs, y :: ys => if x = y then lexLt xs ys else decide (x < y)
section
open PySem.SeqAt
open PySem.AutoSeq1 (wpAny_loadPart')
open PySem.MeetsSeq PySem.MeetsSeq2 PySem.MeetsSeq3
end
section
variable {prog : Program} {w : World} {A : Around} {E : Value → Shared → Prop} {s : Shared}
theorem cat_tup {t b : Addr} {vs ws : List Value} {Q : Value → Shared → Prop} (ht : IsTup s.heap t vs.toArray) (hb : IsTup s.heap b ws.toArray) (hv : vs ≠ [])
    (h1 : ws = [] → Q (.ref t) s) (h2 : ws ≠ [] → Q (.ref s.heap.objs.size) { s with heap := s.heap.push { cls := .type "tuple", data := .seq (vs ++ ws).toArray } })
    (hsz : vs.length + ws.length ≤ sizeLine) : wpAny (model prog w) A (binaryOp .Add (.ref t) (.ref b)) Q E s := by
  obtain ⟨⟨cls, dd, data, sl⟩, ho, hc, n, hd⟩ := id ht
  obtain ⟨⟨cls2, dd2, data2, sl2⟩, ho2, hc2, n2, hd2⟩ := id hb
  simp only at hc hd hc2 hd2
  subst hc hd hc2 hd2
  have e : vs.toArray ++ ws.toArray = (vs ++ ws).toArray := by simp
  by_cases hw : ws = []
  · exact concat_meets ⟨_, ho, rfl⟩ ⟨_, ho2, rfl⟩ noFill_tuple_add seq_tuple_add PySem.F.slot_tuple_add PySem.F.entry_tuple_add (PySem.F.args_tuple_add_2 _ _)
      (tuple_addW1 t b vs.toArray ws.toArray n n2 dd dd2 sl sl2 (by simpa using hv) (by simp [hw])) ⟨ho, ho2, h1 hw⟩
  · refine concat_meets ⟨_, ho, rfl⟩ ⟨_, ho2, rfl⟩ noFill_tuple_add seq_tuple_add PySem.F.slot_tuple_add PySem.F.entry_tuple_add (PySem.F.args_tuple_add_2 _ _)
      (tuple_addW2 t b vs.toArray ws.toArray n n2 dd dd2 sl sl2 (by simpa using hv) (by simpa using hw) (by rw [List.size_toArray, List.size_toArray]; exact hsz)) ⟨ho, ho2, ?_⟩
    rw [e]
    exact h2 hw
noncomputable def sIx (n d : Nat) : Option Int → Nat
  | none => d
  | some v => if v < 0 then (v + (n : Int)).toNat else min v.toNat n
theorem sIx_le (n d : Nat) (hd : d ≤ n) (o : Option Int) : sIx n d o ≤ n := by
  cases o with
  | none => exact hd
  | some v =>
    show (if v < 0 then (v + (n : Int)).toNat else min v.toNat n) ≤ n
    by_cases hv : v < 0
    · rw [if_pos hv]; omega
    · rw [if_neg hv]; exact Nat.min_le_right _ _
theorem clip_eq (v : Int) (n d : Nat) : (if v < 0 then max (v + (n : Int)) 0 else min v (n : Int)) = ((sIx n d (some v) : Nat) : Int) := by
  show (if v < 0 then max (v + (n : Int)) 0 else min v (n : Int)) = (((if v < 0 then (v + (n : Int)).toNat else min v.toNat n) : Nat) : Int)
  by_cases hv : v < 0
  · simp only [if_pos hv]; omega
  · simp only [if_neg hv]; omega
theorem adjust_gen (lo hi : Option Int) (n : Nat) : Builtin.Slice.sliceAdjust lo hi 1 (n : Int) = (((sIx n 0 lo : Nat) : Int), ((sIx n n hi : Nat) : Int)) := by
  have h1 : ¬ ((1 : Int) < 0) := by omega
  unfold Builtin.Slice.sliceAdjust
  simp only [h1, if_false]
  refine Prod.ext ?_ ?_
  · cases lo with
    | none => rfl
    | some v => exact clip_eq v n 0
  · cases hi with
    | none => rfl
    | some v => exact clip_eq v n n
theorem places_gen (i j : Nat) : Builtin.Slice.slicePlaces (i : Int) (j : Int) 1 = j - i := by
  unfold Builtin.Slice.slicePlaces
  have h1 : (1 : Int) > 0 := by omega
  simp only [h1, if_true, Int.ediv_one]
  split <;> omega
theorem slicePart_ {v : Value} {o : Option Int} {Q : Option Int → Shared → Prop} (p : IsPart v o) (h : Q o s) : wpAny (model prog w) A (Builtin.Slice.slicePartIndex v) Q E s := by
  cases p with
  | none => exact slicePart_none h
  | int i t => exact slicePart_int h
theorem sliceApplied_gen {sl : Addr} {vl vu : Value} {lo hi : Option Int} {n : Nat} {Q : Int × Int × Nat → Shared → Prop} (hs : s.heap.IsSliceOf sl vl vu .none) (pl : IsPart vl lo) (pu : IsPart vu hi)
    (h : Q (((sIx n 0 lo : Nat) : Int), 1, sIx n n hi - sIx n 0 lo) s) : wpAny (model prog w) A (Builtin.Slice.sliceApplied (.ref sl) (pure (n : Int))) Q E s := by
  obtain ⟨os, hos, hcs, hds⟩ := id hs
  unfold Builtin.Slice.sliceApplied Builtin.Slice.sliceFields
  refine wpAny_bind (wpAny_bind (wpAny_field hos hds (x := vl) rfl (wpAny_bind (wpAny_field hos hds (x := vu) rfl (wpAny_bind (wpAny_field hos hds (x := .none) rfl (wpAny_pure ?_)))))))
  refine wpAny_bind (slicePart_none ?_)
  show wpAny _ _ (if ((1 : Int) == 0) = true then _ else _) _ _ s
  rw [if_neg (by decide)]
  refine wpAny_bind (slicePart_ pl (wpAny_bind (slicePart_ pu (wpAny_bind (wpAny_pure ?_)))))
  show wpAny _ _ (match Builtin.Slice.sliceAdjust lo hi 1 (n : Int) with | (lo, hi) => pure (lo, (1 : Int), Builtin.Slice.slicePlaces lo hi 1)) _ _ s
  rw [adjust_gen lo hi n]
  show wpAny _ _ (pure (((sIx n 0 lo : Nat) : Int), (1 : Int), Builtin.Slice.slicePlaces ((sIx n 0 lo : Nat) : Int) ((sIx n n hi : Nat) : Int) 1)) _ _ s
  rw [places_gen]
  exact wpAny_pure h
theorem pick_gen (xs : Array Value) (i k : Nat) : ((List.range k).filterMap fun (m : Nat) => xs[((i : Int) + (m : Int) * 1).toNat]?).toArray = ((xs.toList.drop i).take k).toArray := by
  have e : (fun (m : Nat) => xs[((i : Int) + (m : Int) * 1).toNat]?) = fun m => xs[i + m]? := by
    funext m
    have : ((i : Int) + (m : Int) * 1).toNat = i + m := by omega
    rw [this]
  rw [e]
  have := pick_run xs i k
  rw [List.filterMap_map] at this
  have e2 : ((fun x => xs[x]?) ∘ fun x => i + x) = fun m => xs[i + m]? := rfl
  rw [e2] at this
  rw [this]
theorem getItem_tuple_cut {t sl : Addr} {items : Array Value} {vl vu : Value} {lo hi : Option Int} {Q : Value → Shared → Prop} (ht : IsTup s.heap t items) (hs : s.heap.IsSliceOf sl vl vu .none) (pl : IsPart vl lo) (pu : IsPart vu hi)
    (hw : ¬ (sIx items.size 0 lo = 0 ∧ sIx items.size items.size hi = items.size))
    (h : Q (.ref s.heap.objs.size) { s with heap := s.heap.push { cls := .type "tuple", data := .seq ((items.toList.drop (sIx items.size 0 lo)).take (sIx items.size items.size hi - sIx items.size 0 lo)).toArray } })
    (hsz : items.size ≤ sizeLine) : wpAny (model prog w) A (getItem (.ref t) (.ref sl)) Q E s := by
  have htake : sizeOk (.seq ((items.toList.drop (sIx items.size 0 lo)).take (sIx items.size items.size hi - sIx items.size 0 lo)).toArray) := by
    show ((items.toList.drop (sIx items.size 0 lo)).take (sIx items.size items.size hi - sIx items.size 0 lo)).toArray.size ≤ sizeLine
    rw [List.size_toArray, List.length_take, List.length_drop, Array.length_toList]
    omega
  have hj : sIx items.size items.size hi ≤ items.size := sIx_le _ _ (Nat.le_refl _) hi
  obtain ⟨os, hos, hcs, hds⟩ := id hs
  have hTs : s.TypeIs (.ref sl) "slice" := ⟨os, hos, hcs⟩
  unfold getItem
  try with_reducible refine wpAny_holding ?_
  first | refine wpAny_bind (wpAny_pure ?_) | skip
  refine wpAny_bind (wpAny_sequenceKey ht.typeIs (by decide) ?_)
  refine wpAny_bind (wpAny_callSpecial?_slot (name := Str.ofString "__getitem__") ht.typeIs PyProof.Rows.slot_tuple_getitem
    (wpAny_call_entry PyProof.Rows.slot_tuple_getitem ht.typeIs entry_tuple_getitem ?_ (args_tuple_getitem _ _)))
  show wpAny _ _ (Builtin.Tuple.tupleItemsOf (.ref t) >>= _) _ _ s
  refine wpAny_bind (tupleItemsOf_ ht ?_)
  refine wpAny_bind (wpAny_typeOf hTs ?_)
  rw [if_pos (by decide)]
  refine wpAny_bind (sliceApplied_gen hs pl pu ?_)
  have hno : ¬ ((((sIx items.size 0 lo : Nat) : Int) == 0 && (1 : Int) == 1 && (sIx items.size items.size hi - sIx items.size 0 lo) == items.size) = true) := by
    intro q
    rw [Bool.and_eq_true, Bool.and_eq_true] at q
    have q1 : ((sIx items.size 0 lo : Nat) : Int) = 0 := eq_of_beq q.1.1
    have q2 : sIx items.size items.size hi - sIx items.size 0 lo = items.size := eq_of_beq q.2
    exact hw ⟨by omega, by omega⟩
  show wpAny _ _ (if (((sIx items.size 0 lo : Nat) : Int) == 0 && (1 : Int) == 1 && (sIx items.size items.size hi - sIx items.size 0 lo) == items.size) = true then _ else _) _ _ s
  rw [if_neg hno, pick_gen]
  first
    | exact wpAny_bind (m := Builtin.Tuple.tupleExact _) (wpAny_newObj_type (wpAny_pure ⟨_, rfl, wpAny_pure h⟩) htake)
    | exact wpAny_bind (m := Builtin.Tuple.tupleExact _) (wpAny_newObj_type (wpAny_bind (wpAny_pure (wpAny_pure ⟨_, rfl, wpAny_pure h⟩))) htake)
    | exact wpAny_bind (wpAny_bind (m := Builtin.Tuple.tupleExact _) (wpAny_newObj_type (wpAny_pure (wpAny_pure ⟨_, rfl, wpAny_pure h⟩)) htake))
    | exact wpAny_bind (wpAny_bind (m := Builtin.Tuple.tupleExact _) (wpAny_newObj_type (wpAny_pure ⟨_, rfl, wpAny_pure h⟩) htake))
end
end HT
namespace L2
open PySem PySem.Spec PyProof.Rows
noncomputable abbrev TO := St → Hp → (Option Int → Hp → Prop) → Prop
noncomputable def PO (X : Cx) (e : Option Expr) (t : TO) : Prop :=
  ∀ (pins : List (Addr × Obj)) (s : Shared) (σ : St) (H : Hp) (Q : Option Int → Hp → Prop), Inv X pins σ H s → t σ H Q →
    wpAny (model X.prog X.w) X.A (evalPart e X.env) (fun u s' => ∃ o H', Inv X pins σ H' s' ∧ IsPart u o ∧ Q o H') X.xe s
noncomputable def tNoPart : TO := fun _ H Q => Q none H
noncomputable def tPart (t : TE) : TO := fun σ H Q => t σ H fun x H1 => ∃ i, x = .int i ∧ Q (some i) H1
section
variable {X : Cx} {e : Expr} {te : TE} {lo hi : Option Expr} {tl th : TO} {pos p2 : Pos}
theorem po_none : PO X none tNoPart := by
  intro pins s σ H Q I h
  rw [evalPart_none]
  exact wpAny_pure ⟨none, H, I, .none, h⟩
theorem po_some (h : PE X e te) : PO X (some e) (tPart te) := by
  intro pins s σ H Q I hw
  rw [evalPart_some]
  refine thn (h pins s σ H _ I hw) fun u s1 ⟨x, H1, I1, r1, q1⟩ => ?_
  obtain ⟨i, rfl, q⟩ := q1
  obtain ⟨t, rfl⟩ := r1
  exact ⟨some i, H1, I1, .int i t, q⟩
noncomputable def SlR (X : Cx) (r : V → Option Int → Option Int → Hp → VK → Prop) : Prop :=
  ∀ (pins : List (Addr × Obj)) (s : Shared) (σ : St) (H : Hp) (x : V) (v vl vu : Value) (lo hi : Option Int) (sl : Addr) (Q : VK), Inv X pins σ H s → RelV x v → s.heap.IsSliceOf sl vl vu .none → IsPart vl lo → IsPart vu hi → r x lo hi H Q →
    ∃ T id, typeLookup (.type T) "__getitem__" = pure (some (.builtin id)) ∧ s.TypeIs v T ∧ wpAny (model X.prog X.w) X.A (getItem v (.ref sl)) (EP X pins σ Q) X.xe s
theorem SlR.or {r r' : V → Option Int → Option Int → Hp → VK → Prop} (h : SlR X r) (h' : SlR X r') : SlR X (fun x lo hi H Q => r x lo hi H Q ∨ r' x lo hi H Q) := by
  intro pins s σ H x v vl vu lo hi sl Q I rx hs pl pu q
  rcases q with q | q
  · exact h pins s σ H x v vl vu lo hi sl Q I rx hs pl pu q
  · exact h' pins s σ H x v vl vu lo hi sl Q I rx hs pl pu q
noncomputable def tSl (r : V → Option Int → Option Int → Hp → VK → Prop) (te : TE) (tl th : TO) : TE := fun σ H Q => te σ H fun x H1 => tl σ H1 fun l H2 => th σ H2 fun u H3 => r x l u H3 Q
theorem pe_slice {r : V → Option Int → Option Int → Hp → VK → Prop} (hr : SlR X r) (he : PE X e te) (hl : PO X lo tl) (hu : PO X hi th) : PE X (.Subscript e (.Slice lo hi none p2) pos) (tSl r te tl th) := by
  intro pins s σ H Q I h
  refine Subscript_ (thn (he pins s σ H _ I h) fun v s1 ⟨x, H1, I1, r1, q1⟩ => ?_)
  refine wpAny_Slice (thn (hl pins s1 σ H1 _ I1 q1) fun vl s2 ⟨l, H2, I2, pl, q2⟩ => thn (hu pins s2 σ H2 _ I2 q2) fun vu s3 ⟨u, H3, I3, pu, q3⟩ => ?_)
  rw [evalPart_none]
  refine wpAny_pure ?_
  have I4 : Inv X pins σ H3 { s3 with heap := s3.heap.push { cls := .type "slice", data := .fields #[vl, vu, .none] } } := I3.kept (t' := s3.toks) fun b ob q => Heap.get?_push_of_some _ q
  obtain ⟨T, id, hT, ht, hg⟩ := hr pins { s3 with heap := s3.heap.push { cls := .type "slice", data := .fields #[vl, vu, .none] } } σ H3 x v vl vu l u s3.heap.objs.size Q I4 r1 (Heap.IsSliceOf.new ..) pl pu q3
  show wpAny (model X.prog X.w) X.A (subscriptTail e (.Slice lo hi none p2) v (.ref s3.heap.objs.size)) (EP X pins σ Q) X.xe { s3 with heap := s3.heap.push { cls := .type "slice", data := .fields #[vl, vu, .none] } }
  exact tail_any (ops := [.ref s3.heap.objs.size, v]) ht hT hg (by with_unfolding_all rfl)
noncomputable def cutV (xs : List V) (lo hi : Option Int) : List V := (xs.drop (HT.sIx xs.length 0 lo)).take (HT.sIx xs.length xs.length hi - HT.sIx xs.length 0 lo)
theorem cutV_length (xs : List V) (lo hi : Option Int) : (cutV xs lo hi).length ≤ xs.length := by
  unfold cutV
  rw [List.length_take, List.length_drop]
  omega
noncomputable def rSlT (K : PySem.W.Frag) : V → Option Int → Option Int → Hp → VK → Prop := fun x lo hi H Q => ∃ a xs, x = .ref a ∧ SqT K H a xs ∧
  ¬ (HT.sIx xs.length 0 lo = 0 ∧ HT.sIx xs.length xs.length hi = xs.length) ∧ ∀ p, H p = none → Q (.ref p) (upd H p (.tup (cutV xs lo hi)))
theorem sl_tup : SlR X (rSlT X.K) := by
  intro pins s σ H x v vl vu lo hi sl Q I rx hs pl pu h
  obtain ⟨a, xs, rfl, hx, hw, q⟩ := h
  cases rx
  obtain ⟨its, r, ht, hz⟩ := I.tuple hx
  have hlen : its.toArray.size = xs.length := by rw [List.size_toArray]; exact r.length.symm
  refine ⟨"tuple", _, PyProof.Rows.slot_tuple_getitem.lookup, ht.typeIs, ?_⟩
  refine HT.getItem_tuple_cut ht hs pl pu (by rw [hlen]; exact hw) ?_ (by rw [hlen]; exact hz)
  rw [hlen]
  refine ⟨.ref s.heap.objs.size, _, I.laid (t' := s.toks) (o := .tup (cutV xs lo hi)) (fun b ob q => Heap.get?_push_of_some _ q) (Nat.le_refl _) ?_, rfl, q _ (I.hok.fresh (Nat.le_refl _))⟩
  exact ⟨Nat.le_trans (cutV_length xs lo hi) hz, _, (r.drop (HT.sIx xs.length 0 lo)).take (HT.sIx xs.length xs.length hi - HT.sIx xs.length 0 lo), IsTup.new _ _⟩
noncomputable def rLtT (K : PySem.W.Frag) : R2 := fun x y H Q => ∃ a b ns ms, x = .ref a ∧ y = .ref b ∧ SqT K H a (ns.map V.int) ∧ SqT K H b (ms.map V.int) ∧ Q (.bl (HT.lexLt ns ms)) H
noncomputable def rCatT (K : PySem.W.Frag) : R2 := fun x y H Q => ∃ a b xs ys, x = .ref a ∧ y = .ref b ∧ SqT K H a xs ∧ SqT K H b ys ∧ xs ≠ [] ∧ xs.length + ys.length ≤ sizeLine ∧
  (ys = [] → Q (.ref a) H) ∧ (ys ≠ [] → ∀ p, H p = none → Q (.ref p) (upd H p (.tup (xs ++ ys))))
theorem Vals.nil_iff {xs : List V} {us : List Value} (r : Vals xs us) : us = [] ↔ xs = [] := by
  cases r with
  | nil => simp
  | cons _ _ => simp
end
end L2
namespace L2
open PySem PySem.Spec PyProof.Rows
noncomputable def ixN (n : Nat) (i : Int) : Option Nat := if 0 ≤ i then (if i < n then some i.toNat else none) else if -(n : Int) ≤ i then some (i + n).toNat else none
noncomputable def atI {α : Type} (xs : List α) (i : Int) : Option α := (ixN xs.length i).bind fun j => xs[j]?
theorem ixN_seq {n : Nat} {i : Int} {j : Nat} (h : ixN n i = some j) : seqIndex? i n = some j ∧ j < n ∧ -(n : Int) ≤ i ∧ i < n := by
  unfold ixN at h
  by_cases h0 : 0 ≤ i
  · rw [if_pos h0] at h
    by_cases h1 : i < n
    · rw [if_pos h1] at h
      have e : i.toNat = j := Option.some.inj h
      exact ⟨by rw [seqIndex_of h0 h1, e], by omega, by omega, h1⟩
    · rw [if_neg h1] at h; cases h
  · rw [if_neg h0] at h
    by_cases h1 : -(n : Int) ≤ i
    · rw [if_pos h1] at h
      have e : (i + n).toNat = j := Option.some.inj h
      exact ⟨by rw [seqIndex_neg (by omega) h1, e], by omega, h1, by omega⟩
    · rw [if_neg h1] at h; cases h
theorem atI_get {α : Type} {xs : List α} {i : Int} {v : α} (h : atI xs i = some v) : ∃ j, seqIndex? i xs.length = some j ∧ xs[j]? = some v ∧ j < xs.length ∧ -(xs.length : Int) ≤ i ∧ i < xs.length := by
  unfold atI at h
  cases e : ixN xs.length i with
  | none => rw [e] at h; cases h
  | some j =>
    rw [e] at h
    obtain ⟨h1, h2, h3, h4⟩ := ixN_seq e
    exact ⟨j, h1, h, h2, h3, h4⟩
theorem atI_nat {α : Type} {xs : List α} {j : Nat} {v : α} (h : xs[j]? = some v) : atI xs (j : Int) = some v := by
  have hj : j < xs.length := (List.getElem?_eq_some_iff.mp h).1
  have e : ixN xs.length (j : Int) = some j := by
    unfold ixN
    rw [if_pos (by omega), if_pos (by omega)]; simp
  unfold atI; rw [e]; exact h
noncomputable def PlainIx (b : Expr) : Prop := ∀ o i, subscripted b false o i = operate [o, i] (getItem o i)
noncomputable def IxR (X : Cx) (r : R2) : Prop :=
  ∀ (value slice : Expr) (pins : List (Addr × Obj)) (s : Shared) (σ : St) (H : Hp) (x y : V) (v u : Value) (Q : VK), Inv X pins σ H s → RelV x v → RelV y u → r x y H Q →
    subscripted slice false v u = operate [v, u] (getItem v u) → wpAny (model X.prog X.w) X.A (subscriptTail value slice v u) (EP X pins σ Q) X.xe s
noncomputable def MtR (X : Cx) (id : String) (r : V → List V → Hp → VK → Prop) : Prop :=
  ∀ (pins : List (Addr × Obj)) (s : Shared) (σ : St) (H : Hp) (x : V) (xs : List V) (v : Value) (us : List Value) (Q : VK), Inv X pins σ H s → RelV x v → Vals xs us → r x xs H Q →
    wpAny (model X.prog X.w) X.A (call (.builtin id) (v :: us)) (EP X pins σ Q) X.xe s
section
variable {X : Cx} {a b : Expr} {ta tb : TE} {pos : Pos}
theorem IxR.or {r r' : R2} (h : IxR X r) (h' : IxR X r') : IxR X (fun x y H Q => r x y H Q ∨ r' x y H Q) := by
  intro value slice pins s σ H x y v u Q I rx ry q hs
  rcases q with q | q
  · exact h value slice pins s σ H x y v u Q I rx ry q hs
  · exact h' value slice pins s σ H x y v u Q I rx ry q hs
theorem pe_ix {r : R2} (hr : IxR X r) (ha : PE X a ta) (hb : PE X b tb) (hs : PlainIx b) : PE X (.Subscript a b pos) (tOp r ta tb) := by
  intro pins s σ H Q I h
  exact Subscript_ (binT ha hb I h fun v u s2 x y H2 I2 rx ry q => hr a b pins s2 σ H2 x y v u Q I2 rx ry q (hs _ _))
noncomputable def rIxL (K : PySem.W.Frag) : R2 := fun x y H Q => ∃ p xs i v, x = .ref p ∧ y = .int i ∧ SqL K H p xs ∧ atI xs i = some v ∧ Q v H
noncomputable def rIxT (K : PySem.W.Frag) : R2 := fun x y H Q => ∃ p xs i v, x = .ref p ∧ y = .int i ∧ SqT K H p xs ∧ atI xs i = some v ∧ Q v H
noncomputable def rIxS : R2 := fun x y H Q => ∃ z i c, x = .str z ∧ y = .int i ∧ z.length ≤ sizeLine ∧ atI z.cps.toList i = some c ∧ Q (.str ⟨#[c]⟩) H
theorem ix_list : IxR X (rIxL X.K) := by
  intro value slice pins s σ H x y v u Q I rx ry h hs
  obtain ⟨p, xs, i, z, rfl, rfl, hq, he, q⟩ := h
  cases rx
  obtain ⟨t, rfl⟩ := ry
  obtain ⟨its, r, pl, hz⟩ := I.list hq
  obtain ⟨j, h1, h2, h3, h4, h5⟩ := atI_get he
  obtain ⟨w, ew, rw'⟩ := r.get h2
  have hl := r.length
  have hn := line63
  have fin : EP X pins σ Q w s := ⟨z, H, I, rw', q⟩
  by_cases h0 : 0 ≤ i
  · have hj : i.toNat = j := by
      rw [seqIndex_of h0 h5] at h1
      exact Option.some.inj h1
    exact item_listR pl.isList h0 (by omega) (by rw [hj]; simpa using ew) fin hs
  · have hj : (i + (its.toArray.size : Int)).toNat = j := by
      rw [seqIndex_neg (by omega) h4] at h1
      rw [List.size_toArray, ← hl]
      exact Option.some.inj h1
    exact subscriptTail_builtinR (x := w) pl.isList.typeIs slot_list_getitem.lookup
      (wpAny_getItem_list_neg (Q := fun r s' => r = w ∧ EP X pins σ Q r s') pl.isList (by omega) (by rw [List.size_toArray] <;> omega) (by omega) (by rw [hj]; simpa using ew) ⟨rfl, fin⟩) hs
theorem ix_tup : IxR X (rIxT X.K) := by
  intro value slice pins s σ H x y v u Q I rx ry h hs
  obtain ⟨p, xs, i, z, rfl, rfl, hq, he, q⟩ := h
  cases rx
  obtain ⟨t, rfl⟩ := ry
  obtain ⟨its, r, pl, hz⟩ := I.tuple hq
  obtain ⟨j, h1, h2, h3, h4, h5⟩ := atI_get he
  obtain ⟨w, ew, rw'⟩ := r.get h2
  have hl := r.length
  have hn := line63
  have fin : EP X pins σ Q w s := ⟨z, H, I, rw', q⟩
  exact subscriptTail_builtinR (x := w) pl.typeIs slot_tuple_getitem.lookup
    (getItem_tuple (j := j) (Q := fun r s' => r = w ∧ EP X pins σ Q r s') pl (by omega) (by omega) (by rw [List.size_toArray, ← hl]; exact h1) (by simpa using ew) ⟨rfl, fin⟩) hs
theorem ix_str : IxR X rIxS := by
  intro value slice pins s σ H x y v u Q I rx ry h hs
  obtain ⟨z, i, c, rfl, rfl, hz, he, q⟩ := h
  obtain ⟨t, rfl⟩ := rx
  obtain ⟨t', rfl⟩ := ry
  obtain ⟨j, h1, h2, h3, h4, h5⟩ := atI_get he
  have hl : z.cps.toList.length = z.length := by simp [Str.length]
  rw [hl] at h1 h4 h5
  have hn := line63
  exact tail_any (typeIs_str s z t) slot_str_getitem.lookup (getItem_str (c := c) (by
    have e1 : decide (i < -(2 ^ 63 : Int)) = false := decide_eq_false (by omega)
    have e2 : decide (i ≥ 2 ^ 63) = false := decide_eq_false (by omega)
    rw [e1, e2, Bool.or_false]) (by rw [h1]; simpa using h2) ⟨.str ⟨#[c]⟩, H, I.tok _, ⟨_, rfl⟩, q⟩) hs
noncomputable def rIx (K : PySem.W.Frag) : R2 := fun x y H Q => rIxL K x y H Q ∨ rIxT K x y H Q ∨ rIxS x y H Q
theorem ix_seq : IxR X (rIx X.K) := ix_list.or (ix_tup.or ix_str)
noncomputable def rSetL : V → V → V → Hp → (Hp → Prop) → Prop := fun o i v H Q => ∃ p xs k j, o = .ref p ∧ i = .int k ∧ H p = some (.lst xs) ∧ ixN xs.length k = some j ∧ Q (upd H p (.lst (xs.set j v)))
theorem slice_bounds (lo hi : Option Int) (n : Nat) : (sliceBounds lo hi none n).1 = ((HT.sIx n 0 lo : Nat) : Int) ∧ (sliceBounds lo hi none n).2.1 = ((HT.sIx n n hi : Nat) : Int) ∧ (sliceBounds lo hi none n).2.2 = 1 := by
  refine ⟨?_, ?_, rfl⟩
  · cases lo with
    | none => simp [sliceBounds, HT.sIx]
    | some i =>
      simp only [sliceBounds, HT.sIx, Option.getD_none, show (1 : Int) > 0 by decide, if_true]
      by_cases h : i < 0
      · simp only [h, if_true] <;> omega
      · simp only [h, if_false] <;> omega
  · cases hi with
    | none => simp [sliceBounds, HT.sIx]
    | some i =>
      simp only [sliceBounds, HT.sIx, Option.getD_none, show (1 : Int) > 0 by decide, if_true]
      by_cases h : i < 0
      · simp only [h, if_true] <;> omega
      · simp only [h, if_false] <;> omega
theorem slicePick_cut (its : List Value) (lo hi : Option Int) : slicePick its.toArray lo hi none = ((its.drop (HT.sIx its.length 0 lo)).take (HT.sIx its.length its.length hi - HT.sIx its.length 0 lo)).toArray := by
  obtain ⟨h1, h2, h3⟩ := slice_bounds lo hi its.toArray.size
  unfold slicePick
  rw [h1, h2, h3]
  simp only [sliceRange_one, pick_run, List.size_toArray] <;> rfl
noncomputable def rSlL (K : PySem.W.Frag) : V → Option Int → Option Int → Hp → VK → Prop := fun x lo hi H Q => ∃ a xs, x = .ref a ∧ SqL K H a xs ∧ ∀ p, H p = none → Q (.ref p) (upd H p (.lst (cutV xs lo hi)))
theorem sl_list : SlR X (rSlL X.K) := by
  intro pins s σ H x v vl vu lo hi sl Q I rx hs pl pu h
  obtain ⟨a, xs, rfl, hx, q⟩ := h
  cases rx
  obtain ⟨its, r, ht, hz⟩ := I.list hx
  have hlen := r.length
  refine ⟨"list", _, slot_list_getitem.lookup, ht.isList.typeIs, ?_⟩
  refine wpAny_getItem_list_slice ht.isList hs pl pu .none (by simp) ?_ (by rw [List.size_toArray] <;> omega)
  rw [slicePick_cut, ← hlen]
  refine ⟨.ref s.heap.objs.size, _, I.laid (t' := s.toks) (o := .lst (cutV xs lo hi)) (fun b ob q => Heap.get?_push_of_some _ q) (Nat.le_refl _) ?_, rfl, q _ (I.hok.fresh (Nat.le_refl _))⟩
  exact ⟨Nat.le_trans (cutV_length xs lo hi) hz, _, 0, (r.drop (HT.sIx xs.length 0 lo)).take (HT.sIx xs.length xs.length hi - HT.sIx xs.length 0 lo), Heap.get?_push_size _ rfl⟩
noncomputable def flatV : V → Bool
  | .non => true
  | .bl _ => true
  | .int _ => true
  | .str _ => true
  | _ => false
noncomputable def eqV : V → V → Bool
  | .non, .non => true
  | .bl a, .bl b => a == b
  | .bl a, .int b => (if a then 1 else 0) == b
  | .int a, .bl b => a == (if b then 1 else 0)
  | .int a, .int b => a == b
  | .str a, .str b => a == b
  | _, _ => false
theorem eqAt_V {A : Around} {s : Shared} {y x : V} {u v : Value} (ry : RelV y u) (rx : RelV x v) (fy : flatV y = true) (fx : flatV x = true) : SeqAt.EqAt A s u v (eqV y x) := by
  cases y with
  | non =>
    cases ry
    cases x with
    | non => cases rx; exact SeqAt.EqAt.same _
    | bl b => cases rx; exact SeqAt.EqAt.none_bool b
    | int b => obtain ⟨t, rfl⟩ := rx; exact SeqAt.EqAt.none_int b t
    | str b => obtain ⟨t, rfl⟩ := rx; exact SeqAt.EqAt.none_str b t
    | _ => exact absurd (show false = true from fx) Bool.false_ne_true
  | bl a =>
    cases ry
    cases x with
    | non => cases rx; exact SeqAt.EqAt.bool_none a
    | bl b => cases rx; exact SeqAt.EqAt.bool_bool a b
    | int b => obtain ⟨t, rfl⟩ := rx; exact SeqAt.EqAt.bool_int a b t
    | str b => obtain ⟨t, rfl⟩ := rx; exact SeqAt.EqAt.bool_str a b t
    | _ => exact absurd (show false = true from fx) Bool.false_ne_true
  | int a =>
    obtain ⟨t', rfl⟩ := ry
    cases x with
    | non => cases rx; exact SeqAt.EqAt.int_none a t'
    | bl b => cases rx; exact SeqAt.EqAt.int_bool a t' b
    | int b => obtain ⟨t, rfl⟩ := rx; exact SeqAt.EqAt.int_int a t' b t
    | str b => obtain ⟨t, rfl⟩ := rx; exact SeqAt.EqAt.int_str a t' b t
    | _ => exact absurd (show false = true from fx) Bool.false_ne_true
  | str a =>
    obtain ⟨t', rfl⟩ := ry
    cases x with
    | non => cases rx; exact SeqAt.EqAt.str_none a t'
    | bl b => cases rx; exact SeqAt.EqAt.str_bool a t' b
    | int b => obtain ⟨t, rfl⟩ := rx; exact SeqAt.EqAt.str_int a t' b t
    | str b => obtain ⟨t, rfl⟩ := rx; exact SeqAt.EqAt.str_str a t' b t
    | _ => exact absurd (show false = true from fx) Bool.false_ne_true
  | _ => exact absurd (show false = true from fy) Bool.false_ne_true
noncomputable def eqU (x : V) (u : Value) : Bool := match u with
  | .none => eqV .non x
  | .bool b => eqV (.bl b) x
  | .int i _ => eqV (.int i) x
  | .str z _ => eqV (.str z) x
  | _ => false
theorem eqU_of {x y : V} {u : Value} (r : RelV y u) (f : flatV y = true) : eqU x u = eqV y x := by
  cases y with
  | non => cases r; rfl
  | bl b => cases r; rfl
  | int i => obtain ⟨t, rfl⟩ := r; rfl
  | str z => obtain ⟨t, rfl⟩ := r; rfl
  | _ => exact absurd (show false = true from f) Bool.false_ne_true
theorem any_eqU {x : V} : ∀ {xs : List V} {us : List Value}, Vals xs us → xs.all flatV = true → us.any (eqU x) = xs.any fun y => eqV y x
  | _, _, .nil, _ => rfl
  | y :: xs, u :: us, .cons r t, f => by
    rw [List.all_cons, Bool.and_eq_true] at f
    rw [List.any_cons, List.any_cons, eqU_of r f.1, any_eqU t f.2]
theorem mem_eqAt {A : Around} {s : Shared} {x : V} {v : Value} (rx : RelV x v) (fx : flatV x = true) : ∀ {xs : List V} {us : List Value}, Vals xs us → xs.all flatV = true → ∀ u ∈ us, SeqAt.EqAt A s u v (eqU x u)
  | _, _, .nil, _ => fun u hu => by cases hu
  | y :: xs, u :: us, .cons r t, f => fun u' hu => by
    rw [List.all_cons, Bool.and_eq_true] at f
    rcases List.mem_cons.mp hu with rfl | hu
    · rw [eqU_of r f.1]; exact eqAt_V r rx f.1 fx
    · exact mem_eqAt rx fx t f.2 u' hu
noncomputable def inV (x : V) (xs : List V) : Bool := xs.any fun y => eqV y x
noncomputable def rIn (K : PySem.W.Frag) (neg : Bool) : R2 := fun x y H Q => ∃ p xs, y = .ref p ∧ (SqL K H p xs ∨ SqT K H p xs) ∧ flatV x = true ∧ xs.all flatV = true ∧ Q (.bl (if neg then !inV x xs else inV x xs)) H
theorem op_in_seq : OpR X (compareOp .In) (rIn X.K false) := by
  intro pins s σ H x y v u Q I rx ry h
  obtain ⟨p, xs, rfl, hq, fx, fs, q⟩ := h
  cases ry
  rcases hq with hq | hq
  · obtain ⟨its, r, pl, hz⟩ := I.list hq
    refine SeqAt.in_listAt (eqU x) pl.isList (fun w hw => mem_eqAt rx fx r fs w (by simpa using hw)) ⟨.bl _, H, I, rfl, ?_⟩
    rw [show its.toArray.any (eqU x) = its.any (eqU x) by simp, any_eqU r fs]
    exact q
  · obtain ⟨its, r, pl, hz⟩ := I.tuple hq
    refine SeqAt.in_tupleAt (eqU x) pl (fun w hw => mem_eqAt rx fx r fs w (by simpa using hw)) ⟨.bl _, H, I, rfl, ?_⟩
    rw [show its.toArray.any (eqU x) = its.any (eqU x) by simp, any_eqU r fs]
    exact q
theorem op_notIn_seq : OpR X (compareOp .NotIn) (rIn X.K true) := by
  intro pins s σ H x y v u Q I rx ry h
  obtain ⟨p, xs, rfl, hq, fx, fs, q⟩ := h
  cases ry
  rcases hq with hq | hq
  · obtain ⟨its, r, pl, hz⟩ := I.list hq
    refine SeqAt.notIn_listAt (eqU x) pl.isList (fun w hw => mem_eqAt rx fx r fs w (by simpa using hw)) ⟨.bl _, H, I, rfl, ?_⟩
    rw [show its.toArray.any (eqU x) = its.any (eqU x) by simp, any_eqU r fs]
    exact q
  · obtain ⟨its, r, pl, hz⟩ := I.tuple hq
    refine SeqAt.notIn_tupleAt (eqU x) pl (fun w hw => mem_eqAt rx fx r fs w (by simpa using hw)) ⟨.bl _, H, I, rfl, ?_⟩
    rw [show its.toArray.any (eqU x) = its.any (eqU x) by simp, any_eqU r fs]
    exact q
theorem op_notIn_str : OpR X (compareOp .NotIn) (fun x y H Q => ∃ i j, x = .str i ∧ y = .str j ∧ Q (.bl (!(!(Builtin.Str.occurrences j i 0 j.length 1).isEmpty))) H) := by
  intro pins s σ H x y v u Q I rx ry h
  obtain ⟨i, j, rfl, rfl, q⟩ := h
  obtain ⟨t, rfl⟩ := rx
  obtain ⟨t', rfl⟩ := ry
  exact notIn_str ⟨.bl _, H, I, rfl, q⟩
theorem call_len_seq : CallR X (.builtin "len") (fun xs H Q => ∃ p ys, xs = [.ref p] ∧ (SqL X.K H p ys ∨ SqT X.K H p ys) ∧ Q (.int ys.length) H) := by
  intro pins s σ H xs us Q I r h
  obtain ⟨p, ys, rfl, hq, q⟩ := h
  obtain ⟨u, rfl, rx⟩ := vals1 r
  cases rx
  have hn := line63
  rcases hq with hq | hq
  · obtain ⟨its, r', pl, hz⟩ := I.list hq
    have hlen := r'.length
    exact Calls.call_len_list pl.isList (by simp only [List.size_toArray] <;> omega) ⟨.int ys.length, H, I.tok _, ⟨s.toks + 1, by rw [List.size_toArray, hlen]⟩, q⟩
  · obtain ⟨its, r', pl, hz⟩ := I.tuple hq
    have hlen := r'.length
    exact len_tuple pl (by simp only [List.size_toArray] <;> omega) ⟨.int ys.length, H, I.tok _, ⟨s.toks + 1, by rw [List.size_toArray, hlen]⟩, q⟩
theorem call_len_str : CallR X (.builtin "len") (fun xs H Q => ∃ z, xs = [.str z] ∧ z.length ≤ sizeLine ∧ Q (.int z.length) H) := by
  intro pins s σ H xs us Q I r h
  obtain ⟨z, rfl, hz, q⟩ := h
  obtain ⟨u, rfl, t, rfl⟩ := vals1 r
  have hn := line63
  exact len_str (by omega) ⟨.int z.length, H, I.tok _, ⟨_, rfl⟩, q⟩
theorem CallR.or {f : Value} {r r' : List V → Hp → VK → Prop} (h : CallR X f r) (h' : CallR X f r') : CallR X f (fun xs H Q => r xs H Q ∨ r' xs H Q) := by
  intro pins s σ H xs us Q I rs q
  rcases q with q | q
  · exact h pins s σ H xs us Q I rs q
  · exact h' pins s σ H xs us Q I rs q
theorem call_tuple_of : CallR X (.type "tuple") (fun xs H Q => ∃ p ys, xs = [.ref p] ∧ ((SqL X.K H p ys ∧ ∀ l, H l = none → Q (.ref l) (upd H l (.tup ys))) ∨ (SqT X.K H p ys ∧ Q (.ref p) H))) := by
  intro pins s σ H xs us Q I r h
  obtain ⟨p, ys, rfl, h⟩ := h
  obtain ⟨u, rfl, rx⟩ := vals1 r
  cases rx
  rcases h with ⟨hq, q⟩ | ⟨hq, q⟩
  · obtain ⟨its, r', pl, hz⟩ := I.list hq
    have hlen := r'.length
    refine call_tuple_list pl.isList (fun h' kp => ?_) (by simp only [List.size_toArray] <;> omega)
    have I1 : Inv X pins σ H { s with heap := h' } := I.kept (t' := s.toks) kp
    have I2 : Inv X pins σ (upd H h'.objs.size (.tup ys)) { s with heap := h'.push { cls := .type "tuple", data := .seq its.toArray } } :=
      I1.laid (t' := s.toks) (fun b o e => Heap.get?_push_of_some _ e) (Nat.le_refl _) (show ObjOk X.prog X.w _ _ _ (.tup ys) from ⟨hz, its, r', IsTup.new _ _⟩)
    exact ⟨.ref h'.objs.size, _, I2, rfl, q _ (I1.hok.fresh (Nat.le_refl _))⟩
  · obtain ⟨its, r', pl, hz⟩ := I.tuple hq
    exact call_tuple_same pl ⟨.ref p, H, I, rfl, q⟩
noncomputable def tyV (K : PySem.W.Frag) (T : String) (x : V) (H : Hp) : Prop := match x with
  | .str _ => T = "str"
  | .int _ => T = "int"
  | .ref p => (T = "list" ∧ ∃ xs, SqL K H p xs) ∨ (T = "tuple" ∧ ∃ o, K.lookup p = some o ∧ o.cls = .type "tuple" ∧ o.dict = none) ∨
      (T = "dict" ∧ ((∃ kvs, H p = some (.dK kvs)) ∨ ∃ kvs, H p = some (.dT kvs))) ∨ (T = "set" ∧ ∃ S n, H p = some (.set S n))
  | _ => False
theorem tyV_is {pins : List (Addr × Obj)} {σ : St} {H : Hp} {s : Shared} {T : String} {x : V} {v : Value} (I : Inv X pins σ H s) (r : RelV x v) (ty : tyV X.K T x H) :
    s.TypeIs v T ∧ ∀ a, v = .ref a → ∃ ob, s.heap.get? a = some ob ∧ ob.dict = none := by
  cases x with
  | str z =>
    obtain ⟨t, rfl⟩ := r
    cases (show T = "str" from ty)
    exact ⟨typeIs_str s z t, fun _ e => nomatch e⟩
  | int i =>
    obtain ⟨t, rfl⟩ := r
    cases (show T = "int" from ty)
    exact ⟨typeIs_int s i t, fun _ e => nomatch e⟩
  | ref p =>
    cases r
    rcases ty with ⟨rfl, xs, hq⟩ | ⟨rfl, o, hk, hc, hd⟩ | ⟨rfl, hk⟩ | ⟨rfl, S, n, hk⟩
    · obtain ⟨its, _, pl, _⟩ := I.list hq
      refine ⟨pl.isList.typeIs, fun a e => ?_⟩
      cases e
      obtain ⟨o, n, e, c, hd, _⟩ := pl
      exact ⟨o, e, hd⟩
    · refine ⟨⟨o, I.kIn p o hk, hc⟩, fun a e => ?_⟩
      cases e
      exact ⟨o, I.kIn _ o hk, hd⟩
    · have z : ∃ o, s.heap.get? p = some o ∧ o.ExactDict := by
        rcases hk with ⟨kvs, hk⟩ | ⟨kvs, hk⟩
        · obtain ⟨_, _, _, _, o, _, _, e, ex, _⟩ := I.hok p _ hk
          exact ⟨o, e, ex⟩
        · obtain ⟨_, _, _, _, o, _, _, e, ex, _⟩ := I.hok p _ hk
          exact ⟨o, e, ex⟩
      obtain ⟨o, e, ex⟩ := z
      refine ⟨⟨o, e, ex.1⟩, fun a e2 => ?_⟩
      cases e2
      exact ⟨o, e, ex.2.1⟩
    · obtain ⟨o, _, _, _, e, ex, _⟩ := I.hok p _ hk
      refine ⟨⟨o, e, ex.1⟩, fun a e2 => ?_⟩
      cases e2
      exact ⟨o, e, ex.2.1⟩
  | _ => exact False.elim ty
noncomputable def tBM0 (K : PySem.W.Frag) (T : String) (r : V → List V → Hp → VK → Prop) (to : TE) : TE := fun σ H Q => to σ H fun x H1 => tyV K T x H1 ∧ r x [] H1 Q
noncomputable def tBM (K : PySem.W.Frag) (T : String) (r : V → List V → Hp → VK → Prop) (to : TE) (t : TA) : TE := fun σ H Q => to σ H fun x H1 => tyV K T x H1 ∧ t σ H1 fun xs H2 => r x xs H2 Q
variable {o e : Expr} {es : List Expr} {to : TE} {t : TA} {name : Str} {apos cpos : Pos} {T id : String} {r : V → List V → Hp → VK → Prop}
theorem pe_bm (pa : PlainAttrs T) (slot : Slot T name id) (hty : typeOf (.builtin id) = pure (.type "method_descriptor")) (hm : MtR X id r) (ho : PE X o to) (ha : PA X (e :: es) t)
    (hbase : attributeBase o name X.env (eval o X.env) = eval o X.env := by rfl)
    (hfew : ((backTo cpos (starEach (e :: es) X.env)).all (fun x => !x.1) && (backToKw cpos (keywordEach [] X.env)).all (fun x => x.1.isSome)
      && decide ((e :: es).length + ([] : List Keyword).length + (if ([] : List Keyword).isEmpty then 0 else 1) < 30)) = true := by rfl)
    (hline : (apos.endLine == cpos.line) = true := by rfl) (hs : starEach (e :: es) X.env = (false, eval e X.env) :: starEach es X.env := by rfl) (hplain : (backTo cpos (starEach es X.env)).any (·.1) = false := by rfl) :
    PE X (.Call (.Attribute o name apos) (e :: es) [] cpos) (tBM X.K T r to t) := by
  intro pins s σ H Q I h
  refine wpAny_Call_method_late hbase hfew hline rfl (thn (ho pins s σ H _ I h) fun v s1 ⟨x, H1, I1, r1, ty, q1⟩ => ?_)
  obtain ⟨h1, h2⟩ := tyV_is I1 r1 ty
  refine ⟨T, id, pa, slot, hty, h1, h2, ?_⟩
  have hA := ha cpos pins s1 σ H1 _ I1 q1
  rw [hs] at hA ⊢
  refine Calls.callWith_builtin (by show (false || (backTo cpos (starEach es X.env)).any (·.1)) = false; rw [hplain] <;> rfl) (Calls.evalArgs_plain ?_)
  exact thn hA fun us s2 ⟨vs, H2, I2, r2, q2⟩ => hm pins s2 σ H2 x vs v us Q I2 r1 r2 q2
/- xs.append(e), list.index on a module's tuple .. are MtR facts of 06m -/
end
end L2
namespace L2
open PySem PySem.Spec PyProof.Rows
noncomputable def MtM (X : Cx) (id : String) (r : V → List V → Hp → VK → Prop) : Prop :=
  ∀ (pins : List (Addr × Obj)) (s : Shared) (σ : St) (H : Hp) (x : V) (xs : List V) (v : Value) (us : List Value) (Q : VK), Inv X pins σ H s → RelV x v → Vals xs us → r x xs H Q →
    wpAny (model X.prog X.w) X.A (call (.builtin id) (v :: us)) (EP X pins σ Q) X.xe s
theorem Vals.one : ∀ {x : V} {us : List Value}, Vals [x] us → ∃ u, us = [u] ∧ RelV x u
  | _, _, .cons r .nil => ⟨_, rfl, r⟩
theorem Vals.reverse {xs : List V} {us : List Value} (h : Vals xs us) : Vals xs.reverse us.reverse := by
  induction h with
  | nil => exact .nil
  | cons r t ih => rw [List.reverse_cons, List.reverse_cons]; exact Vals.append ih (.cons r .nil)
section
variable {X : Cx} {pins : List (Addr × Obj)} {σ : St} {H : Hp} {s : Shared} {l b : Addr} {xs ys zs : List V}
theorem Inv.lset {its its' : List Value} {n : Nat} {f : Array Value → Array Value} {t' : Nat} (I : Inv X pins σ H s) (hH : H l = some (.lst xs))
    (e : s.heap.get? l = some { cls := .type "list", data := .seq its.toArray n }) (hf : f its.toArray = its'.toArray) (hv : Vals ys its') (hz : ys.length ≤ sizeLine) :
    Inv X pins σ (upd H l (.lst ys)) { s with heap := s.heap.update l (Obj.mapSeq f), toks := t' } := by
  have q := PySem.IsL.update e f
  rw [hf] at q
  refine I.write (x := l) (e := l) (by rw [hH]; exact trivial) (.inl rfl) (fun b' u hb hu => (Heap.get?_update_other s.heap (Obj.mapSeq f) (Ne.symm hb)).trans hu) ⟨_, q⟩ ?_
  exact ⟨hz, its', _, hv, q⟩
theorem Inv.lnew {its : List Value} {t' : Nat} (I : Inv X pins σ H s) (hv : Vals ys its) (hz : ys.length ≤ sizeLine) :
    Inv X pins σ (upd H s.heap.objs.size (.lst ys)) { s with heap := s.heap.push { cls := .type "list", data := .seq its.toArray }, toks := t' } :=
  I.laid (fun _ _ q => Heap.get?_push_of_some _ q) (Nat.le_refl _) ⟨hz, its, 0, hv, Heap.get?_push_size _ rfl⟩
theorem Inv.fresh (I : Inv X pins σ H s) : H s.heap.objs.size = none := I.hok.fresh (Nat.le_refl _)
theorem Inv.lstM (I : Inv X pins σ H s) (hH : H l = some (.lst xs)) : xs.length ≤ sizeLine ∧ ∃ (its : List Value) (n : Nat), Vals xs its ∧ xs.length = its.length ∧ s.heap.get? l = some { cls := .type "list", data := .seq its.toArray n } := by
  obtain ⟨z, its, n, r, e⟩ := I.hok l _ hH
  exact ⟨z, its, n, r, r.length, e⟩
end
section
variable {X : Cx}
noncomputable def rAppend : V → List V → Hp → VK → Prop := fun x vs H Q => ∃ l xs y, x = .ref l ∧ vs = [y] ∧ H l = some (.lst xs) ∧ xs.length < sizeLine ∧ Q .non (upd H l (.lst (xs ++ [y])))
theorem mt_append : MtM X "list.append" rAppend := by
  intro pins s σ H x vs v us Q I rx rv h
  obtain ⟨l, xs, y, rfl, rfl, hH, hz, q⟩ := h
  cases rx
  obtain ⟨u, rfl, ru⟩ := rv.one
  obtain ⟨z, its, n, r, hl, e⟩ := I.lstM hH
  refine call_meets F.slot_list_append ⟨_, e, rfl⟩ F.entry_list_append (F.args_list_append_2 _ _) (PySem.list_append l its.toArray n u (by rw [List.size_toArray]; omega)) ⟨e, ?_⟩
  refine ⟨.non, _, I.lset (its' := its ++ [u]) hH e (by simp) (r.append (.cons ru .nil)) ?_, rfl, q⟩
  rw [List.length_append, List.length_singleton]
  omega
noncomputable def rExtend : V → List V → Hp → VK → Prop := fun x vs H Q => ∃ l b xs zs, x = .ref l ∧ vs = [.ref b] ∧ H l = some (.lst xs) ∧ H b = some (.lst zs) ∧ xs.length + zs.length ≤ sizeLine ∧ Q .non (upd H l (.lst (xs ++ zs)))
noncomputable def rPop : V → List V → Hp → VK → Prop := fun x vs H Q => ∃ l xs y, x = .ref l ∧ vs = [] ∧ H l = some (.lst xs) ∧ xs[xs.length - 1]? = some y ∧ Q y (upd H l (.lst xs.dropLast))
noncomputable def rPopAt : V → List V → Hp → VK → Prop := fun x vs H Q => ∃ l xs i k y, x = .ref l ∧ vs = [.int i] ∧ H l = some (.lst xs) ∧ -(2 ^ 63) ≤ i ∧ i < 2 ^ 63 ∧ seqIndex? i xs.length = some k ∧ xs[k]? = some y ∧ Q y (upd H l (.lst (xs.eraseIdx k)))
noncomputable def rReverse : V → List V → Hp → VK → Prop := fun x vs H Q => ∃ l xs, x = .ref l ∧ vs = [] ∧ H l = some (.lst xs) ∧ Q .non (upd H l (.lst xs.reverse))
noncomputable def rClear : V → List V → Hp → VK → Prop := fun x vs H Q => ∃ l xs, x = .ref l ∧ vs = [] ∧ H l = some (.lst xs) ∧ Q .non (upd H l (.lst []))
noncomputable def rCat : R2 := fun x y H Q => ∃ l b xs zs, x = .ref l ∧ y = .ref b ∧ H l = some (.lst xs) ∧ H b = some (.lst zs) ∧ xs.length + zs.length ≤ sizeLine ∧ ∀ p, H p = none → Q (.ref p) (upd H p (.lst (xs ++ zs)))
noncomputable def rRep : R2 := fun x y H Q => ∃ l k xs, x = .ref l ∧ y = .int k ∧ H l = some (.lst xs) ∧ -(2 ^ 63) ≤ k ∧ k < 2 ^ 63 ∧ xs.length * k.toNat ≤ sizeLine ∧
  ∀ p, H p = none → Q (.ref p) (upd H p (.lst (List.replicate k.toNat xs).flatten))
end
end L2
namespace Att
open PySem PySem.W PySem.Calls PyProof.Rows
theorem ints_of_wellAll {P : Params} {h : Heap} : ∀ (ns : List Int) (vs : List Value), WellAll P h vs (ns.map WData.int) → IntsAre vs ns := by
  intro ns
  induction ns with
  | nil =>
    intro vs w
    rw [List.map_nil] at w
    cases w
    exact .nil
  | cons n ns ih =>
    intro vs w
    rw [List.map_cons] at w
    cases w with
    | cons a b =>
      cases a
      exact .cons _ _ (ih _ b)
theorem script_of {l : OpenLaw} {n : Nat} (hn : l.most = some n) {P : Params} {h : Heap} {args : List WData} {vals : List Value}
    (hpre : l.row.toRowW.claim.pre args = true) (hwl : WellAll P h vals args) :
    ∃ a vs ns, vals = [Value.ref a] ∧ args = [WData.list (ns.map WData.int)] ∧ h.get? a = some { cls := .type "list", data := .seq vs.toArray } ∧ IntsAre vs ns ∧ ns.length ≤ n := by
  have hsh : WShape.hasAll [] args [.list .int] = true := (pre_splitW hpre).1
  have hc : l.pre.holds [] { args := args } = true := (pre_splitW hpre).2
  obtain ⟨d, r, rfl, h1, h2⟩ := hasAllW_cons hsh
  obtain rfl := hasAllW_nil h2
  obtain ⟨xs, rfl, h3⟩ := hasW_list h1
  obtain ⟨ns, rfl⟩ := items_int h3
  have hlen : ns.length ≤ n := by
    unfold OpenLaw.pre at hc
    have h4 : (WTm.not (.lt (.lit (.int (n : Int))) (.len (.arg 0)))).holds [] { args := [.list (ns.map .int)] } = true := by
      have h4 := (holds_andW hc).1
      rw [hn] at h4
      exact h4
    have h5 := condW_of h4 (w_not (w_lt w_lit (w_len_list (w_arg rfl))))
    rw [List.length_map] at h5
    refine Nat.le_of_not_lt fun q => ?_
    have q' : (n : Int) < ((ns.length : Nat) : Int) := by omega
    first
      | (rw [decide_eq_true q'] at h5; exact absurd h5 (by decide))
      | (simp at h5; omega)
  cases hwl with
  | cons w1 w2 =>
    cases w2
    cases w1 with
    | list ho hall => exact ⟨_, _, ns, rfl, rfl, ho, ints_of_wellAll ns _ hall, hlen⟩
theorem post_true (l : OpenLaw) (args : List WData) : l.row.toRowW.claim.post args (.bool true) args = true :=
  postW_of (r := l.row.toRowW) (X := (true == true))
    (show WShape.has [] (.bool true) .bool = true by first | rfl | decide | simp [WShape.has, WShape.arms, WShape.armsAll])
    (show (WTm.eq .res (.lit (.bool true))).value [] { args := args, res := some (.bool true), after := args } = some (.bool (true == true)) from w_eq_bool (w_res rfl) w_lit) rfl
theorem attach_call {l : OpenLaw} {n : Nat} {q : Program} {loose : List Str} {XP : (Str → Option Value) → Heap → Prop} {YP : World → Heap → Prop} {d : DefRec}
    (hn : l.most = some n) (hdf : d.params.defaults = [])
    (call : ∀ (w : World) (s₀ s₁ : Shared) (mg mb : Str → Option Value) (fa : Addr) (o : Obj) (pm cd doc : Value) (a : Addr) (vs : List Value) (ns : List Int),
      Ground q loose [] XP w s₀ mg mb s₁.heap → YP w s₁.heap →
      s₁.heap.get? fa = some o → o.data = .func (docDef d.name d.params d.body d.scope pm cd doc) → s₁.heap.CodeRec cd d.name → mg d.name = some (.ref fa) →
      s₁.heap.get? a = some { cls := .type "list", data := .seq vs.toArray } → IntsAre vs ns → ns.length ≤ n → s₁.gens = #[] →
      codeAny (model l.prog w) callerA (.call (.ref fa) ⟨[.ref a], []⟩) (fun r s' => r = .ok (.ret (.bool true)) ∧ OldK s₁.heap s'.heap ∧ s'.os = s₁.os ∧ AllBare s'.gens) s₁) :
    WalkO q loose XP YP l.row.toRowW d [] (fun f vs => PySem.call f vs) := by
  intro w s₀ s₁ mg mb G Y fa o pm cd doc dV kV ho hd hcd hD hmg hg args vals as hpre hlay hrd hwl hlo
  obtain rfl : dV = .none := Dflts.none hD hdf
  obtain rfl : kV = .none := Dflts.noKw hD
  obtain ⟨a, vs, ns, rfl, rfl, hobj, hints, hlen⟩ := script_of hn hpre hwl
  refine enter_call (codeAny_mono (call w s₀ s₁ mg mb fa o pm cd doc a vs ns G Y ho (fd_plain hd) hcd hmg hobj hints hlen hg) fun r s' hq => ?_)
  obtain ⟨rfl, h2, h3, h4⟩ := hq
  exact ⟨.inl ⟨.bool true, .bool true, [], rfl, fun _ => rfl, .bool true, post_true l _, fun _ => ⟨List.Pairwise.nil, fun _ hm => (nomatch hm)⟩⟩, h2, h3, h4⟩
section
variable {prog : Program} {w : World} {A : Around} {E : Value → Shared → Prop} {s : Shared} {K : Frag}
noncomputable def noObjs (h : Heap) : Heap := { h with objs := #[] }
noncomputable def ledger (h : Heap) (L d : Addr) : List (Addr × Obj) := (List.range h.objs.size).filterMap fun a => if a = L ∨ a = d then none else (h.get? a).map fun o => (a, o)
end
end Att
namespace L2
open PySem PySem.Spec PyProof.Rows
theorem vals_ints : ∀ {vs : List Value} {ns : List Int}, IntsAre vs ns → Vals (ns.map V.int) vs
  | _, _, .nil => .nil
  | _, _, .cons n t h => .cons ⟨t, rfl⟩ (vals_ints h)
noncomputable def Only (H : Hp) : Prop := ∀ b, H b = none ∨ ∃ o xs, H b = some (.frz o (.lst xs))
theorem law_call {P : Program} {w : World} {K : PySem.W.Frag} {mg mb : Str → Option Value} {CX : CXT} {k : Nat} {fa a : Addr} {fd : FuncData} {x : Str} {sp : Sp} {s₁ : Shared} {vs : List Value} {ns : List Int}
    (KX : K.In s₁.heap) (hns : s₁.heap.Ns mainGlobals mg) (hb : s₁.heap.Ns builtinsNs mb) (hbb : ∀ x : Str, x ≠ "__name__" → mb x = bootBuiltins x) (hlim : s₁.heap.NoLimit) (hg : s₁.gens = #[])
    (ha : s₁.heap.get? a = some { cls := .type "list", data := .seq vs.toArray }) (hi : IntsAre vs ns) (hl : ns.length ≤ sizeLine) (hr : Room k callerA)
    (F : ∀ base : Heap, K.In base → base.Ns mainGlobals mg → FnOk P w K mg base CX k fa fd [x] sp) (hbind : ∀ (s : Shared) (u : Value), BindsTo s fd ⟨[u], []⟩ [(x, u)])
    (hsp : ∀ H : Hp, Only H → SqL K H a (ns.map V.int) → sp [.ref a] H (fun v _ => v = .bl true) fun _ _ _ => False)
    (hCX : ∀ H e s', CX [] H s₁ (fun _ _ _ => False) e s' → False) :
    codeAny (model P w) callerA (.call (.ref fa) ⟨[.ref a], []⟩) (fun r s' => r = .ok (.ret (.bool true)) ∧ OldK s₁.heap s'.heap ∧ s'.os = s₁.os ∧ AllBare s'.gens) s₁ := by
  have rv := vals_ints hi
  have lenV := hi.length
  have core : ∀ H : Hp, Only H → SqL K H a (ns.map V.int) → HOk P w H s₁.heap → (∀ b, H b ≠ none → b = a) → (H a ≠ none → K.lookup a = none) →
      codeAny (model P w) callerA (.call (.ref fa) ⟨[.ref a], []⟩) (fun r s' => r = .ok (.ret (.bool true)) ∧ OldK s₁.heap s'.heap ∧ s'.os = s₁.os ∧ AllBare s'.gens) s₁ := by
    intro H hO hS hok hA hK
    have base_of : ∀ {b : Addr} {o : Obj}, s₁.heap.get? b = some o → H b = none → (hidT s₁.heap H).get? b = some o := fun e n => hidT_get e n
    have noA : ∀ {b : Addr} {o : Obj} {es : Array DictEntry} {ep : Nat}, s₁.heap.get? b = some o → o.data = .dict es ep → H b = none := fun {b o es ep} e d => by
      cases q : H b with
      | none => rfl
      | some u =>
        have e' : b = a := hA b (by rw [q]; simp)
        subst e'
        rw [ha] at e; cases e
        have d' : Data.seq vs.toArray _ = Data.dict es ep := d
        cases d'
    have nsK : ∀ {b : Addr} {m : Str → Option Value}, s₁.heap.Ns b m → (hidT s₁.heap H).Ns b m := fun {b m} ⟨o, es, ep, e, d, r⟩ => ⟨o, es, ep, base_of e (noA e d), d, r⟩
    have hKb : K.In (hidT s₁.heap H) := fun b o e => base_of (KX b o e) (by
      cases q : H b with
      | none => rfl
      | some u =>
        have e' : b = a := hA b (by rw [q]; simp)
        subst e'
        rw [hK (by rw [q]; simp)] at e; cases e)
    have hM : Mod K mg (hidT s₁.heap H) := ⟨hKb, nsK hns, ⟨mb, nsK hb, hbb⟩, let ⟨mc, h1, h2⟩ := hlim; ⟨mc, nsK h1, h2⟩⟩
    have e0 : Env0 P w K mg (hidT s₁.heap H) callerA [] s₁ H := ⟨rfl, hM, fun b o e => of_hidT e, Nat.le_of_eq (hidT_size _ _), trivial, fun b hb => absurd (show b ∈ ([] : List Addr) from hb) (by simp), hok, .of_eq hg⟩
    refine codeAny_mono ((F _ hKb (nsK hns)).run callerA [] s₁ H ⟨[.ref a], []⟩ [.ref a] [.ref a] _ _ hr e0 (hbind s₁ (.ref a)) (.cons rfl .nil) (hsp H hO hS)) fun r s' h => ?_
    cases r with
    | error e => exact (hCX H e s' h).elim
    | ok fl =>
      cases fl with
      | next => exact False.elim h
      | brk => exact False.elim h
      | cont => exact False.elim h
      | ret u =>
        obtain ⟨v, H', os, bare, un, hok', r', q⟩ := h
        have q' : v = .bl true := q
        subst q'
        obtain rfl : u = Value.bool true := r'
        refine ⟨rfl, OldK.of_keep fun b o e => ?_, os, bare⟩
        cases q : H b with
        | none => exact un.keep b o e q (by intro z; exact absurd (show b ∈ ([] : List Addr) from z) (by simp)) (by simp)
        | some u =>
          rcases hO b with z | ⟨ob, xs, z⟩
          · rw [q] at z; cases z
          · have z2 := un.frzs b ob _ z
            obtain ⟨e1, _⟩ := hok b _ z
            obtain ⟨e2, _⟩ := hok' b _ z2
            rw [e] at e1; cases e1
            exact e2
  cases hk : K.lookup a with
  | some o =>
    have e := KX a o hk
    rw [ha] at e
    cases e
    refine core (fun _ => none) (fun _ => .inl rfl) (.inr ⟨_, vs.toArray, _, hk, rfl, rfl, rfl, by rw [List.size_toArray, lenV]; exact hl, by simpa using rv⟩) (fun b u z => by have z' : (none : Option HO) = some u := z; cases z') (fun b z => absurd rfl z) fun z => absurd rfl z
  | none =>
    refine core (fun b => if b = a then some (.frz { cls := .type "list", data := .seq vs.toArray } (.lst (ns.map V.int))) else none) (fun b => ?_) (.inl (.inr ⟨{ cls := .type "list", data := .seq vs.toArray }, if_pos rfl⟩)) (fun b u z => ?_) (fun b z => ?_) fun _ => hk
    · by_cases hb : b = a
      · exact .inr ⟨_, _, if_pos hb⟩
      · exact .inl (if_neg hb)
    · by_cases hb : b = a
      · have z' := (if_pos hb).symm.trans z
        cases z'
        subst hb
        exact ⟨ha, by rw [List.length_map]; exact hl, vs, _, rv, ha⟩
      · have z' := (if_neg hb).symm.trans z
        cases z'
    · by_cases hb : b = a
      · exact hb
      · exact absurd (if_neg hb) z
end L2
namespace L2
open PySem PySem.Spec PyProof.Rows
noncomputable abbrev KOf {K : PySem.W.Frag} {h : Heap} (_ : K.In h) : PySem.W.Frag := K
theorem walk_of {l : PySem.W.OpenLaw} {n k : Nat} {q : Program} {loose : List Str} {XP : (Str → Option Value) → Heap → Prop} {YP : World → Heap → Prop} {d : DefRec} {K : Params → PySem.W.Frag} {CX : World → CXT} {sp : World → Sp} {x : Str}
    (hn : l.most = some n) (hn2 : n ≤ sizeLine) (hdf : d.params.defaults = []) (hr : Room k callerA)
    (hY : ∀ (w : World) (h : Heap), YP w h → (K w.params).In h)
    (F : ∀ (w : World) (mg : Str → Option Value) (fa : Addr) (h : Heap), (K w.params).In h → h.Ns mainGlobals mg → mg d.name = some (.ref fa) →
      ∃ fd : FuncData, (∀ (s : Shared) (u : Value), BindsTo s fd ⟨[u], []⟩ [(x, u)]) ∧
        ∀ base : Heap, (K w.params).In base → base.Ns mainGlobals mg → FnOk l.prog w (K w.params) mg base (CX w) k fa fd [x] (sp w))
    (hsp : ∀ (w : World) (H : Hp) (a : Addr) (ns : List Int), ns.length ≤ n → Only H → SqL (K w.params) H a (ns.map V.int) → sp w [.ref a] H (fun v _ => v = .bl true) fun _ _ _ => False)
    (hCX : ∀ (w : World) (H : Hp) (s : Shared) (e : Value) (s' : Shared), CX w [] H s (fun _ _ _ => False) e s' → False) :
    PySem.W.WalkO q loose XP YP l.row.toRowW d [] (fun f vs => PySem.call f vs) := by
  refine Att.attach_call hn hdf fun w s₀ s₁ mg mb fa o pm cd doc a vs ns G Y ho hd hcd hmg hobj hints hlen hg => ?_
  have KX := hY w _ Y
  obtain ⟨fd, hb, hF⟩ := F w mg fa _ KX G.T.g hmg
  exact law_call KX G.T.g G.T.b G.T.builtins G.T.nolimit hg hobj hints (Nat.le_trans hlen hn2) hr hF hb (fun H hO hS => hsp w H a ns hlen hO hS) fun H e s' => hCX w H s₁ e s'
end L2
/- THE LAST THEOREM (shape; LID, My.* are yours):
   My.Adr: a structure of the addresses that your layer names (classes, functions); My.Txt K t: a structure (Prop) of the equations over K;
   My.txt_mk : {K} {implicit addresses ..} (e1 : nsIn K mainGlobals "law" = some (some (.ref f))) (e2 : K.lookup f = some ⟨oc, od, .func (fnOf "law" "law" params body scope dV kV doc pm an cdv ct), sl⟩) (e3 : codeIn K cdv "law" = true) .. : ∃ t, My.Txt K t
set_option maxRecDepth 100000 in
set_option maxHeartbeats 0 in
theorem PySem.Challenge.cw_LID_holds : PySem.Challenge.rw_LID.Holds := by
  w_on; o_law; k_head; (case hw => w_witness2)
  k_fill
  refine L2.walk_of (l := PySem.Challenge.rw_LID) (n := 63) (k := 40) (x := "script") (CX := fun w => ..) (sp := fun _ => My.sp_law) rfl (by decide) rfl ⟨rfl, by decide, by decide⟩ (fun w h Y => PySem.W.kIn_of Y) ?F ?S ?C
  case F =>
    intro w mg fa h KX G hmg
    have T : ∃ t, My.Txt (L2.KOf KX) t := by
      dsimp only [L2.KOf]                          -- K must stand as «<heap const> w.params» for k_is
      refine' My.txt_mk ?e1 ?e2 ?e3 ..
      (case e1 => PySem.W.k_is)                    -- in the order: a name -> its address -> its object -> its parts
      (case e2 => PySem.W.k_is)
      ..
    obtain ⟨t, T⟩ := T
    have e0 := hmg.symm.trans (PySem.W.mg_of KX G T.law)
    cases e0                                       -- fa is the law's own address
    exact ⟨_, fun s u => .of_eq rfl, fun base kb nb => My.law_fn T kb nb⟩     -- if «.of_eq rfl» comes too early: refine' ⟨_, ?b, fun base kb nb => My.law_fn T kb nb⟩; exact fun s u => .of_eq rfl
  case S => exact fun w H a ns hl hO hS => ..
  case C => exact ..
(the tactic k_is has no namespace: write k_is) -/
namespace L2
open PySem PySem.Spec PyProof.Rows
noncomputable def inClass (s : Stmt) (j : Nat) : Stmt := match s with
  | .ClassDef _ _ _ body _ _ _ _ _ _ _ => body.getD j (.Pass ⟨0, 0, 0, 0⟩)
  | _ => .Pass ⟨0, 0, 0, 0⟩
noncomputable def defArgs (s : Stmt) : Arguments := match s with
  | .FunctionDef _ a _ _ _ _ _ _ _ _ => a
  | _ => { posonlyargs := [], args := [], vararg := none, kwonlyargs := [], kw_defaults := [], kwarg := none, defaults := [] }
noncomputable def defBody (s : Stmt) : List Stmt := match s with
  | .FunctionDef _ _ b _ _ _ _ _ _ _ => b
  | _ => []
noncomputable def defScope (s : Stmt) : Scope := match s with
  | .FunctionDef _ _ _ _ _ _ sc _ _ _ => sc
  | _ => { kind := .function, names := [], isGenerator := false, isCoroutine := false }
noncomputable abbrev CX0 : CXT := fun _ _ _ _ _ _ => False
noncomputable abbrev E0 : XK := fun _ _ _ => False
theorem pass0 {X : Cx} : Passes CX0 X E0 := fun _ _ _ _ _ _ _ h => h.elim
structure Fun (K : PySem.W.Frag) (x qual : Str) (st : Stmt) (f : Addr) (fd : FuncData) : Prop where
  ex : ∃ (oc : Value) (od : Option Addr) (kV doc pm : Value) (an : Option Addr) (cdv ct : Value) (osl : Array (Option Value)),
    fd = PySem.W.fnOf x qual (defArgs st) (defBody st) (defScope st) .none kV doc pm an cdv ct ∧ K.lookup f = some ⟨oc, od, .func fd, osl⟩ ∧ PySem.W.codeIn K cdv qual = true
  kp : PySem.W.keepIn K (.ref f) = true
section
variable {P : Program} {w : World} {K : PySem.W.Frag} {mg : Str → Option Value} {base : Heap}
theorem Fun.ok {x qual : Str} {st : Stmt} {f : Addr} {fd : FuncData} {N ps : List Str} {k : Nat} {sp : Sp} (F : Fun K x qual st f fd) (S : FnScope N ps (defScope st)) (len : ∀ vs H Q E, sp vs H Q E → vs.length = ps.length)
    (hbody : ∀ (cdv : Value) (A : Around) (outer : List Env) (s : Shared) (H : Hp) (vs : List V) (Q : VK) (E : XK), Room k (A.deeper (envOfC qual (defScope st) s.heap.objs.size f cdv)) → sp vs H Q E →
      ∃ t, PSs (cxOf CX0 P w K mg base N qual (defScope st) f cdv A outer s H E).nox (defBody st) t ∧ t { nx := fun _ H' => Q .non H', rt := Q } (start N vs) H) : FnOk P w K mg base CX0 (k + 1) f fd ps sp := by
  obtain ⟨oc, od, kV, doc, pm, an, cdv, ct, osl, rfl, lk, hcd⟩ := F.ex
  refine fn_of lk hcd S len fun A outer s H vs Q E hr hsp => ?_
  obtain ⟨t, h, q⟩ := hbody cdv A outer s H vs Q E hr hsp
  exact ⟨t, h.nox, q⟩
theorem Fun.binds {x qual : Str} {st : Stmt} {f : Addr} {fd : FuncData} {ps : List Str} (F : Fun K x qual st f fd)
    (h : ∀ (kV doc pm : Value) (an : Option Addr) (cdv ct : Value) (us : List Value), us.length = ps.length → bindArgs (PySem.W.fnOf x qual (defArgs st) (defBody st) (defScope st) .none kV doc pm an cdv ct) ⟨us, []⟩ = pure (ps.zip us)) : Binds K fd ps [] := by
  obtain ⟨oc, od, kV, doc, pm, an, cdv, ct, osl, rfl, lk, hcd⟩ := F.ex
  exact .all (h kV doc pm an cdv ct)
theorem fun_mk {x qual : Str} {st : Stmt} {f : Addr} {oc : Value} {od an : Option Addr} {osl : Array (Option Value)} {kV doc pm cdv ct : Value} (l : K.lookup f = some ⟨oc, od, .func (PySem.W.fnOf x qual (defArgs st) (defBody st) (defScope st) .none kV doc pm an cdv ct), osl⟩)
    (c : PySem.W.codeIn K cdv qual = true) (k : PySem.W.keepIn K (.ref f) = true) : Fun K x qual st f (PySem.W.fnOf x qual (defArgs st) (defBody st) (defScope st) .none kV doc pm an cdv ct) := ⟨⟨oc, od, kV, doc, pm, an, cdv, ct, osl, rfl, l, c⟩, k⟩
end
theorem iteF {A B : Prop} (h : B) : if false = true then A else B := by
  rw [if_neg Bool.false_ne_true]
  exact h
theorem iteT {A B : Prop} (h : A) : if true = true then A else B := by
  rw [if_pos rfl]
  exact h
noncomputable def Same (H H' : Hp) : Prop := ∀ b o, H b = some o → H' b = some o
theorem Same.refl (H : Hp) : Same H H := fun _ _ h => h
theorem Same.trans {H H1 H2 : Hp} (a : Same H H1) (b : Same H1 H2) : Same H H2 := fun c o h => b c o (a c o h)
theorem Same.free {H H' : Hp} (e : Same H H') {l : Addr} (h : H' l = Option.none) : H l = Option.none := by
  cases q : H l with
  | none => rfl
  | some o =>
    rw [e l o q] at h
    cases h
theorem Same.seq {K : PySem.W.Frag} {H H' : Hp} {a : Addr} {xs : List V} (e : Same H H') (h : SqL K H a xs) : SqL K H' a xs := by
  rcases h with (h | ⟨o, h⟩) | h
  · exact .inl (.inl (e _ _ h))
  · exact .inl (.inr ⟨o, e _ _ h⟩)
  · exact .inr h
end L2
set_option autoImplicit false
namespace L2
open PySem PySem.Spec PyProof.Rows
section
variable {κ : Type} [DecidableEq κ]
noncomputable def valV (kvs : List (κ × V)) (k : κ) : Option V := (kvs.find? fun kv => decide (kv.1 = k)).map (·.2)
noncomputable def putK (kvs : List (κ × V)) (k : κ) (v : V) : List (κ × V) :=
  if (kvs.any fun kv => decide (kv.1 = k)) = true then kvs.map (fun kv => if kv.1 = k then (kv.1, v) else kv) else kvs ++ [(k, v)]
noncomputable def dropK (kvs : List (κ × V)) (k : κ) : List (κ × V) := kvs.filter fun kv => decide (kv.1 ≠ k)
end
noncomputable abbrev KT (H : Hp) : List (List Key × V) → List (List Key × Addr × Value) → Prop := Paired fun p q => p.1 = q.1 ∧ H q.2.1 = some (.tup (p.1.map kV)) ∧ RelV p.2 q.2.2
noncomputable def DGet (H : Hp) (a : Addr) (y : V) (r : Option V) : Prop :=
  (∃ kvs k, Rd H a (.dK kvs) ∧ y = kV k ∧ r = valV kvs k) ∨ ∃ kvs k b, Rd H a (.dT kvs) ∧ y = .ref b ∧ H b = some (.tup (k.map kV)) ∧ r = valV kvs k
noncomputable def DPut (H : Hp) (a : Addr) (y v : V) (H' : Hp) : Prop :=
  (∃ kvs k, H a = some (.dK kvs) ∧ y = kV k ∧ kvs.length < sizeLine ∧ H' = upd H a (.dK (putK kvs k v))) ∨
  ∃ kvs k b, H a = some (.dT kvs) ∧ y = .ref b ∧ H b = some (.tup (k.map kV)) ∧ kvs.length < sizeLine ∧ H' = upd H a (.dT (putK kvs k v))
noncomputable def NoSl (i : Expr) : Prop := ∀ ov iv, subscripted i false ov iv = operate [ov, iv] (getItem ov iv)
noncomputable def tDGet (td ty : TE) : TE := fun σ H Q => td σ H fun x H1 => ty σ H1 fun y H2 => ∃ a v, x = .ref a ∧ DGet H2 a y (some v) ∧ Q v H2
noncomputable def tDIn (ty td : TE) : TE := fun σ H Q => ty σ H fun y H1 => td σ H1 fun x H2 => ∃ a o, x = .ref a ∧ DGet H2 a y o ∧ Q (.bl o.isSome) H2
noncomputable def tDNotIn (ty td : TE) : TE := fun σ H Q => ty σ H fun y H1 => td σ H1 fun x H2 => ∃ a o, x = .ref a ∧ DGet H2 a y o ∧ Q (.bl (!o.isSome)) H2
noncomputable def sDPut (td ty tv : TE) : TS := fun D σ H => tv σ H fun v H1 => td σ H1 fun x H2 => ty σ H2 fun y H3 => ∃ a H4, x = .ref a ∧ DPut H3 a y v H4 ∧ D.nx σ H4
noncomputable def sDAug (td ty tv : TE) (rd : V → V → Hp → VK → Prop) : TS := fun D σ H => td σ H fun x H1 => ty σ H1 fun y H2 => ∃ a v, x = .ref a ∧ DGet H2 a y (some v) ∧
  tv σ H2 fun y2 H3 => rd v y2 H3 fun z H4 => ∃ H5, DPut H4 a y z H5 ∧ D.nx σ H5
noncomputable def sDDel (td ty : TE) : TS := fun D σ H => td σ H fun x H1 => ty σ H1 fun y H2 => ∃ a kvs k, x = .ref a ∧ H2 a = some (.dK kvs) ∧ y = kV k ∧ (valV kvs k).isSome = true ∧ D.nx σ (upd H2 a (.dK (dropK kvs k)))
noncomputable def tDNewK : TE := fun _ H Q => ∀ p, H p = none → Q (.ref p) (upd H p (.dK []))
noncomputable def tDNewT : TE := fun _ H Q => ∀ p, H p = none → Q (.ref p) (upd H p (.dT []))
noncomputable def tPairs : List (TE × TE) → St → Hp → (List (V × V) → Hp → Prop) → Prop
  | [], _, H, Q => Q [] H
  | (tk, tv) :: r, σ, H, Q => tk σ H fun x H1 => tv σ H1 fun y H2 => tPairs r σ H2 fun ps H3 => Q ((x, y) :: ps) H3
noncomputable abbrev VV : List (V × V) → List (Value × Value) → Prop := Paired fun p q => RelV p.1 q.1 ∧ RelV p.2 q.2
noncomputable def PPs (X : Cx) (pos : Pos) (keys : List (Option Expr)) (values : List Expr) (trs : List (TE × TE)) : Prop :=
  ∀ (pins : List (Addr × Obj)) (s : Shared) (σ : St) (H : Hp) (Q : List (V × V) → Hp → Prop), Inv X pins σ H s → tPairs trs σ H Q →
    wpAny (model X.prog X.w) X.A (evalPairs (pairTrees keys values X.env pos)) (fun vs s' => ∃ ps H', Inv X pins σ H' s' ∧ VV ps vs ∧ Q ps H') X.xe s
noncomputable def mergeK (kvs more : List (Key × V)) : List (Key × V) := more.foldl (fun acc kv => putK acc kv.1 kv.2) kvs
noncomputable def tDisp (trs : List (TE × TE)) : TE := fun σ H Q => ∀ p, H p = none → tPairs trs σ (upd H p (.dK [])) fun ps H2 => H2 p = some (.dK []) ∧ ∃ kvs : List (Key × V), ps = kvs.map (fun kv => (kV kv.1, kv.2)) ∧ kvs.length ≤ 15 ∧ Q (.ref p) (upd H2 p (.dK (mergeK [] kvs)))
structure M1 (X : Cx) (o : Expr) (m : Str) (apos : Pos) (e : Expr) (cpos : Pos) : Prop where
  base : attributeBase o m X.env (eval o X.env) = eval o X.env
  few : ((backTo cpos (starEach [e] X.env)).all (fun x => !x.1) && (backToKw cpos (keywordEach [] X.env)).all (fun x => x.1.isSome)
    && decide (([e] : List Expr).length + ([] : List Keyword).length + (if ([] : List Keyword).isEmpty then 0 else 1) < 30)) = true
  line : (apos.endLine == cpos.line) = true
  trees : backTo cpos (starEach [e] X.env) = [(false, eval e X.env)]
structure M2 (X : Cx) (o : Expr) (m : Str) (apos : Pos) (e f : Expr) (cpos : Pos) : Prop where
  base : attributeBase o m X.env (eval o X.env) = eval o X.env
  few : ((backTo cpos (starEach [e, f] X.env)).all (fun x => !x.1) && (backToKw cpos (keywordEach [] X.env)).all (fun x => x.1.isSome)
    && decide (([e, f] : List Expr).length + ([] : List Keyword).length + (if ([] : List Keyword).isEmpty then 0 else 1) < 30)) = true
  line : (apos.endLine == cpos.line) = true
  trees : backTo cpos (starEach [e, f] X.env) = [(false, eval e X.env), (false, eval f X.env)]
noncomputable def IsD (H : Hp) (a : Addr) : Prop := (∃ kvs, Rd H a (.dK kvs)) ∨ ∃ kvs, Rd H a (.dT kvs)
noncomputable def tDGet1 (td ty : TE) : TE := fun σ H Q => td σ H fun x H1 => ∃ a, x = .ref a ∧ IsD H1 a ∧ ty σ H1 fun y H2 => ∃ o, DGet H2 a y o ∧ Q (o.getD .non) H2
noncomputable def tDGet2 (td ty tx : TE) : TE := fun σ H Q => td σ H fun x H1 => ∃ a, x = .ref a ∧ IsD H1 a ∧ ty σ H1 fun y H2 => tx σ H2 fun z H3 => ∃ o, DGet H3 a y o ∧ Q (o.getD z) H3
noncomputable def tDPop1 (td ty : TE) : TE := fun σ H Q => td σ H fun x H1 => ∃ a, x = .ref a ∧ IsD H1 a ∧ ty σ H1 fun y H2 => ∃ kvs k v, H2 a = some (.dK kvs) ∧ y = kV k ∧ valV kvs k = some v ∧ Q v (upd H2 a (.dK (dropK kvs k)))
noncomputable def tDPop2 (td ty tx : TE) : TE := fun σ H Q => td σ H fun x H1 => ∃ a, x = .ref a ∧ IsD H1 a ∧ ty σ H1 fun y H2 => tx σ H2 fun z H3 => ∃ kvs k, H3 a = some (.dK kvs) ∧ y = kV k ∧
  (∀ v, valV kvs k = some v → Q v (upd H3 a (.dK (dropK kvs k)))) ∧ (valV kvs k = none → Q z H3)
end L2
namespace L2
open PySem
noncomputable def clGo (env : Env) : List (Str × NameKind) → List (Str × Addr) → List (Str × Addr)
  | [], cs => cs
  | (n, k) :: r, cs => clGo env r (if k == .free then (n, (env.cells.lookup n).getD 0) :: cs else cs)
noncomputable def clOf (scope : Scope) (env : Env) : List (Str × Addr) := clGo env scope.names []
theorem closureFor_eq {scope : Scope} {env : Env} (h : ∀ x ∈ scope.names, x.2 = .free → ∃ c, env.cells.lookup x.1 = some c) : closureFor scope env = pure (clOf scope env) := by
  unfold closureFor clOf
  have key : ∀ (l : List (Str × NameKind)) (cs : List (Str × Addr)), (∀ x ∈ l, x.2 = .free → ∃ c, env.cells.lookup x.1 = some c) →
      (forIn l cs (fun x (r : List (Str × Addr)) => match x with
        | (name, kind) => if (kind == NameKind.free) = true then do let a ← cellOf env name; pure (ForInStep.yield ((name, a) :: r)) else pure (ForInStep.yield r)) : Sem (List (Str × Addr))) = pure (clGo env l cs) := by
    intro l
    induction l with
    | nil => intro cs _; rfl
    | cons x r ih =>
      intro cs hx
      obtain ⟨n, k⟩ := x
      rw [List.forIn_cons]
      by_cases hk : (k == NameKind.free) = true
      · obtain ⟨c, hc⟩ := hx (n, k) List.mem_cons_self (by simpa using hk)
        have e : cellOf env n = pure c := by unfold cellOf; rw [show env.cells.lookup n = some c from hc]
        simp only [hk, if_true, e, pure_bind]
        rw [ih _ fun y hy => hx y (List.mem_cons_of_mem _ hy)]
        have hc' : env.cells.lookup n = some c := hc
        simp only [clGo, hk, if_true, hc', Option.getD_some]
      · simp only [hk, Bool.false_eq_true, if_false, pure_bind]
        rw [ih _ fun y hy => hx y (List.mem_cons_of_mem _ hy)]
        simp only [clGo, hk, Bool.false_eq_true, if_false]
  have := key scope.names [] h
  dsimp only
  rw [this]
  rfl
theorem clGo_mem (env : Env) : ∀ (l : List (Str × NameKind)) (cs : List (Str × Addr)) (p : Str × Addr), p ∈ clGo env l cs → p ∈ cs ∨ ((p.1, NameKind.free) ∈ l ∧ p.2 = (env.cells.lookup p.1).getD 0)
  | [], cs, p, h => .inl h
  | (n, k) :: r, cs, p, h => by
    unfold clGo at h
    rcases clGo_mem env r _ p h with h | ⟨h1, h2⟩
    · by_cases hk : (k == NameKind.free) = true
      · rw [if_pos hk] at h
        rcases List.mem_cons.mp h with h | h
        · have e : k = .free := by simpa using hk
          subst h; subst e
          exact .inr ⟨List.mem_cons_self, rfl⟩
        · exact .inl h
      · rw [if_neg hk] at h; exact .inl h
    · exact .inr ⟨List.mem_cons_of_mem _ h1, h2⟩
theorem clGo_has (env : Env) : ∀ (l : List (Str × NameKind)) (cs : List (Str × Addr)) (n : Str), ((n, NameKind.free) ∈ l ∨ ∃ a, (n, a) ∈ cs) → ∃ a, (n, a) ∈ clGo env l cs
  | [], cs, n, h => by
    rcases h with h | h
    · cases h
    · exact h
  | (m, k) :: r, cs, n, h => by
    unfold clGo
    refine clGo_has env r _ n ?_
    rcases h with h | ⟨a, h⟩
    · rcases List.mem_cons.mp h with h | h
      · cases h
        exact .inr ⟨_, by rw [if_pos (by simp)]; exact List.mem_cons_self⟩
      · exact .inl h
    · refine .inr ⟨a, ?_⟩
      split
      · exact List.mem_cons_of_mem _ h
      · exact h
theorem lookup_of_mem_some {β : Type} : ∀ {l : List (Str × β)} {n : Str} {a : β}, (n, a) ∈ l → ∃ b, l.lookup n = some b
  | [], _, _, h => by cases h
  | (m, b) :: r, n, a, h => by
    rw [List.lookup_cons]
    by_cases e : n = m
    · subst e; simp
    · have hb : (n == m) = false := by simpa using e
      rw [hb]
      rcases List.mem_cons.mp h with h | h
      · cases h; exact absurd rfl e
      · exact lookup_of_mem_some h
theorem clOf_in {scope : Scope} {env : Env} (h : ∀ x ∈ scope.names, x.2 = .free → ∃ c, env.cells.lookup x.1 = some c) {x : Str} {c : Addr} (e : (clOf scope env).lookup x = some c) : env.cells.lookup x = some c := by
  have m := PySem.mem_of_lookup e
  rcases clGo_mem env scope.names [] (x, c) m with h' | ⟨h1, h2⟩
  · cases h'
  · obtain ⟨d, hd⟩ := h _ h1 rfl
    have hd' : env.cells.lookup x = some d := hd
    have h2' : c = (env.cells.lookup x).getD 0 := h2
    rw [hd'] at h2' ⊢
    rw [h2']; rfl
theorem clOf_has {scope : Scope} {env : Env} {x : Str} (h : (x, NameKind.free) ∈ scope.names) : ∃ c, (clOf scope env).lookup x = some c := by
  obtain ⟨a, ha⟩ := clGo_has env scope.names [] x (.inl h)
  exact lookup_of_mem_some ha
end L2
namespace L2
open PySem PySem.Spec PyProof.Rows
structure CompSc (X : Cx) (scope : Scope) (N' : List Str) (mp : List (Option Nat)) : Prop where
  kind : scope.kind = .function
  nocell : ∀ x ∈ scope.names, x.2 ≠ .cell
  names : ∀ x ∈ scope.names, x.2 = .local → scope.names.lookup x.1 = some .local
  fr : ∀ x ∈ scope.names, x.2 = .free → X.env.scope.names.lookup x.1 = some .cell ∨ X.env.scope.names.lookup x.1 = some .free
  len : mp.length = N'.length
  map : ∀ (i : Nat) (x : Str) (j : Nat), N'[i]? = some x → mp[i]? = some (some j) → X.N[j]? = some x ∧ (x, NameKind.free) ∈ scope.names ∧ ((relabel scope X.env).names.lookup x = some .cell ∨ (relabel scope X.env).names.lookup x = some .free)
noncomputable def inSt (mp : List (Option Nat)) (σ : St) : St := mp.map fun o => o.bind fun j => (σ[j]?).join
noncomputable def compCx (X : Cx) (scope : Scope) (N' : List Str) (s : Shared) (H : Hp) (fp : List Addr) : Cx :=
  { X with N := N', s₀ := s, H₀ := H, env := compEnvC scope (clOf scope X.env) s.heap.objs.size X.env, outer := X.stack, ex := fp, fn := fun _ => false, pn := [], xe := fun _ _ => False }
theorem relabel_free {scope : Scope} {env : Env} {x : Str} (nc : ∀ y ∈ scope.names, y.2 ≠ .cell) (h : (relabel scope env).names.lookup x = some .cell ∨ (relabel scope env).names.lookup x = some .free) : (x, NameKind.free) ∈ scope.names := by
  have m : ∃ k, (x, k) ∈ (relabel scope env).names ∧ (k = .cell ∨ k = .free) := by
    rcases h with h | h
    · exact ⟨_, PySem.mem_of_lookup h, .inl rfl⟩
    · exact ⟨_, PySem.mem_of_lookup h, .inr rfl⟩
  obtain ⟨k, hm, hk⟩ := m
  unfold relabel at hm
  obtain ⟨⟨n, k'⟩, hin, e⟩ := List.mem_map.mp hm
  dsimp only at e
  split at e
  · rename_i hc
    have e1 : n = x := congrArg Prod.fst e
    have e2 : k' = .free := by
      have := (Bool.and_eq_true_iff.mp (Bool.and_eq_true_iff.mp hc).1).1
      simpa using this
    rw [← e1, ← e2]; exact hin
  · have e1 : n = x := congrArg Prod.fst e
    have e2 : k' = k := congrArg Prod.snd e
    rcases hk with hk | hk
    · exact absurd (e2.trans hk) (nc _ hin)
    · rw [← e1, ← hk, ← e2]; exact hin
section
variable {X : Cx} {pins : List (Addr × Obj)} {σ : St} {H : Hp} {s : Shared} {scope : Scope} {N' : List Str} {mp : List (Option Nat)} {fp : List Addr}
theorem CompSc.cells (ck : CompSc X scope N' mp) (ok : X.Ok) : ∀ x ∈ scope.names, x.2 = .free → ∃ c, X.env.cells.lookup x.1 = some c := fun x hx hf => ok.has x.1 (ck.fr x hx hf)
theorem Inv.inner (I : Inv X pins σ H s) (ck : CompSc X scope N' mp) (hf : ∀ b ∈ fp, FpOk X pins H b) (hlt : ∀ b ∈ fp, b < s.heap.objs.size) {h₁ : Heap} {tk : Nat}
    (hn : h₁.Ns s.heap.objs.size (fun _ => none)) (hk : ∀ b o, s.heap.get? b = some o → h₁.get? b = some o) :
    Inv (compCx X scope N' s H fp) [] (inSt mp σ) H { s with heap := h₁, toks := tk } := by
  have hfree := ck.cells I.ok
  have cin : ∀ x c, (clOf scope X.env).lookup x = some c → X.env.cells.lookup x = some c := fun x c e => clOf_in hfree e
  have clt : ∀ x c, X.env.cells.lookup x = some c → c < s.heap.objs.size := fun x c e => by
    obtain ⟨v, q⟩ := I.cell x c e
    exact q.lt
  refine ⟨⟨I.ok.mod, ck.kind, I.ok.glob, I.ok.blt, Nat.le_refl _, fun x y c h1 h2 => I.ok.inj x y c (cin x c h1) (cin y c h2), fun x hx => ?_, fun x c h _ => ?_, I.ok.hd, I.ok.frames, .inl rfl, fun b hb => ⟨?_, fun x c e => ?_⟩, I.bs, Nat.le_trans I.ok.bsz I.sz, fun b o e hb => ?_, fun b hb hs => ?_, I.stack, I.stkFree⟩,
    rfl, I.bare, Un.kept hk, ⟨_, hn, fun i x v h1 h2 h3 => ?_⟩, fun x c e => ?_, I.hok.fresh (Nat.le_refl _), fun x c e => ?_, fun p hp => absurd (show p ∈ ([] : List (Addr × Obj)) from hp) (by simp), I.hok.kept hk, ?_⟩
  · exact clOf_has (relabel_free ck.nocell hx)
  · exact absurd (show false = true from h) (by decide)
  · exact Nat.ne_of_lt (hlt b hb)
  · exact (hf b hb).2.2.2.2.1 x c (cin x c e)
  · have q := (hf b hb).2.2.2.1
    rcases q with q | q
    · exact I.ok.noex b o e q
    · exact absurd (Nat.lt_of_lt_of_le (Heap.lt_size e) (Nat.le_trans I.ok.bsz q)) (Nat.lt_irrefl _)
  · rcases List.mem_cons.mp (I.stkSub b hs) with z | z
    · exact (hf b hb).2.1 z
    · exact (hf b hb).2.2.1 z
  · have hi : ∃ j, mp[i]? = some (some j) ∧ σ[j]? = some (some v) := by
      unfold inSt at h2
      rw [List.getElem?_map] at h2
      cases q : mp[i]? with
      | none => rw [q] at h2; cases h2
      | some o =>
        rw [q] at h2
        have h2' : (o.bind fun j => (σ[j]?).join) = some v := Option.some.inj h2
        cases o with
        | none => cases h2'
        | some j =>
          have h2'' : (σ[j]?).join = some v := h2'
          refine ⟨j, rfl, ?_⟩
          cases r : σ[j]? with
          | none => rw [r] at h2''; cases h2''
          | some w' =>
            rw [r] at h2''
            have : w' = some v := h2''
            rw [this]
    obtain ⟨j, hj, hσ⟩ := hi
    obtain ⟨m1, m2, m3⟩ := ck.map i x j h1 hj
    obtain ⟨m, hm, hl⟩ := I.loc
    have vis : Vis X.env.scope x := by
      rcases ck.fr _ m2 rfl with q | q
      · exact .inr (.inl q)
      · exact .inr (.inr q)
    obtain ⟨u, ru, l⟩ := hl j x v m1 hσ vis
    refine ⟨u, ru, .inr ⟨m3, ?_⟩⟩
    obtain ⟨c, hc⟩ := clOf_has (env := X.env) m2
    refine ⟨c, hc, ?_⟩
    rcases l with ⟨k, _⟩ | ⟨_, c', e', z⟩
    · rcases ck.fr _ m2 rfl with q | q
      · have k' : X.env.scope.names.lookup x = some .local := k
        have q' : X.env.scope.names.lookup x = some .cell := q
        rw [k'] at q'; cases q'
      · have k' : X.env.scope.names.lookup x = some .local := k
        have q' : X.env.scope.names.lookup x = some .free := q
        rw [k'] at q'; cases q'
    · have e2 := cin x c hc
      rw [e'] at e2
      cases e2
      obtain ⟨o, ho, hd⟩ := z
      exact ⟨o, hk _ o ho, hd⟩
  · obtain ⟨v, o, ho, hd⟩ := I.cell x c (cin x c e)
    exact ⟨v, o, hk _ o ho, hd⟩
  · exact I.freeC x c (cin x c e)
  · show (inSt mp σ).length = N'.length
    unfold inSt
    rw [List.length_map]
    exact ck.len
theorem Inv.outer {σ' : St} {H' : Hp} {s' : Shared} (I : Inv X pins σ H s) (hf : ∀ b ∈ fp, FpOk X pins H b) (J : Inv (compCx X scope N' s H fp) [] σ' H' s') : Inv X pins σ H' s' :=
  I.call' (ch := fp) J.os J.base J.hok J.bare fun b hb => ⟨(hf b hb).2.2.2.1, (hf b hb).2.1, (hf b hb).2.2.2.2.1, (hf b hb).2.2.2.2.2⟩
end
noncomputable def KeepsSt (σ σ' : St) : Prop := σ'.length = σ.length ∧ ∀ (i : Nat) v, σ[i]? = some (some v) → σ'[i]? = some (some v)
noncomputable def PTs (X : Cx) (ifs : List Expr) (t : TT) : Prop :=
  ∀ (pins : List (Addr × Obj)) (s : Shared) (σ : St) (H : Hp) (Q : Bool → Hp → Prop), Inv X pins σ H s → t σ H Q →
    wpAny (model X.prog X.w) X.A (forIn ifs true fun c r => if r = true then do let ok ← isTrue c X.env (eval c X.env); pure (ForInStep.yield ok) else pure (ForInStep.yield r)) (TP X pins σ Q) X.xe s
theorem pts_nil {X : Cx} : PTs X [] (fun _ H Q => Q true H) := fun _ _ _ H _ I h => wpAny_tests_nil ⟨H, I, h⟩
theorem pts_one {X : Cx} {c : Expr} {t : TT} (hc : PT X c t) : PTs X [c] t := fun pins s σ H Q I h => wpAny_tests_one (hc pins s σ H Q I h)
noncomputable def CompW (J : It) (σ' : St) (g : TG) (tt : TT) (te : TE) (D : Addr) (Fin : Hp → Prop) (H1 : Hp) : Prop :=
  ∃ W : Nat → Nat → Hp → Prop, (∃ m, W 0 m (upd H1 D (.lst []))) ∧ ∀ i m H, W i m H →
    (J.stop i H ∧ Fin H) ∨ (J.go i H ∧ ∃ Nx : Hp → Prop, (∀ H', Nx H' → ∃ m', m' < m ∧ W (i + 1) m' H') ∧ ∀ x H', J.yld i H x H' → g x σ' H' fun σ2 H2 => KeepsSt σ' σ2 ∧
      tt σ2 H2 fun ok H3 => if ok = true then te σ2 H3 fun y H4 => ∃ ys, H4 D = some (.lst ys) ∧ ys.length < sizeLine ∧ Nx (upd H4 D (.lst (ys ++ [y]))) else Nx H3)
noncomputable def tComp (mp : List (Option Nat)) (wi : TI) (g : TG) (tt : TT) (te : TE) : TE := fun σ H Q => wi σ H fun J H1 => ∀ D, H1 D = none → CompW J (inSt mp σ) g tt te D (fun H => Q (.ref D) H) H1
theorem codeAny_compLoop_gen {prog : Program} {w : World} {A : Around} {R : Result → Shared → Prop} {s : Shared} {elt target iter : Expr} {ifs : List Expr} {scope : Scope} {pos : Pos} {it acc : Value} {env : Env} (I : Nat → Shared → Prop)
    (turn : ∀ n s, I n s → wpAny (model prog w) A (pyNext it) (fun r s₁ => match r with
      | none => R (.ok .next) s₁
      | some v => wpAny (model prog w) A (letOwnedTupleGo target it v) (fun _ s₀ => wpAny (model prog w) A (assign target env v) (fun _ s₂ =>
          wpAny (model prog w) A (forIn ifs true fun c r => if r = true then do let ok ← isTrue c env (eval c env); pure (ForInStep.yield ok) else pure (ForInStep.yield r)) (fun ok s₃ =>
            if ok = true then wpAny (model prog w) A (eval elt env) (fun x s₄ =>
              wpAny (model prog w) A (call (.builtin "list.append") [acc, x]) (fun _ s₅ => ∃ m, m < n ∧ I m s₅) (fun _ _ => False) s₄) (fun _ _ => False) s₃
            else ∃ m, m < n ∧ I m s₃) (fun _ _ => False) s₂) (fun _ _ => False) s₀) (fun _ _ => False) s₁) (fun _ _ => False) s)
    (n : Nat) (h : I n s) :
    codeAny (model prog w) A (.compLoop (.ListComp elt [⟨target, iter, ifs, 0⟩] scope pos) 0 it acc env) R s := by
  refine codeAny_loop rfl I (fun n s hI => ?_) n h
  show wpAny _ A ((compTurn (.ListComp elt [⟨target, iter, ifs, 0⟩] scope pos) 0 it acc env).onRaise (fun x => do noteFrame x env; theTreesLotGoes x)) _ _ s
  refine wpAny_noted ?_
  rw [compTurn_list]
  have no : ∀ {P : Value → Shared → Prop} (e : Value) (s' : Shared), False → P e s' := fun _ _ f => f.elim
  refine wpAny_bind (wpAny_standAt (wpAny_bind (wpAny_mono (turn n s hI) (fun r s₁ h₁ => ?_) no)))
  cases r with
  | none => exact wpAny_pure h₁
  | some v =>
    refine wpAny_bind (wpAny_mono h₁ (fun _ s₀ h₀ => ?_) no)
    refine wpAny_bind (wpAny_mono h₀ (fun _ s₂ h₂ => wpAny_bind (wpAny_mono h₂ (fun ok s₃ h₃ => ?_) no)) no)
    cases ok with
    | false => exact wpAny_pure ⟨rfl, h₃⟩
    | true =>
      exact wpAny_bind (wpAny_bind (wpAny_mono h₃ (fun x s₄ h₄ => wpAny_bind (wpAny_mono h₄ (fun _ s₅ h₅ => wpAny_pure (wpAny_pure ⟨rfl, h₅⟩)) no)) no))
section
variable {X : Cx} {elt iter tg : Expr} {ifs : List Expr} {scope : Scope} {pos : Pos} {N' : List Str} {mp : List (Option Nat)} {wi : TI} {g : TG} {tt : TT} {te : TE}
theorem comp_block {pins : List (Addr × Obj)} {σ : St} {H : Hp} {s : Shared} {J : It} {it : Addr} {fp : List Addr} {tn : Nat → Heap → Prop} {Fin : Hp → Prop} {E : Value → Shared → Prop} {RR : Value → Addr → Result → Shared → Prop}
    (hc : X.calm = true) (ck : CompSc X scope N' mp) (hb : ∀ s H fp, PG (compCx X scope N' s H fp) tg g ∧ PTs (compCx X scope N' s H fp) ifs tt ∧ PE (compCx X scope N' s H fp) elt te)
    (I : Inv X pins σ H s) (T : Turn X.prog X.w X.K tg J fp it tn) (st : tn 0 s.heap) (hf : ∀ b ∈ fp, FpOk X pins H b) (hq : CompW J (inSt mp σ) g tt te s.heap.objs.size Fin H)
    (hRR : ∀ (C : Addr) (s' : Shared) (H' : Hp), Inv X pins σ H' s' → Fin H' → (∃ m, s'.heap.Ns C m) → H' C = none → C ≠ X.env.locals → X.s₀.heap.objs.size ≤ C → (∀ x c, X.env.cells.lookup x = some c → c ≠ C) → (∀ p ∈ X.pn ++ pins, p.1 ≠ C) → RR (.ref s.heap.objs.size) C (.ok .next) s') :
    wpAny (model X.prog X.w) X.A (newList []) (fun acc s₃ => wpAny (model X.prog X.w) X.A (newFunctionEnv scope X.env.globals (clOf scope X.env) [] X.env.qual none .none (some X.env)) (fun cenv s₄ =>
      codeAny (model X.prog X.w) X.A (.compStart (.ListComp elt [⟨tg, iter, ifs, 0⟩] scope pos) 0 (.ref it) acc { cenv with scope := relabel scope X.env }) (RR acc cenv.locals) s₄) E s₃) E s := by
  refine wpAny_newObj_type (wpAny_newFunctionEnv ck.nocell (by intro y hy; simp at hy) (fun h₁ hns₁ hsb₁ => ?_) ck.kind)
  dsimp only at hns₁ hsb₁ ⊢
  have I3 : Inv X pins σ (upd H s.heap.objs.size (.lst [])) { s with heap := s.heap.push { cls := .type "list", dict := none, data := .seq ([] : List Value).toArray } } := I.lnew (its := []) (t' := s.toks) .nil (Nat.zero_le _)
  generalize hs3 : ({ s with heap := s.heap.push { cls := .type "list", dict := none, data := .seq ([] : List Value).toArray } } : Shared) = s3 at I3
  have e3 : s.heap.push { cls := .type "list", dict := none, data := .seq ([] : List Value).toArray } = s3.heap := by rw [← hs3]
  rw [e3] at hns₁ hsb₁ ⊢
  have sz3 : s3.heap.objs.size = s.heap.objs.size + 1 := by rw [← e3, Heap.size_push]
  have le3 : s.heap.objs.size ≤ s3.heap.objs.size := by rw [sz3]; exact Nat.le_succ _
  have fplt : ∀ b ∈ fp, b < s.heap.objs.size := fun b hb => by
    obtain ⟨o, e, _⟩ := T.obj 0 _ st b hb
    exact Heap.lt_size e
  have hf3 : ∀ b ∈ fp, FpOk X pins (upd H s.heap.objs.size (.lst [])) b := fun b hb => ⟨by rw [upd_ne (Nat.ne_of_lt (fplt b hb))]; exact (hf b hb).1, (hf b hb).2⟩
  have k1 : ∀ b o, s3.heap.get? b = some o → h₁.get? b = some o := fun b o e => by
    rw [hsb₁.2 b (Nat.ne_of_lt (Heap.lt_size e))]
    exact Heap.get?_push_of_some _ e
  have k0 : ∀ b o, s.heap.get? b = some o → h₁.get? b = some o := fun b o e => k1 b o (by rw [← e3]; exact Heap.get?_push_of_some _ e)
  obtain ⟨W, ⟨m0, w0⟩, turn⟩ := hq
  obtain ⟨hg, ht, he⟩ := hb s3 (upd H s.heap.objs.size (.lst [])) fp
  have no : ∀ {P : Value → Shared → Prop} (e : Value) (s' : Shared), False → P e s' := fun _ _ f => f.elim
  have stat : ∀ {H' : Hp}, (∀ b ∈ fp, H' b = none) → ∀ b ∈ fp, FpOk (compCx X scope N' s3 (upd H s.heap.objs.size (.lst [])) fp) [] H' b := fun hn b hb =>
    ⟨hn b hb, Nat.ne_of_lt (Nat.lt_of_lt_of_le (fplt b hb) le3), fun z => by
      rcases List.mem_cons.mp (I3.stkSub b z) with z | z
      · exact (hf b hb).2.1 z
      · exact (hf b hb).2.2.1 z, .inl hb, fun x c e => (hf b hb).2.2.2.2.1 x c (clOf_in (ck.cells I.ok) e), fun p hp => absurd (show p ∈ ([] : List (Addr × Obj)) from hp) (by simp)⟩
  have loop : ∀ tk : Nat, codeAny (model X.prog X.w) X.A (.compLoop (.ListComp elt [⟨tg, iter, ifs, 0⟩] scope pos) 0 (.ref it) (.ref s.heap.objs.size) (compEnvC scope (clOf scope X.env) s3.heap.objs.size X.env))
      (RR (.ref s.heap.objs.size) s3.heap.objs.size) { s3 with heap := h₁, toks := tk } := by
    intro tk
    have I4 : Inv (compCx X scope N' s3 (upd H s.heap.objs.size (.lst [])) fp) [] (inSt mp σ) (upd H s.heap.objs.size (.lst [])) { s3 with heap := h₁, toks := tk } :=
      I3.inner ck hf3 (fun b hb => Nat.lt_of_lt_of_le (fplt b hb) le3) (by simpa using hns₁) k1
    refine codeAny_compLoop_gen (fun n s' => ∃ i H', Inv (compCx X scope N' s3 (upd H s.heap.objs.size (.lst [])) fp) [] (inSt mp σ) H' s' ∧ tn i s'.heap ∧ (∀ b ∈ fp, H' b = none) ∧ W i n H') ?_ m0
      ⟨0, _, I4, T.keep _ _ _ st fun b _ o e => k0 b o e, fun b hb => (hf3 b hb).1, w0⟩
    rintro n s5 ⟨i, H5, I5, st5, fr5, w5⟩
    rcases turn i n H5 w5 with ⟨stop, fin⟩ | ⟨go, Nx, hN, step⟩
    · refine thn (T.done (compCx X scope N' s3 (upd H s.heap.objs.size (.lst [])) fp) rfl rfl rfl hc i [] s5 (inSt mp σ) H5 _ I5 (stat fr5) st5 stop) fun r s6 ⟨hr, I6⟩ => ?_
      subst hr
      have IO : Inv X pins σ H5 s6 := I3.outer hf3 I6
      obtain ⟨m, hm, _⟩ := I6.loc
      refine hRR _ s6 H5 IO fin ⟨m, hm⟩ I6.free (Nat.ne_of_gt I3.lt) I3.sz (fun x c e => ?_) fun p hp => ?_
      · obtain ⟨v, q⟩ := I3.cell x c e
        exact Nat.ne_of_lt q.lt
      · exact Nat.ne_of_lt (Heap.lt_size (I3.pin p hp).1)
    · refine thn (T.item (compCx X scope N' s3 (upd H s.heap.objs.size (.lst [])) fp) rfl rfl rfl hc i [] s5 (inSt mp σ) H5 _ I5 (stat fr5) st5 go) fun r s6 ⟨u, hr, h6⟩ => ?_
      subst hr
      refine thn h6 fun _ s7 ⟨x, H7, I7, r7, y7, st7, fr7⟩ => ?_
      have I7' := I7.pinned (stat fr7) (T.obj _ _ st7)
      have back : ∀ {σ9 : St} {H9 : Hp} {s9 : Shared}, Inv (compCx X scope N' s3 (upd H s.heap.objs.size (.lst [])) fp) ([] ++ pinsAt fp s7.heap) σ9 H9 s9 → KeepsSt (inSt mp σ) σ9 → Nx H9 →
          ∃ m, m < n ∧ ∃ i H', Inv (compCx X scope N' s3 (upd H s.heap.objs.size (.lst [])) fp) [] (inSt mp σ) H' s9 ∧ tn i s9.heap ∧ (∀ b ∈ fp, H' b = none) ∧ W i m H' := fun {σ9 H9 s9} I9 ks n9 => by
        obtain ⟨m', hm, w9⟩ := hN H9 n9
        refine ⟨m', hm, i + 1, H9, (Inv.unpinned (pins := []) I9).weak ks.1.symm ks.2, T.keep _ _ _ st7 fun b hb o e => (I9.pin (b, o) (List.mem_append_right _ (List.mem_append_right _ (mem_pinsAt hb e)))).1, fun b hb => ?_, w9⟩
        obtain ⟨o, e, d⟩ := T.obj _ _ st7 b hb
        exact (I9.pin (b, o) (List.mem_append_right _ (List.mem_append_right _ (mem_pinsAt hb e)))).2.1
      refine thn (hg _ s7 (inSt mp σ) H7 x u _ I7' r7 (step x H7 y7)) fun _ s8 ⟨σ8, H8, I8, ks, q8⟩ => ?_
      refine thn (ht _ s8 σ8 H8 _ I8 q8) fun ok s9 ⟨H9, I9, q9⟩ => ?_
      cases ok with
      | false =>
        rw [if_neg Bool.false_ne_true] at q9 ⊢
        exact back I9 ks q9
      | true =>
        rw [if_pos rfl] at q9 ⊢
        refine thn (he _ s9 σ8 H9 _ I9 q9) fun y s10 ⟨yv, H10, I10, r10, ys, hD, hlen, nx⟩ => ?_
        refine thn (mt_append _ s10 σ8 H10 (.ref s.heap.objs.size) [yv] (.ref s.heap.objs.size) [y] (fun _ H' => Nx H') I10 rfl (.cons r10 .nil) ⟨_, ys, yv, rfl, rfl, hD, hlen, nx⟩) fun z s11 ⟨zv, H11, I11, _, n11⟩ => ?_
        exact back I11 ks n11
  subst hs3
  exact codeAny_compStart_list (loop _) (T.self _ 0 _ _ _ (T.keep _ _ _ st fun b _ o e => k0 b o e) (loop _))
theorem pe_comp (hc : X.calm = true) (ck : CompSc X scope N' mp) (hi : PI X tg iter wi)
    (hb : ∀ s H fp, PG (compCx X scope N' s H fp) tg g ∧ PTs (compCx X scope N' s H fp) ifs tt ∧ PE (compCx X scope N' s H fp) elt te)
    (hs : ∀ x, foldedSetIterable iter X.env x = pure x := by intro _; rfl) : PE X (.ListComp elt [⟨tg, iter, ifs, 0⟩] scope pos) (tComp mp wi g tt te) := by
  intro pins s σ H Q I h
  rw [eval_ListComp]
  refine wpAny_comprehension_free (use := none) rfl hs (closureFor_eq (ck.cells I.ok)) ck.kind ck.names ?_
  refine thn (hi pins s σ H _ I h) fun v s1 h1 => thn h1 fun itv s2 h2 => ?_
  obtain ⟨it, fp, tn, J, H2, e, I2, T, st2, f2, q2⟩ := h2
  subst e
  refine comp_block hc ck hb I2 T st2 f2 (q2 _ (I2.hok.fresh (Nat.le_refl _))) fun C s' H' I' fin hm hC h1 h2 h3 h4 => ?_
  obtain ⟨m, hm⟩ := hm
  refine ⟨m, hm, fun h' sb => ⟨.ref _, H', ?_, rfl, fin⟩⟩
  exact I'.turned (t' := s'.toks) (fun b o hb e => (sb.2 b hb).trans e) hC h1 (.inr h2) h3 h4
theorem ps_setComp {i : Nat} {y : Str} {py spos : Pos} (hc : X.calm = true) (hN : X.N.Nodup) (hiy : X.N[i]? = some y) (hy : X.env.scope.names.lookup y = some .local) (ck : CompSc X scope N' mp) (hi : PI X tg iter wi)
    (hb : ∀ s H fp, PG (compCx X scope N' s H fp) tg g ∧ PTs (compCx X scope N' s H fp) ifs tt ∧ PE (compCx X scope N' s H fp) elt te)
    (hsw : swapsWith (.ListComp elt [⟨tg, iter, ifs, 0⟩] scope pos) (some (.Name y py)) spos.line X.env = pure true := by rfl)
    (hs : ∀ x, foldedSetIterable iter X.env x = pure x := by intro _; rfl) :
    PS X (.Assign [.Name y py] (.ListComp elt [⟨tg, iter, ifs, 0⟩] scope pos) spos) (tAsg (tComp mp wi g tt te) (gName i)) := by
  intro pins s σ H D I h
  rw [exec_Assign_Name_used _ _ _ _ hsw]
  refine wpAny_bind (wpAny_standAt (wpAny_bind ?_))
  show wpAny _ X.A (do let _ ← comprehension (.ListComp elt [⟨tg, iter, ifs, 0⟩] scope pos) scope X.env _ (newList []) false (eval iter X.env) (some (assign (.Name y py) X.env))) _ _ s
  refine wpAny_bind (wpAny_mono (wpAny_comprehension_free (use := some (assign (.Name y py) X.env)) (Q := fun _ s' => SP X pins D .next s') rfl hs (closureFor_eq (ck.cells I.ok)) ck.kind ck.names ?_) (fun _ s' hq => wpAny_pure (wpAny_pure hq)) fun _ _ e => e)
  refine thn (hi pins s σ H _ I h) fun v s1 h1 => thn h1 fun itv s2 h2 => ?_
  obtain ⟨it, fp, tn, J, H2, e, I2, T, st2, f2, q2⟩ := h2
  subst e
  refine comp_block hc ck hb I2 T st2 f2 (q2 _ (I2.hok.fresh (Nat.le_refl _))) fun C s' H' I' fin hm hC h1 h2 h3 h4 => ?_
  obtain ⟨m, hm⟩ := hm
  refine wpAny_assign_Name (store_ok2 (v := .ref s2.heap.objs.size) I' hN hiy (.inl hy) rfl (fun s'' I'' ⟨a, sb, ha⟩ => ?_) (.inr hy))
  have hCa : C ≠ a := by
    rcases ha with ha | ha
    · rw [ha]; exact h1
    · exact fun z => h3 _ _ ha z.symm
  refine ⟨m, hm.sameBut sb hCa, fun h' sb' => ⟨_, H', ?_, fin⟩⟩
  exact I''.turned (t' := s''.toks) (fun b o hb e => (sb'.2 b hb).trans e) hC h1 (.inr h2) h3 h4
end
end L2
namespace L2.PU
open PySem PySem.Spec PyProof.Rows
noncomputable def nst : Expr → Bool
  | .Starred _ _ => false
  | _ => true
theorem star_of {e : Expr} {es : List Expr} {env : Env} (h : nst e = true) : starEach (e :: es) env = (false, eval e env) :: starEach es env := by
  cases e <;> first | rfl | cases h
theorem plain_of {pos : Pos} {env : Env} : ∀ {es : List Expr}, es.all nst = true → (backTo pos (starEach es env)).any (·.1) = false
  | [], _ => rfl
  | e :: es, h => by
    rw [List.all_cons, Bool.and_eq_true] at h
    rw [star_of h.1]
    show (false || (backTo pos (starEach es env)).any (·.1)) = false
    rw [plain_of h.2]; rfl
noncomputable def kD : Key → PyData
  | .inl i => .int i
  | .inr x => .str x
mutual
noncomputable def Rel (K : PySem.W.Frag) (F : Hp) : PyData → V → Prop
  | .none, v => v = .non
  | .bool b, v => v = .bl b
  | .int i, v => v = .int i
  | .str x, v => v = .str x
  | .tuple ds, v => ∃ a xs, v = .ref a ∧ SqT K F a xs ∧ RelL K F ds xs
  | .list ds, v => ∃ a xs, v = .ref a ∧ SqL K F a xs ∧ RelL K F ds xs
  | .dict es, v => ∃ a ks, v = .ref a ∧ Rd F a (.dK ks) ∧ RelD K F es ks
noncomputable def RelL (K : PySem.W.Frag) (F : Hp) : List PyData → List V → Prop
  | [], xs => xs = []
  | d :: ds, xs => ∃ x r, xs = x :: r ∧ Rel K F d x ∧ RelL K F ds r
noncomputable def RelD (K : PySem.W.Frag) (F : Hp) : List (PyData × PyData) → List (Key × V) → Prop
  | [], ks => ks = []
  | (d, e) :: es, ks => ∃ k x r, ks = (k, x) :: r ∧ d = kD k ∧ Rel K F e x ∧ RelD K F es r
end
section
variable {K : PySem.W.Frag} {F F' H H' : Hp}
theorem same_seqT {a : Addr} {xs : List V} (e : Same H H') (h : SqT K H a xs) : SqT K H' a xs := by
  rcases h with (h | ⟨o, h⟩) | h
  · exact .inl (.inl (e _ _ h))
  · exact .inl (.inr ⟨o, e _ _ h⟩)
  · exact .inr h
theorem rd_mono {a : Addr} {u : HO} (e : Same F F') (h : Rd F a u) : Rd F' a u := h.elim (fun h => .inl (e _ _ h)) fun ⟨o, h⟩ => .inr ⟨o, e _ _ h⟩
theorem same_new {p : Addr} (h : H p = none) (o : HO) : Same H (upd H p o) := fun b u q => by rw [upd_ne (ne_of_none q h)]; exact q
mutual
theorem Rel.mono (e : Same F F') : ∀ {d : PyData} {v : V}, Rel K F d v → Rel K F' d v
  | .none, v, h => by unfold Rel at h ⊢; exact h
  | .bool b, v, h => by unfold Rel at h ⊢; exact h
  | .int i, v, h => by unfold Rel at h ⊢; exact h
  | .str x, v, h => by unfold Rel at h ⊢; exact h
  | .tuple ds, v, h => by
    unfold Rel at h ⊢
    obtain ⟨a, xs, h1, h2, h3⟩ := h
    exact ⟨a, xs, h1, same_seqT e h2, RelL.mono e h3⟩
  | .list ds, v, h => by
    unfold Rel at h ⊢
    obtain ⟨a, xs, h1, h2, h3⟩ := h
    exact ⟨a, xs, h1, e.seq h2, RelL.mono e h3⟩
  | .dict es, v, h => by
    unfold Rel at h ⊢
    obtain ⟨a, ks, h1, h2, h3⟩ := h
    exact ⟨a, ks, h1, rd_mono e h2, RelD.mono e h3⟩
theorem RelL.mono (e : Same F F') : ∀ {ds : List PyData} {xs : List V}, RelL K F ds xs → RelL K F' ds xs
  | [], xs, h => by unfold RelL at h ⊢; exact h
  | d :: ds, xs, h => by
    unfold RelL at h ⊢
    obtain ⟨x, r, h1, h2, h3⟩ := h
    exact ⟨x, r, h1, Rel.mono e h2, RelL.mono e h3⟩
theorem RelD.mono (e : Same F F') : ∀ {es : List (PyData × PyData)} {ks : List (Key × V)}, RelD K F es ks → RelD K F' es ks
  | [], ks, h => by unfold RelD at h ⊢; exact h
  | (d, e') :: es, ks, h => by
    unfold RelD at h ⊢
    obtain ⟨k, x, r, h1, h2, h3, h4⟩ := h
    exact ⟨k, x, r, h1, h2, Rel.mono e h3, RelD.mono e h4⟩
end
theorem Rel.dct {es : List (PyData × PyData)} {v : V} (h : Rel K F (.dict es) v) : ∃ a ks, v = .ref a ∧ Rd F a (.dK ks) ∧ RelD K F es ks := by unfold Rel at h; exact h
theorem rel_dct {es : List (PyData × PyData)} {a : Addr} {ks : List (Key × V)} (h : Rd F a (.dK ks)) (r : RelD K F es ks) : Rel K F (.dict es) (.ref a) := by unfold Rel; exact ⟨a, ks, rfl, h, r⟩
noncomputable def prs (kvs : List (Key × PyData)) : List (PyData × PyData) := kvs.map fun e => (kD e.1, e.2)
theorem RelL.nil : RelL K F [] [] := by unfold RelL; rfl
theorem RelL.cons {d : PyData} {ds : List PyData} {x : V} {xs : List V} (h : Rel K F d x) (t : RelL K F ds xs) : RelL K F (d :: ds) (x :: xs) := by unfold RelL; exact ⟨x, xs, rfl, h, t⟩
theorem RelL.nil_of {xs : List V} (h : RelL K F [] xs) : xs = [] := by unfold RelL at h; exact h
theorem RelL.cons_of {d : PyData} {ds : List PyData} {xs : List V} (h : RelL K F (d :: ds) xs) : ∃ x r, xs = x :: r ∧ Rel K F d x ∧ RelL K F ds r := by unfold RelL at h; exact h
theorem RelL.length : ∀ {ds : List PyData} {xs : List V}, RelL K F ds xs → xs.length = ds.length
  | [], xs, h => by rw [h.nil_of]; rfl
  | d :: ds, xs, h => by
    obtain ⟨x, r, rfl, _, h3⟩ := h.cons_of
    rw [List.length_cons, List.length_cons, RelL.length h3]
theorem RelL.append : ∀ {ds es : List PyData} {xs ys : List V}, RelL K F ds xs → RelL K F es ys → RelL K F (ds ++ es) (xs ++ ys)
  | [], es, xs, ys, h, k => by rw [h.nil_of]; exact k
  | d :: ds, es, xs, ys, h, k => by
    obtain ⟨x, r, rfl, h2, h3⟩ := h.cons_of
    exact RelL.cons h2 (RelL.append h3 k)
theorem RelL.get : ∀ {ds : List PyData} {xs : List V} {i : Nat} {d : PyData}, RelL K F ds xs → ds[i]? = some d → ∃ x, xs[i]? = some x ∧ Rel K F d x
  | [], _, _, _, _, e => by simp at e
  | d :: ds, xs, 0, _, h, e => by
    obtain ⟨x, r, rfl, h2, h3⟩ := h.cons_of
    have e' : d = _ := Option.some.inj e
    exact ⟨x, rfl, e' ▸ h2⟩
  | d :: ds, xs, i + 1, d', h, e => by
    obtain ⟨x, r, rfl, h2, h3⟩ := h.cons_of
    exact RelL.get (i := i) h3 (by simpa using e)
theorem RelL.take : ∀ {ds : List PyData} {xs : List V} (n : Nat), RelL K F ds xs → RelL K F (ds.take n) (xs.take n)
  | _, _, 0, _ => by rw [List.take_zero, List.take_zero]; exact .nil
  | [], xs, n + 1, h => by rw [h.nil_of]; exact .nil
  | d :: ds, xs, n + 1, h => by
    obtain ⟨x, r, rfl, h2, h3⟩ := h.cons_of
    exact RelL.cons h2 (RelL.take n h3)
theorem RelL.drop : ∀ {ds : List PyData} {xs : List V} (n : Nat), RelL K F ds xs → RelL K F (ds.drop n) (xs.drop n)
  | _, _, 0, h => by simpa using h
  | [], xs, n + 1, h => by rw [h.nil_of]; exact .nil
  | d :: ds, xs, n + 1, h => by
    obtain ⟨x, r, rfl, h2, h3⟩ := h.cons_of
    exact RelL.drop n h3
theorem RelL.reverse : ∀ {ds : List PyData} {xs : List V}, RelL K F ds xs → RelL K F ds.reverse xs.reverse
  | [], xs, h => by rw [h.nil_of]; exact .nil
  | d :: ds, xs, h => by
    obtain ⟨x, r, rfl, h2, h3⟩ := h.cons_of
    rw [List.reverse_cons, List.reverse_cons]
    exact RelL.append (RelL.reverse h3) (.cons h2 .nil)
theorem Rel.non {v : V} (h : Rel K F .none v) : v = .non := by unfold Rel at h; exact h
theorem Rel.bl {b : Bool} {v : V} (h : Rel K F (.bool b) v) : v = .bl b := by unfold Rel at h; exact h
theorem Rel.int {i : Int} {v : V} (h : Rel K F (.int i) v) : v = .int i := by unfold Rel at h; exact h
theorem Rel.str {x : Str} {v : V} (h : Rel K F (.str x) v) : v = .str x := by unfold Rel at h; exact h
theorem Rel.tup {ds : List PyData} {v : V} (h : Rel K F (.tuple ds) v) : ∃ a xs, v = .ref a ∧ SqT K F a xs ∧ RelL K F ds xs := by unfold Rel at h; exact h
theorem Rel.lst {ds : List PyData} {v : V} (h : Rel K F (.list ds) v) : ∃ a xs, v = .ref a ∧ SqL K F a xs ∧ RelL K F ds xs := by unfold Rel at h; exact h
theorem rel_non : Rel K F .none .non := by unfold Rel; rfl
theorem rel_bl {b : Bool} : Rel K F (.bool b) (.bl b) := by unfold Rel; rfl
theorem rel_int {i : Int} : Rel K F (.int i) (.int i) := by unfold Rel; rfl
theorem rel_str {x : Str} : Rel K F (.str x) (.str x) := by unfold Rel; rfl
theorem rel_tup {ds : List PyData} {a : Addr} {xs : List V} (h : SqT K F a xs) (r : RelL K F ds xs) : Rel K F (.tuple ds) (.ref a) := by unfold Rel; exact ⟨a, xs, rfl, h, r⟩
theorem rel_lst {ds : List PyData} {a : Addr} {xs : List V} (h : SqL K F a xs) (r : RelL K F ds xs) : Rel K F (.list ds) (.ref a) := by unfold Rel; exact ⟨a, xs, rfl, h, r⟩
theorem RelL.ints : ∀ (ns : List Int), RelL K F (ns.map PyData.int) (ns.map V.int)
  | [] => .nil
  | _ :: r => .cons rel_int (RelL.ints r)
structure Gr (F H F' H' : Hp) : Prop where
  ff : Same F F'
  hh : Same H H'
  fh : Same F' H'
  new : ∀ b, F' b ≠ none → F b ≠ none ∨ H b = none
theorem Gr.refl (h : Same F H) : Gr F H F H := ⟨.refl _, .refl _, h, fun _ q => .inl q⟩
theorem Gr.trans {F1 H1 F2 H2 : Hp} (a : Gr F H F1 H1) (b : Gr F1 H1 F2 H2) : Gr F H F2 H2 :=
  ⟨a.ff.trans b.ff, a.hh.trans b.hh, b.fh, fun c q => (b.new c q).elim (fun q => a.new c q) fun q => .inr (a.hh.free q)⟩
theorem Gr.one {p : Addr} {o : HO} (h : Same F H) (hp : H p = none) : Gr F H (upd F p o) (upd H p o) where
  ff := same_new (h.free hp) o
  hh := same_new hp o
  fh := fun b u q => by
    by_cases e : b = p
    · subst e; rw [upd_same] at q ⊢; exact q
    · rw [upd_ne e] at q ⊢; exact h _ _ q
  new := fun b q => by
    by_cases e : b = p
    · subst e; exact .inr hp
    · rw [upd_ne e] at q; exact .inl q
end
inductive Sl where
  | un
  | val (d : PyData)
  | own (ds : List PyData)
  | odc (kvs : List (Key × PyData))
  | ob (fs : Str → Option PyData)
noncomputable abbrev En := List Sl
noncomputable def isOwn : Sl → Bool
  | .own _ => true
  | .odc _ => true
  | _ => false
noncomputable def CellR (K : PySem.W.Frag) (F : Hp) : Sl → HO → Prop
  | .own ds, o => ∃ xs, o = .lst xs ∧ RelL K F ds xs
  | .odc kvs, o => ∃ ks, o = .dK ks ∧ RelD K F (prs kvs) ks
  | _, _ => False
noncomputable def ObF (K : PySem.W.Frag) (C : Addr) (F : Hp) (fs : Str → Option PyData) (xs : List (Str × V)) : Prop := ∀ f d, fs f = some d → NoAttr K C f ∧ ∃ v, xs.lookup f = some v ∧ Rel K F d v
structure EnR (K : PySem.W.Frag) (He F H : Hp) (σ : St) (η : En) : Prop where
  len : η.length = σ.length
  val : ∀ (i : Nat) d, η[i]? = some (.val d) → ∃ v, σ[i]? = some (some v) ∧ Rel K F d v
  cel : ∀ (i : Nat) sl, η[i]? = some sl → isOwn sl = true → ∃ p o, σ[i]? = some (some (.ref p)) ∧ F p = none ∧ He p = none ∧ H p = some o ∧ CellR K F sl o
  apart : ∀ (i j : Nat) a b, η[i]? = some a → η[j]? = some b → isOwn a = true → isOwn b = true → i ≠ j → σ[i]? ≠ σ[j]?
  obs : ∀ (i : Nat) fs, η[i]? = some (.ob fs) → ∃ p C dx xs, σ[i]? = some (some (.ref p)) ∧ H p = some (.ins C dx xs) ∧ Cls K C ∧ ObF K C F fs xs
structure Bd where
  F : Hp
  H : Hp
structure SR (K : PySem.W.Frag) (B : Bd) (F H : Hp) (σ : St) (η : En) : Prop where
  gr : Gr B.F B.H F H
  en : EnR K B.H F H σ η
section
variable {K : PySem.W.Frag} {B : Bd} {F H F' H' : Hp} {σ : St} {η : En}
theorem CellR.mono (e : Same F F') : ∀ {sl : Sl} {o : HO}, CellR K F sl o → CellR K F' sl o
  | .own _, _, ⟨xs, h1, h2⟩ => ⟨xs, h1, h2.mono e⟩
  | .odc _, _, ⟨xs, h1, h2⟩ => ⟨xs, h1, h2.mono e⟩
  | .un, _, h => h.elim
  | .val _, _, h => h.elim
  | .ob _, _, h => h.elim
theorem ObF.mono {C : Addr} {fs : Str → Option PyData} {xs : List (Str × V)} (e : Same F F') (h : ObF K C F fs xs) : ObF K C F' fs xs := fun f d q => let ⟨a, v, b, c⟩ := h f d q; ⟨a, v, b, c.mono e⟩
theorem CellR.noins {sl : Sl} {o : HO} (h : CellR K F sl o) (C dx : Addr) (xs : List (Str × V)) : o ≠ .ins C dx xs := by
  cases sl with
  | own ds => obtain ⟨ys, rfl, _⟩ := h; intro z; cases z
  | odc ds => obtain ⟨ys, rfl, _⟩ := h; intro z; cases z
  | un => exact h.elim
  | val _ => exact h.elim
  | ob _ => exact h.elim
theorem EnR.own {He : Hp} (r : EnR K He F H σ η) (i : Nat) (ds : List PyData) (e : η[i]? = some (.own ds)) : ∃ p xs, σ[i]? = some (some (.ref p)) ∧ F p = none ∧ He p = none ∧ H p = some (.lst xs) ∧ RelL K F ds xs := by
  obtain ⟨p, o, h1, h2, h3, h4, xs, rfl, h5⟩ := r.cel i _ e rfl
  exact ⟨p, xs, h1, h2, h3, h4, h5⟩
theorem EnR.odc {He : Hp} (r : EnR K He F H σ η) (i : Nat) (kvs : List (Key × PyData)) (e : η[i]? = some (.odc kvs)) : ∃ p ks, σ[i]? = some (some (.ref p)) ∧ F p = none ∧ He p = none ∧ H p = some (.dK ks) ∧ RelD K F (prs kvs) ks := by
  obtain ⟨p, o, h1, h2, h3, h4, xs, rfl, h5⟩ := r.cel i _ e rfl
  exact ⟨p, xs, h1, h2, h3, h4, h5⟩
theorem EnR.grow {He : Hp} (r : EnR K He F H σ η) (g : Gr F H F' H') : EnR K He F' H' σ η where
  len := r.len
  val := fun i d e => let ⟨v, e1, e2⟩ := r.val i d e; ⟨v, e1, e2.mono g.ff⟩
  cel := fun i sl e hs => by
    obtain ⟨p, o, e1, e2, e3, e4, e5⟩ := r.cel i sl e hs
    refine ⟨p, o, e1, ?_, e3, g.hh _ _ e4, e5.mono g.ff⟩
    cases q : F' p with
    | none => rfl
    | some o =>
      rcases g.new p (by rw [q]; simp) with z | z
      · exact absurd e2 z
      · rw [e4] at z; cases z
  apart := r.apart
  obs := fun i fs e => let ⟨p, C, dx, xs, e1, e2, e3, e4⟩ := r.obs i fs e; ⟨p, C, dx, xs, e1, g.hh _ _ e2, e3, e4.mono g.ff⟩
theorem SR.grow (r : SR K B F H σ η) (g : Gr F H F' H') : SR K B F' H' σ η := ⟨r.gr.trans g, r.en.grow g⟩
theorem SR.same (r : SR K B F H σ η) : Same F H := r.gr.fh
theorem EnR.set {He : Hp} (r : EnR K He F H σ η) (i : Nat) {d : PyData} {v : V} (h : Rel K F d v) : EnR K He F H (σ.set i (some v)) (η.set i (.val d)) where
  len := by rw [List.length_set, List.length_set]; exact r.len
  val := fun j d' e => by
    by_cases hj : i = j
    · subst hj
      by_cases hl : i < η.length
      · rw [List.getElem?_set_self hl] at e
        have e' : d = d' := by injection (Option.some.inj e)
        subst e'
        exact ⟨v, by rw [List.getElem?_set_self (by rw [← r.len]; exact hl)], h⟩
      · rw [List.getElem?_eq_none (by rw [List.length_set]; omega)] at e; cases e
    · rw [List.getElem?_set_ne hj] at e ⊢; exact r.val j d' e
  cel := fun j sl e hs => by
    by_cases hj : i = j
    · subst hj
      by_cases hl : i < η.length
      · rw [List.getElem?_set_self hl] at e
        have e' : Sl.val d = sl := Option.some.inj e
        subst e'
        cases hs
      · rw [List.getElem?_eq_none (by rw [List.length_set]; omega)] at e; cases e
    · rw [List.getElem?_set_ne hj] at e ⊢; exact r.cel j sl e hs
  apart := fun j k a b ej ek ha hb hjk => by
    have no : ∀ (j : Nat) a, (η.set i (.val d))[j]? = some a → isOwn a = true → i ≠ j := fun j a ej ha hj => by
      subst hj
      by_cases hl : i < η.length
      · rw [List.getElem?_set_self hl] at ej
        have e' : Sl.val d = a := Option.some.inj ej
        subst e'
        cases ha
      · rw [List.getElem?_eq_none (by rw [List.length_set]; omega)] at ej; cases ej
    have nj := no j a ej ha
    have nk := no k b ek hb
    rw [List.getElem?_set_ne nj] at ej ⊢
    rw [List.getElem?_set_ne nk] at ek ⊢
    exact r.apart j k a b ej ek ha hb hjk
  obs := fun j fs e => by
    by_cases hj : i = j
    · subst hj
      by_cases hl : i < η.length
      · rw [List.getElem?_set_self hl] at e; cases e
      · rw [List.getElem?_eq_none (by rw [List.length_set]; omega)] at e; cases e
    · rw [List.getElem?_set_ne hj] at e ⊢; exact r.obs j fs e
theorem EnR.setCell {He : Hp} (r : EnR K He F H σ η) (i : Nat) {sl : Sl} {p : Addr} {o : HO} (hsl : isOwn sl = true) (h1 : F p = none) (h2 : He p = none) (h3 : H p = some o) (h4 : CellR K F sl o)
    (h5 : ∀ (j : Nat), σ[j]? = some (some (.ref p)) → ∀ a, η[j]? = some a → isOwn a = false) : EnR K He F H (σ.set i (some (.ref p))) (η.set i sl) where
  len := by rw [List.length_set, List.length_set]; exact r.len
  val := fun j d' e => by
    by_cases hj : i = j
    · subst hj
      by_cases hl : i < η.length
      · rw [List.getElem?_set_self hl] at e
        have e' : sl = .val d' := Option.some.inj e
        subst e'
        cases hsl
      · rw [List.getElem?_eq_none (by rw [List.length_set]; omega)] at e; cases e
    · rw [List.getElem?_set_ne hj] at e ⊢; exact r.val j d' e
  cel := fun j a e ha => by
    by_cases hj : i = j
    · subst hj
      by_cases hl : i < η.length
      · rw [List.getElem?_set_self hl] at e
        have e' : sl = a := Option.some.inj e
        subst e'
        exact ⟨p, o, by rw [List.getElem?_set_self (by rw [← r.len]; exact hl)], h1, h2, h3, h4⟩
      · rw [List.getElem?_eq_none (by rw [List.length_set]; omega)] at e; cases e
    · rw [List.getElem?_set_ne hj] at e ⊢; exact r.cel j a e ha
  apart := fun j k a b ej ek ha hb hjk => by
    by_cases hj : i = j
    · subst hj
      have hl : i < η.length := by
        by_cases hl : i < η.length
        · exact hl
        · rw [List.getElem?_eq_none (by rw [List.length_set]; omega)] at ej; cases ej
      rw [List.getElem?_set_ne hjk] at ek ⊢
      rw [List.getElem?_set_self (by rw [← r.len]; exact hl)]
      exact fun z => by rw [h5 k z.symm b ek] at hb; cases hb
    · by_cases hk : i = k
      · subst hk
        have hl : i < η.length := by
          by_cases hl : i < η.length
          · exact hl
          · rw [List.getElem?_eq_none (by rw [List.length_set]; omega)] at ek; cases ek
        rw [List.getElem?_set_ne hj] at ej ⊢
        rw [List.getElem?_set_self (by rw [← r.len]; exact hl)]
        exact fun z => by rw [h5 j z a ej] at ha; cases ha
      · rw [List.getElem?_set_ne hj] at ej ⊢
        rw [List.getElem?_set_ne hk] at ek ⊢
        exact r.apart j k a b ej ek ha hb hjk
  obs := fun j fs e => by
    by_cases hj : i = j
    · subst hj
      by_cases hl : i < η.length
      · rw [List.getElem?_set_self hl] at e
        have e' : sl = .ob fs := Option.some.inj e
        subst e'
        cases hsl
      · rw [List.getElem?_eq_none (by rw [List.length_set]; omega)] at e; cases e
    · rw [List.getElem?_set_ne hj] at e ⊢; exact r.obs j fs e
theorem EnR.setOwn {He : Hp} (r : EnR K He F H σ η) (i : Nat) {ds : List PyData} {p : Addr} {xs : List V} (h1 : F p = none) (h2 : He p = none) (h3 : H p = some (.lst xs)) (h4 : RelL K F ds xs)
    (h5 : ∀ (j : Nat), σ[j]? = some (some (.ref p)) → ∀ a, η[j]? = some a → isOwn a = false) : EnR K He F H (σ.set i (some (.ref p))) (η.set i (.own ds)) := r.setCell i rfl h1 h2 h3 ⟨xs, rfl, h4⟩ h5
theorem EnR.notown {He : Hp} (r : EnR K He F H σ η) {p : Addr} (h : H p = none) : ∀ (j : Nat), σ[j]? = some (some (.ref p)) → ∀ a, η[j]? = some a → isOwn a = false := fun j e a z => by
  cases ha : isOwn a with
  | false => rfl
  | true =>
    obtain ⟨q, o, e1, _, _, e4, _⟩ := r.cel j a z ha
    rw [e] at e1
    have : p = q := by injection (Option.some.inj (Option.some.inj e1))
    rw [this, e4] at h; cases h
theorem EnR.putCell {He : Hp} (r : EnR K He F H σ η) {i : Nat} {sl sl' : Sl} {p : Addr} {o : HO} (hi : η[i]? = some sl) (hs : isOwn sl = true) (hs' : isOwn sl' = true) (hσ : σ[i]? = some (some (.ref p))) (h4 : CellR K F sl' o) :
    EnR K He F (upd H p o) σ (η.set i sl') where
  len := by rw [List.length_set]; exact r.len
  val := fun j d' e => by
    by_cases hj : i = j
    · subst hj
      rw [List.getElem?_set_self (List.getElem?_eq_some_iff.mp hi).1] at e
      have e' : sl' = .val d' := Option.some.inj e
      subst e'
      cases hs'
    · rw [List.getElem?_set_ne hj] at e; exact r.val j d' e
  cel := fun j a e ha => by
    by_cases hj : i = j
    · subst hj
      rw [List.getElem?_set_self (List.getElem?_eq_some_iff.mp hi).1] at e
      have e' : sl' = a := Option.some.inj e
      subst e'
      obtain ⟨q, o1, e1, e2, e3, e4, e5⟩ := r.cel i sl hi hs
      rw [hσ] at e1
      have : p = q := by injection (Option.some.inj (Option.some.inj e1))
      subst this
      exact ⟨p, o, hσ, e2, e3, upd_same, h4⟩
    · rw [List.getElem?_set_ne hj] at e
      obtain ⟨q, o1, e1, e2, e3, e4, e5⟩ := r.cel j a e ha
      refine ⟨q, o1, e1, e2, e3, ?_, e5⟩
      rw [upd_ne]
      · exact e4
      · intro z
        subst z
        exact r.apart i j sl a hi e hs ha hj (by rw [hσ, e1])
  apart := fun j k a b ej ek ha hb hjk => by
    have aa : ∀ (j : Nat) a, (η.set i sl')[j]? = some a → isOwn a = true → ∃ a', η[j]? = some a' ∧ isOwn a' = true := fun j a e ha => by
      by_cases hj : i = j
      · subst hj; exact ⟨sl, hi, hs⟩
      · rw [List.getElem?_set_ne hj] at e; exact ⟨a, e, ha⟩
    obtain ⟨a', e1, f1⟩ := aa j a ej ha
    obtain ⟨b', e2, f2⟩ := aa k b ek hb
    exact r.apart j k a' b' e1 e2 f1 f2 hjk
  obs := fun j fs e => by
    by_cases hj : i = j
    · subst hj
      rw [List.getElem?_set_self (List.getElem?_eq_some_iff.mp hi).1] at e
      have e' : sl' = .ob fs := Option.some.inj e
      subst e'
      cases hs'
    · rw [List.getElem?_set_ne hj] at e
      obtain ⟨q, C, dx, xs, e1, e2, e3, e4⟩ := r.obs j fs e
      refine ⟨q, C, dx, xs, e1, ?_, e3, e4⟩
      obtain ⟨p', o1, f1, _, _, f4, f5⟩ := r.cel i sl hi hs
      rw [hσ] at f1
      have : p = p' := by injection (Option.some.inj (Option.some.inj f1))
      subst this
      rw [upd_ne]
      · exact e2
      · intro z
        subst z
        rw [f4] at e2
        exact f5.noins _ _ _ (Option.some.inj e2)
theorem EnR.putOwn {He : Hp} (r : EnR K He F H σ η) {i : Nat} {ds es : List PyData} {p : Addr} {ys : List V} (hi : η[i]? = some (.own ds)) (hσ : σ[i]? = some (some (.ref p))) (h4 : RelL K F es ys) :
    EnR K He F (upd H p (.lst ys)) σ (η.set i (.own es)) := r.putCell hi rfl rfl hσ ⟨ys, rfl, h4⟩
theorem SR.freezeCell (r : SR K B F H σ η) {i : Nat} {sl : Sl} {d : PyData} {p : Addr} {o : HO} (hi : η[i]? = some sl) (hs : isOwn sl = true) (e1 : σ[i]? = some (some (.ref p))) (e2 : F p = none) (e3 : B.H p = none) (e4 : H p = some o) (rel : Rel K (upd F p o) d (.ref p)) :
    Same F (upd F p o) ∧ SR K B (upd F p o) H σ (η.set i (.val d)) := by
  have sn := same_new (H := F) e2 o
  refine ⟨sn, ⟨⟨r.gr.ff.trans sn, r.gr.hh, ?_, ?_⟩, ?_⟩⟩
  · intro b u q
    by_cases e : b = p
    · subst e; rw [upd_same] at q; rw [← q]; exact e4
    · rw [upd_ne e] at q; exact r.gr.fh _ _ q
  · intro b q
    by_cases e : b = p
    · subst e; exact .inr e3
    · rw [upd_ne e] at q; exact r.gr.new b q
  · refine ⟨by rw [List.length_set]; exact r.en.len, fun j d' e => ?_, fun j a e ha => ?_, fun j k a b ej ek ha hb hjk => ?_, fun j fs e => ?_⟩
    · by_cases hj : i = j
      · subst hj
        rw [List.getElem?_set_self (List.getElem?_eq_some_iff.mp hi).1] at e
        have e' : d = d' := by injection (Option.some.inj e)
        subst e'
        exact ⟨_, e1, rel⟩
      · rw [List.getElem?_set_ne hj] at e
        obtain ⟨v, q1, q2⟩ := r.en.val j d' e
        exact ⟨v, q1, q2.mono sn⟩
    · by_cases hj : i = j
      · subst hj
        rw [List.getElem?_set_self (List.getElem?_eq_some_iff.mp hi).1] at e
        have e' : Sl.val d = a := Option.some.inj e
        subst e'
        cases ha
      · rw [List.getElem?_set_ne hj] at e
        obtain ⟨q, o1, q1, q2, q3, q4, q5⟩ := r.en.cel j a e ha
        refine ⟨q, o1, q1, ?_, q3, q4, q5.mono sn⟩
        rw [upd_ne]
        · exact q2
        · intro z
          subst z
          exact r.en.apart i j sl a hi e hs ha hj (by rw [e1, q1])
    · have no : ∀ (j : Nat) a, (η.set i (.val d))[j]? = some a → isOwn a = true → i ≠ j := fun j a ej ha hj => by
        subst hj
        rw [List.getElem?_set_self (List.getElem?_eq_some_iff.mp hi).1] at ej
        have e' : Sl.val d = a := Option.some.inj ej
        subst e'
        cases ha
      have nj := no j a ej ha
      have nk := no k b ek hb
      rw [List.getElem?_set_ne nj] at ej
      rw [List.getElem?_set_ne nk] at ek
      exact r.en.apart j k a b ej ek ha hb hjk
    · by_cases hj : i = j
      · subst hj
        rw [List.getElem?_set_self (List.getElem?_eq_some_iff.mp hi).1] at e; cases e
      · rw [List.getElem?_set_ne hj] at e
        obtain ⟨q, C, dx, xs, q1, q2, q3, q4⟩ := r.en.obs j fs e
        exact ⟨q, C, dx, xs, q1, q2, q3, q4.mono sn⟩
theorem SR.freeze (r : SR K B F H σ η) {i : Nat} {ds : List PyData} (hi : η[i]? = some (.own ds)) : ∃ F' p, σ[i]? = some (some (.ref p)) ∧ Same F F' ∧ SR K B F' H σ (η.set i (.val (.list ds))) ∧ Rel K F' (.list ds) (.ref p) := by
  obtain ⟨p, xs, e1, e2, e3, e4, e5⟩ := r.en.own i ds hi
  have rel : Rel K (upd F p (.lst xs)) (.list ds) (.ref p) := rel_lst (SqL.of upd_same) (e5.mono (same_new (H := F) e2 (.lst xs)))
  obtain ⟨h1, h2⟩ := r.freezeCell hi rfl e1 e2 e3 e4 rel
  exact ⟨_, p, e1, h1, h2, rel⟩
theorem SR.freezeD (r : SR K B F H σ η) {i : Nat} {kvs : List (Key × PyData)} (hi : η[i]? = some (.odc kvs)) : ∃ F' p, σ[i]? = some (some (.ref p)) ∧ Same F F' ∧ SR K B F' H σ (η.set i (.val (.dict (prs kvs)))) ∧ Rel K F' (.dict (prs kvs)) (.ref p) := by
  obtain ⟨p, ks, e1, e2, e3, e4, e5⟩ := r.en.odc i kvs hi
  have rel : Rel K (upd F p (.dK ks)) (.dict (prs kvs)) (.ref p) := rel_dct (.inl upd_same) (e5.mono (same_new (H := F) e2 (.dK ks)))
  obtain ⟨h1, h2⟩ := r.freezeCell hi rfl e1 e2 e3 e4 rel
  exact ⟨_, p, e1, h1, h2, rel⟩
end
section
variable (K : PySem.W.Frag) (B : Bd)
noncomputable def tE (f : En → Option PyData) : TE := fun σ H Q => ∃ F η d, SR K B F H σ η ∧ f η = some d ∧ ∀ v F' H', Gr F H F' H' → Rel K F' d v → Q v H'
noncomputable def tO (f : En → Option (List PyData)) : TE := fun σ H Q => ∃ F η ds, SR K B F H σ η ∧ f η = some ds ∧ ∀ p xs F' H', Gr F H F' H' → H p = none → F' p = none → H' p = some (.lst xs) → RelL K F' ds xs → Q (.ref p) H'
noncomputable def tT (f : En → Option Bool) : TT := fun σ H Q => ∃ F η b, SR K B F H σ η ∧ f η = some b ∧ ∀ F' H', Gr F H F' H' → Q b H'
noncomputable def tA (f : En → Option (List PyData)) : TA := fun σ H Q => ∃ F η ds, SR K B F H σ η ∧ f η = some ds ∧ ∀ vs F' H', Gr F H F' H' → RelL K F' ds vs → Q vs H'
end
noncomputable def E (X : Cx) (B : Bd) (e : Expr) (f : En → Option PyData) : Prop := PE X e (tE X.K B f)
noncomputable def EO (X : Cx) (B : Bd) (e : Expr) (f : En → Option (List PyData)) : Prop := PE X e (tO X.K B f)
noncomputable def T (X : Cx) (B : Bd) (e : Expr) (f : En → Option Bool) : Prop := PT X e (tT X.K B f)
noncomputable def TW (X : Cx) (B : Bd) (e : Expr) (f : En → Option Bool) : Prop := PW X e (tT X.K B f)
noncomputable def A (X : Cx) (B : Bd) (es : List Expr) (f : En → Option (List PyData)) : Prop := PA X es (tA X.K B f)
theorem PE.imp {X : Cx} {e : Expr} {t t' : TE} (h : PE X e t) (i : ∀ σ H Q, t' σ H Q → t σ H Q) : PE X e t' := fun pins s σ H Q I q => h pins s σ H Q I (i σ H Q q)
theorem PT.imp {X : Cx} {e : Expr} {t t' : TT} (h : PT X e t) (i : ∀ σ H Q, t' σ H Q → t σ H Q) : PT X e t' := fun pins s σ H Q I q => h pins s σ H Q I (i σ H Q q)
theorem PW.imp {X : Cx} {e : Expr} {t t' : TT} (h : PW X e t) (i : ∀ σ H Q, t' σ H Q → t σ H Q) : PW X e t' := fun wh pins s σ H Q I q => h wh pins s σ H Q I (i σ H Q q)
theorem PA.imp {X : Cx} {e : List Expr} {t t' : TA} (h : PA X e t) (i : ∀ σ H Q, t' σ H Q → t σ H Q) : PA X e t' := fun pos pins s σ H Q I q => h pos pins s σ H Q I (i σ H Q q)
noncomputable def eV (i : Nat) : En → Option PyData := fun η => match η[i]? with | some (.val d) => some d | _ => none
noncomputable def eC (d : PyData) : En → Option PyData := fun _ => some d
noncomputable def l1 (o : PyData → Option PyData) (f : En → Option PyData) : En → Option PyData := fun η => (f η).bind o
noncomputable def l2 (o : PyData → PyData → Option PyData) (f g : En → Option PyData) : En → Option PyData := fun η => (f η).bind fun x => (g η).bind fun y => o x y
noncomputable def aN : En → Option (List PyData) := fun _ => some []
noncomputable def aC (f : En → Option PyData) (g : En → Option (List PyData)) : En → Option (List PyData) := fun η => (f η).bind fun x => (g η).bind fun xs => some (x :: xs)
noncomputable def lA (o : List PyData → Option PyData) (f : En → Option (List PyData)) : En → Option PyData := fun η => (f η).bind o
section
variable {X : Cx} {B : Bd} {a b c e : Expr} {es : List Expr} {f g h : En → Option PyData} {fs : En → Option (List PyData)} {pos : Pos}
theorem bind_some {α β : Type} {o : Option α} {k : α → Option β} {y : β} (h : o.bind k = some y) : ∃ x, o = some x ∧ k x = some y := by
  cases o with
  | none => cases h
  | some x => exact ⟨x, rfl, h⟩
noncomputable def Ad2 (K : PySem.W.Frag) (r : R2) (o : PyData → PyData → Option PyData) : Prop :=
  ∀ F H x y dx dy d Q, Same F H → Rel K F dx x → Rel K F dy y → o dx dy = some d → (∀ v F' H', Gr F H F' H' → Rel K F' d v → Q v H') → r x y H Q
theorem t2 {K : PySem.W.Frag} {r : R2} {o : PyData → PyData → Option PyData} (ad : Ad2 K r o) : ∀ σ H Q, tE K B (l2 o f g) σ H Q → tOp r (tE K B f) (tE K B g) σ H Q := by
  intro σ H Q ⟨F, η, d, sr, hd, q⟩
  obtain ⟨x, hx, hd⟩ := bind_some hd
  obtain ⟨y, hy, hd⟩ := bind_some hd
  refine ⟨F, η, x, sr, hx, fun v F1 H1 g1 rv => ⟨F1, η, y, sr.grow g1, hy, fun u F2 H2 g2 ru => ?_⟩⟩
  exact ad F2 H2 v u x y d Q g2.fh (rv.mono g2.ff) ru hd fun w F3 H3 g3 rw' => q w F3 H3 ((g1.trans g2).trans g3) rw'
theorem E.op {op : Operator} {r : R2} {o : PyData → PyData → Option PyData} (ho : OpR X (binaryOp op) r) (ad : Ad2 X.K r o) (ha : E X B a f) (hb : E X B b g) : E X B (.BinOp a op b pos) (l2 o f g) :=
  PE.imp (pe_op ho ha hb) (t2 ad)
theorem E.cmp {op : CmpOp} {r : R2} {o : PyData → PyData → Option PyData} (ho : OpR X (compareOp op) r) (ad : Ad2 X.K r o) (hm : behindInMarks op b = false) (ha : E X B a f) (hb : E X B b g) : E X B (.Compare a [op] [b] pos) (l2 o f g) :=
  PE.imp (pe_cmpR ho ha hb hm) (t2 ad)
theorem E.ix {r : R2} {o : PyData → PyData → Option PyData} (hr : IxR X r) (ad : Ad2 X.K r o) (ha : E X B a f) (hb : E X B b g) (hs : PlainIx b := by intro _ _; rfl) : E X B (.Subscript a b pos) (l2 o f g) :=
  PE.imp (pe_ix hr ha hb hs) (t2 ad)
theorem E.v (i : Nat) {x : Str} (hN : X.N[i]? = some x := by rfl) (hv : Vis X.env.scope x := by first | exact Or.inl rfl | exact Or.inr (Or.inl rfl) | exact Or.inr (Or.inr rfl)) (hd : (x == ("__debug__" : Str)) = false := by decide)
    (hcd : (x == ("__classdict__" : Str)) = false := by decide) : E X B (.Name x pos) (eV i) :=
  PE.imp (pe_var hN hv hd hcd) fun σ H Q ⟨F, η, d, sr, hd, q⟩ => by
    unfold eV at hd
    split at hd
    · rename_i d' e
      cases hd
      obtain ⟨v, e1, e2⟩ := sr.en.val i d e
      exact ⟨v, e1, q v F H (.refl sr.same) e2⟩
    · cases hd
theorem tC_of {K : PySem.W.Frag} {v : V} {d : PyData} (h : ∀ F, Rel K F d v) : ∀ σ H Q, tE K B (eC d) σ H Q → tC v σ H Q := fun σ H Q ⟨F, η, d', sr, hd, q⟩ => by
  have e : d = d' := Option.some.inj hd
  subst e
  exact q v F H (.refl sr.same) (h F)
theorem E.int {i : Int} {j} : E X B (.Constant (.int i) j pos) (eC (.int i)) := PE.imp pe_int (tC_of fun _ => rel_int)
theorem E.bl {i : Bool} {j} : E X B (.Constant (.bool i) j pos) (eC (.bool i)) := PE.imp pe_bl (tC_of fun _ => rel_bl)
theorem E.non {j} : E X B (.Constant .none j pos) (eC .none) := PE.imp pe_non (tC_of fun _ => rel_non)
theorem E.str {i : Str} {j} : E X B (.Constant (.str i) j pos) (eC (.str i)) := PE.imp pe_str (tC_of fun _ => rel_str)
theorem E.glob {x : Str} {v : V} {u : Value} {d : PyData} (hm : X.mg x = some u) (r : RelV v u) (h : ∀ F, Rel X.K F d v) (hg : Gl X x := by rfl) (hd : (x == ("__debug__" : Str)) = false := by decide) : E X B (.Name x pos) (eC d) :=
  PE.imp (pe_glob hg hm r hd) (tC_of h)
theorem A.nil : A X B [] aN := PA.imp pa_nil fun σ H Q ⟨F, η, d, sr, hd, q⟩ => by
  cases hd
  exact q [] F H (.refl sr.same) .nil
theorem A.cons (ha : E X B e f) (hr : A X B es fs) (hs : starEach (e :: es) X.env = (false, eval e X.env) :: starEach es X.env := by exact star_of rfl) : A X B (e :: es) (aC f fs) := PA.imp (pa_cons ha hr hs) fun σ H Q ⟨F, η, d, sr, hd, q⟩ => by
  obtain ⟨x, hx, hd⟩ := bind_some hd
  obtain ⟨y, hy, hd⟩ := bind_some hd
  cases hd
  exact ⟨F, η, x, sr, hx, fun v F1 H1 g1 rv => ⟨F1, η, y, sr.grow g1, hy, fun vs F2 H2 g2 rs => q (v :: vs) F2 H2 (g1.trans g2) (.cons (rv.mono g2.ff) rs)⟩⟩
noncomputable def gL (ds : List PyData) : Option (List PyData) := if ds.length ≤ sizeLine then some ds else none
theorem E.tup {x1} (hs : A X B es fs) : E X B (.Tuple es x1 pos) (lA (fun ds => if ds.length ≤ sizeLine then some (.tuple ds) else none) fs) := PE.imp (pe_tup hs) fun σ H Q ⟨F, η, d, sr, hd, q⟩ => by
  obtain ⟨ds, hx, hd⟩ := bind_some hd
  split at hd
  · rename_i hl
    cases hd
    refine ⟨F, η, ds, sr, hx, fun vs F1 H1 g1 rs => ⟨by rw [rs.length]; exact hl, fun p hp => ?_⟩⟩
    have g2 : Gr F1 H1 (upd F1 p (.tup vs)) (upd H1 p (.tup vs)) := Gr.one g1.fh hp
    exact q _ _ _ (g1.trans g2) (rel_tup (SqT.of upd_same) (rs.mono g2.ff))
  · cases hd
theorem EO.lst (hs : A X B es fs) : EO X B (.List es pos) (fun η => (fs η).bind gL) := PE.imp (pe_lst hs) fun σ H Q ⟨F, η, ds, sr, hd, q⟩ => by
  obtain ⟨ds', hx, hd⟩ := bind_some hd
  unfold gL at hd
  split at hd
  · rename_i hl
    cases hd
    refine ⟨F, η, ds, sr, hx, fun vs F1 H1 g1 rs => ⟨by rw [rs.length]; exact hl, fun p hp => ?_⟩⟩
    refine q p vs F1 (upd H1 p (.lst vs)) ?_ (g1.hh.free hp) (g1.fh.free hp) upd_same rs
    refine ⟨g1.ff, g1.hh.trans (same_new hp _), fun b u z => ?_, g1.new⟩
    exact same_new hp _ b u (g1.fh b u z)
  · cases hd
noncomputable def oE (f : En → Option (List PyData)) : En → Option PyData := fun η => (f η).bind fun ds => some (.list ds)
theorem EO.toE (he : EO X B e fs) : E X B e (oE fs) := PE.imp he fun σ H Q ⟨F, η, d, sr, hd, q⟩ => by
  obtain ⟨ds, hx, hd⟩ := bind_some hd
  cases hd
  refine ⟨F, η, ds, sr, hx, fun p xs F' H' g1 hp fp hp' rs => ?_⟩
  have sn := same_new (H := F') fp (.lst xs)
  refine q (.ref p) (upd F' p (.lst xs)) H' ⟨g1.ff.trans sn, g1.hh, fun b u z => ?_, fun b z => ?_⟩ (rel_lst (SqL.of upd_same) (rs.mono sn))
  · by_cases e : b = p
    · subst e; rw [upd_same] at z; rw [← z]; exact hp'
    · rw [upd_ne e] at z; exact g1.fh _ _ z
  · by_cases e : b = p
    · subst e; exact .inr hp
    · rw [upd_ne e] at z; exact g1.new b z
noncomputable def asB : PyData → Option Bool
  | .bool b => some b
  | _ => none
noncomputable def bT (f : En → Option PyData) : En → Option Bool := fun η => (f η).bind asB
theorem asB_some {d : PyData} {b : Bool} (h : asB d = some b) : d = .bool b := by
  cases d <;> simp [asB] at h
  rw [h]
theorem T.val (he : E X B e f) (hi : ∀ whole, isTrue e X.env whole = (do let v ← whole; standAt e.pos; holding [v] (truthy v)) := by intro _; rfl) : T X B e (bT f) := PT.imp (pt_val he hi) fun σ H Q ⟨F, η, b, sr, hd, q⟩ => by
  obtain ⟨x, hx, hd⟩ := bind_some hd
  obtain rfl := asB_some hd
  exact ⟨F, η, _, sr, hx, fun v F1 H1 g1 rv => ⟨b, rv.bl, q F1 H1 g1⟩⟩
theorem T.cmp {op : CmpOp} {r : R2} {o : PyData → PyData → Option PyData} (ho : OpR X (compareOp op) r) (ad : Ad2 X.K r o) (hm : behindInMarks op b = false) (ha : E X B a f) (hb : E X B b g) : T X B (.Compare a [op] [b] pos) (bT (l2 o f g)) :=
  PT.imp (pt_cmpR ho ha hb hm) fun σ H Q ⟨F, η, b, sr, hd, q⟩ => by
    obtain ⟨x, hx, hd⟩ := bind_some hd
    obtain rfl := asB_some hd
    exact t2 ad σ H _ ⟨F, η, _, sr, hx, fun v F1 H1 g1 rv => ⟨b, rv.bl, q F1 H1 g1⟩⟩
noncomputable def lch (o o' : PyData → PyData → Option PyData) (f g h : En → Option PyData) : En → Option PyData := fun η => (f η).bind fun x => (g η).bind fun y => (o x y).bind fun z => (asB z).bind fun k =>
  if k = true then (h η).bind fun w => o' y w else some (.bool false)
theorem E.chain {op op' : CmpOp} {r r' : R2} {o o' : PyData → PyData → Option PyData} (ho : OpR X (compareOp op) r) (ad : Ad2 X.K r o) (ho' : OpR X (compareOp op') r') (ad' : Ad2 X.K r' o') (ha : E X B a f) (hb : E X B b g) (hc : E X B c h)
    (hm : lastMarks [op, op'] [b, c] = false := by with_unfolding_all rfl) : E X B (.Compare a [op, op'] [b, c] pos) (lch o o' f g h) := PE.imp (pe_chain ho ho' ha hb hc hm) fun σ H Q ⟨F, η, d, sr, hd, q⟩ => by
  obtain ⟨x, hx, hd⟩ := bind_some hd
  obtain ⟨y, hy, hd⟩ := bind_some hd
  obtain ⟨z, hz, hd⟩ := bind_some hd
  obtain ⟨k, hk, hd2⟩ := bind_some hd
  clear hd
  obtain rfl := asB_some hk
  have hd := hd2
  refine ⟨F, η, x, sr, hx, fun v F1 H1 g1 rv => ⟨F1, η, y, sr.grow g1, hy, fun u F2 H2 g2 ru => ?_⟩⟩
  refine ad F2 H2 v u x y _ _ g2.fh (rv.mono g2.ff) ru hz fun w F3 H3 g3 rw' => ⟨k, rw'.bl, ?_⟩
  cases k with
  | false =>
    rw [if_neg Bool.false_ne_true] at hd ⊢
    cases hd
    exact q _ F3 H3 ((g1.trans g2).trans g3) rel_bl
  | true =>
    rw [if_pos rfl] at hd ⊢
    obtain ⟨w2, hw2, hd⟩ := bind_some hd
    refine ⟨F3, η, w2, (sr.grow (g1.trans g2)).grow g3, hw2, fun t F4 H4 g4 rt => ?_⟩
    exact ad' F4 H4 u t y w2 d Q g4.fh (ru.mono (g3.ff.trans g4.ff)) rt hd fun w5 F5 H5 g5 r5 => q w5 F5 H5 (((g1.trans g2).trans g3).trans (g4.trans g5)) r5
theorem T.chain {op op' : CmpOp} {r r' : R2} {o o' : PyData → PyData → Option PyData} (ho : OpR X (compareOp op) r) (ad : Ad2 X.K r o) (ho' : OpR X (compareOp op') r') (ad' : Ad2 X.K r' o') (ha : E X B a f) (hb : E X B b g) (hc : E X B c h)
    (hm : lastMarks [op, op'] [b, c] = false := by with_unfolding_all rfl) : T X B (.Compare a [op, op'] [b, c] pos) (bT (lch o o' f g h)) := PT.imp (pt_chain ho ho' ha hb hc hm) fun σ H Q ⟨F, η, d', sr, hd', q'⟩ => by
  obtain ⟨d, hd, hdb⟩ := bind_some hd'
  obtain rfl := asB_some hdb
  obtain ⟨x, hx, hd⟩ := bind_some hd
  obtain ⟨y, hy, hd⟩ := bind_some hd
  obtain ⟨z, hz, hd⟩ := bind_some hd
  obtain ⟨k, hk, hd2⟩ := bind_some hd
  clear hd
  obtain rfl := asB_some hk
  have hd := hd2
  refine ⟨F, η, x, sr, hx, fun v F1 H1 g1 rv => ⟨F1, η, y, sr.grow g1, hy, fun u F2 H2 g2 ru => ?_⟩⟩
  refine ad F2 H2 v u x y _ _ g2.fh (rv.mono g2.ff) ru hz fun w F3 H3 g3 rw' => ⟨k, rw'.bl, ?_⟩
  cases k with
  | false =>
    rw [if_neg Bool.false_ne_true] at hd ⊢
    cases hd
    exact ⟨_, rfl, q' F3 H3 ((g1.trans g2).trans g3)⟩
  | true =>
    rw [if_pos rfl] at hd ⊢
    obtain ⟨w2, hw2, hd⟩ := bind_some hd
    refine ⟨F3, η, w2, (sr.grow (g1.trans g2)).grow g3, hw2, fun t F4 H4 g4 rt => ?_⟩
    exact ad' F4 H4 u t y w2 _ _ g4.fh (ru.mono (g3.ff.trans g4.ff)) rt hd fun w5 F5 H5 g5 r5 => ⟨_, r5.bl, q' F5 H5 (((g1.trans g2).trans g3).trans (g4.trans g5))⟩
noncomputable def bAnd (f g : En → Option Bool) : En → Option Bool := fun η => (f η).bind fun c => if c = true then g η else some false
noncomputable def bOr (f g : En → Option Bool) : En → Option Bool := fun η => (f η).bind fun c => if c = true then some true else g η
noncomputable def bNot (f : En → Option Bool) : En → Option Bool := fun η => (f η).bind fun c => some (!c)
variable {p q r : En → Option Bool} {rest : List Expr}
theorem T.not (ha : T X B a p) : T X B (.UnaryOp .Not a pos) (bNot p) := PT.imp (pt_not ha) fun σ H Q ⟨F, η, b, sr, hd, q⟩ => by
  obtain ⟨x, hx, hd⟩ := bind_some hd
  cases hd
  exact ⟨F, η, x, sr, hx, q⟩
theorem TW.t (h : TW X B a p) : T X B a p := PW.pt h
theorem TW.and1 (ha : T X B a p) : TW X B (.BoolOp .And [a] pos) p := pw_and1 ha
theorem TW.or1 (ha : T X B a p) : TW X B (.BoolOp .Or [a] pos) p := pw_or1 ha
theorem TW.and (ha : T X B a p) (hb : TW X B (.BoolOp .And (b :: rest) pos) q) : TW X B (.BoolOp .And (a :: b :: rest) pos) (bAnd p q) := PW.imp (pw_and ha hb) fun σ H Q ⟨F, η, b, sr, hd, k⟩ => by
  obtain ⟨x, hx, hd⟩ := bind_some hd
  refine ⟨F, η, x, sr, hx, fun F1 H1 g1 => ?_⟩
  cases x with
  | false =>
    rw [if_neg Bool.false_ne_true] at hd ⊢
    cases hd
    exact k F1 H1 g1
  | true =>
    rw [if_pos rfl] at hd ⊢
    exact ⟨F1, η, b, sr.grow g1, hd, fun F2 H2 g2 => k F2 H2 (g1.trans g2)⟩
theorem TW.or (ha : T X B a p) (hb : TW X B (.BoolOp .Or (b :: rest) pos) q) : TW X B (.BoolOp .Or (a :: b :: rest) pos) (bOr p q) := PW.imp (pw_or ha hb) fun σ H Q ⟨F, η, b, sr, hd, k⟩ => by
  obtain ⟨x, hx, hd⟩ := bind_some hd
  refine ⟨F, η, x, sr, hx, fun F1 H1 g1 => ?_⟩
  cases x with
  | false =>
    rw [if_neg Bool.false_ne_true] at hd ⊢
    exact ⟨F1, η, b, sr.grow g1, hd, fun F2 H2 g2 => k F2 H2 (g1.trans g2)⟩
  | true =>
    rw [if_pos rfl] at hd ⊢
    cases hd
    exact k F1 H1 g1
noncomputable def vAnd (f g : En → Option PyData) : En → Option PyData := fun η => (f η).bind fun x => (asB x).bind fun c => if c = true then g η else some (.bool false)
noncomputable def vOr (f g : En → Option PyData) : En → Option PyData := fun η => (f η).bind fun x => (asB x).bind fun c => if c = true then some (.bool true) else g η
noncomputable def vNot (f : En → Option PyData) : En → Option PyData := fun η => (f η).bind fun x => (asB x).bind fun c => some (.bool (!c))
theorem E.one {op} (ha : E X B a f) : E X B (.BoolOp op [a] pos) f := pe_one ha
theorem E.and (ha : E X B a f) (hb : E X B (.BoolOp .And (b :: rest) pos) g) : E X B (.BoolOp .And (a :: b :: rest) pos) (vAnd f g) := PE.imp (pe_and ha hb) fun σ H Q ⟨F, η, b, sr, hd, k⟩ => by
  obtain ⟨x, hx, hd⟩ := bind_some hd
  obtain ⟨c, hc, hd2⟩ := bind_some hd
  clear hd
  obtain rfl := asB_some hc
  have hd := hd2
  refine ⟨F, η, _, sr, hx, fun v F1 H1 g1 rv => ⟨c, rv.bl, ?_⟩⟩
  cases c with
  | false =>
    rw [if_neg Bool.false_ne_true] at hd ⊢
    cases hd
    exact k _ F1 H1 g1 rel_bl
  | true =>
    rw [if_pos rfl] at hd ⊢
    exact ⟨F1, η, b, sr.grow g1, hd, fun u F2 H2 g2 => k u F2 H2 (g1.trans g2)⟩
theorem E.not (ha : E X B a f) : E X B (.UnaryOp .Not a pos) (vNot f) := PE.imp (pe_not ha) fun σ H Q ⟨F, η, b, sr, hd, k⟩ => by
  obtain ⟨x, hx, hd⟩ := bind_some hd
  obtain ⟨c, hc, hd2⟩ := bind_some hd
  clear hd
  obtain rfl := asB_some hc
  have hd := hd2
  cases hd
  exact ⟨F, η, _, sr, hx, fun v F1 H1 g1 rv => ⟨c, rv.bl, k _ F1 H1 g1 rel_bl⟩⟩
noncomputable def vIf (c : En → Option Bool) (f g : En → Option PyData) : En → Option PyData := fun η => (c η).bind fun c => if c = true then f η else g η
noncomputable def spP (K : PySem.W.Frag) (fn : List PyData → Option PyData) : Sp := fun vs H Q _ => ∃ F ds d, Same F H ∧ RelL K F ds vs ∧ fn ds = some d ∧ ∀ v F' H', Gr F H F' H' → Rel K F' d v → Q v H'
theorem E.call {k k' : Nat} {fa : Addr} {fd : FuncData} {ps : List Str} {x : Str} {ppos : Pos} {fn : List PyData → Option PyData} (G : FnOk X.prog X.w X.K X.mg X.base CX0 k fa fd ps (spP X.K fn)) (hr : Room k' X.A) (hkk : k ≤ k') (hm : X.mg x = some (.ref fa)) (hk : PySem.W.keepIn X.K (.ref fa) = true) (hb : Binds X.K fd ps [])
    (ha : A X B (e :: es) fs) (hg : Gl X x := by rfl) (hdb : (x == ("__debug__" : Str)) = false := by decide) (he : starEach (e :: es) X.env = (false, eval e X.env) :: starEach es X.env := by exact star_of rfl) (hpl : (backTo pos (starEach es X.env)).any (·.1) = false := by exact plain_of rfl) :
    E X B (.Call (.Name x ppos) (e :: es) [] pos) (lA fn fs) := PE.imp (pe_call G (hr.mono hkk) hg hm hk hb .nil pass0 ha hdb he hpl) fun σ H Q ⟨F, η, d, sr, hd, q⟩ => by
  obtain ⟨ds, hx, hd⟩ := bind_some hd
  refine ⟨F, η, ds, sr, hx, fun vs F1 H1 g1 rs => ?_⟩
  show spP X.K fn (vs ++ []) H1 Q E0
  rw [List.append_nil]
  exact ⟨F1, ds, d, g1.fh, rs, hd, fun v F2 H2 g2 rv => q v F2 H2 (g1.trans g2) rv⟩
end
inductive Out where
  | nx (η : En)
  | rt (d : PyData)
  | bk (η : En)
  | ct (η : En)
noncomputable def OutOk (K : PySem.W.Frag) (B : Bd) (F : Hp) (D : Ends) : Out → Prop
  | .nx η => ∀ σ' F' H', SR K B F' H' σ' η → Same F F' → D.nx σ' H'
  | .rt d => ∀ v F' H', Gr B.F B.H F' H' → Rel K F' d v → D.rt v H'
  | .bk η => ∀ σ' F' H', SR K B F' H' σ' η → Same F F' → D.bk σ' H'
  | .ct η => ∀ σ' F' H', SR K B F' H' σ' η → Same F F' → D.ct σ' H'
noncomputable def tS (K : PySem.W.Frag) (B : Bd) (f : En → Option Out) : TS := fun D σ H => ∃ F η o, SR K B F H σ η ∧ f η = some o ∧ OutOk K B F D o
noncomputable def S (X : Cx) (B : Bd) (st : Stmt) (f : En → Option Out) : Prop := PS X st (tS X.K B f)
noncomputable def Ss (X : Cx) (B : Bd) (st : List Stmt) (f : En → Option Out) : Prop := PSs X st (tS X.K B f)
theorem PS.imp {X : Cx} {e : Stmt} {t t' : TS} (h : PS X e t) (i : ∀ D σ H, t' D σ H → t D σ H) : PS X e t' := fun pins s σ H D I q => h pins s σ H D I (i D σ H q)
theorem PSs.imp {X : Cx} {e : List Stmt} {t t' : TS} (h : PSs X e t) (i : ∀ D σ H, t' D σ H → t D σ H) : PSs X e t' := fun pins s σ H D I q => h pins s σ H D I (i D σ H q)
theorem OutOk.up {K : PySem.W.Frag} {B : Bd} {F F1 : Hp} {D : Ends} {o : Out} (h : OutOk K B F D o) (s : Same F F1) : OutOk K B F1 D o := by
  cases o with
  | nx η => exact fun σ' F' H' r e => h σ' F' H' r (s.trans e)
  | rt d => exact h
  | bk η => exact fun σ' F' H' r e => h σ' F' H' r (s.trans e)
  | ct η => exact fun σ' F' H' r e => h σ' F' H' r (s.trans e)
noncomputable def sNx : En → Option Out := fun η => some (.nx η)
noncomputable def sSeq (f g : En → Option Out) : En → Option Out := fun η => (f η).bind fun o => match o with
  | .nx η' => g η'
  | o => some o
noncomputable def sRet (f : En → Option PyData) : En → Option Out := fun η => (f η).bind fun d => some (.rt d)
noncomputable def sRetN : En → Option Out := fun _ => some (.rt .none)
noncomputable def sRetO (i : Nat) : En → Option Out := fun η => match η[i]? with | some (.own ds) => some (.rt (.list ds)) | _ => none
noncomputable def sIf (c : En → Option Bool) (f g : En → Option Out) : En → Option Out := fun η => (c η).bind fun b => if b = true then f η else g η
noncomputable def sSet (i : Nat) (f : En → Option PyData) : En → Option Out := fun η => (f η).bind fun d => some (.nx (η.set i (.val d)))
noncomputable def sSetO (i : Nat) (f : En → Option (List PyData)) : En → Option Out := fun η => (f η).bind fun ds => some (.nx (η.set i (.own ds)))
noncomputable def sApp (i : Nat) (f : En → Option PyData) : En → Option Out := fun η => (f η).bind fun d => match η[i]? with
  | some (.own ds) => if ds.length < sizeLine then some (.nx (η.set i (.own (ds ++ [d])))) else none
  | _ => none
noncomputable def sExt (i : Nat) (f : En → Option (List PyData)) : En → Option Out := fun η => (f η).bind fun es => match η[i]? with
  | some (.own ds) => if ds.length + es.length ≤ sizeLine then some (.nx (η.set i (.own (ds ++ es)))) else none
  | _ => none
noncomputable def frz (i : Nat) (η : En) : En := match η[i]? with | some (.own ds) => η.set i (.val (.list ds)) | some (.odc kvs) => η.set i (.val (.dict (prs kvs))) | _ => η
section
variable {X : Cx} {B : Bd} {st : Stmt} {sts sts' : List Stmt} {u v : En → Option Out} {a b c e : Expr} {f g : En → Option PyData} {fs : En → Option (List PyData)} {p : En → Option Bool} {pos pos' : Pos}
theorem Ss.nil : Ss X B [] sNx := PSs.imp pss_nil fun D σ H ⟨F, η, o, sr, hd, q⟩ => by
  cases hd
  exact q σ F H sr (.refl _)
theorem Ss.one (h : S X B st u) : Ss X B [st] u := pss_one h
theorem Ss.cons (h : S X B st u) (k : Ss X B sts v) : Ss X B (st :: sts) (sSeq u v) := PSs.imp (pss_cons h k) fun D σ H ⟨F, η, o, sr, hd, q⟩ => by
  obtain ⟨o1, h1, hd⟩ := bind_some hd
  refine ⟨F, η, o1, sr, h1, ?_⟩
  cases o1 with
  | nx η' => exact fun σ' F' H' r e => ⟨F', η', o, r, hd, q.up e⟩
  | rt d => cases hd; exact q
  | bk η' => cases hd; exact q
  | ct η' => cases hd; exact q
theorem S.ret (he : E X B e f) : S X B (.Return (some e) pos) (sRet f) := PS.imp (ps_ret he) fun D σ H ⟨F, η, o, sr, hd, q⟩ => by
  obtain ⟨d, h1, hd⟩ := bind_some hd
  cases hd
  exact ⟨F, η, d, sr, h1, fun v F' H' g rv => q v F' H' (sr.gr.trans g) rv⟩
theorem S.ifS (hc : T X B c p) (ha : Ss X B sts u) (hb : Ss X B sts' v) : S X B (.If c sts sts' pos) (sIf p u v) := PS.imp (ps_if hc ha hb) fun D σ H ⟨F, η, o, sr, hd, q⟩ => by
  obtain ⟨b, h1, hd⟩ := bind_some hd
  refine ⟨F, η, b, sr, h1, fun F1 H1 g1 => ?_⟩
  cases b with
  | false =>
    rw [if_neg Bool.false_ne_true] at hd ⊢
    exact ⟨F1, η, o, sr.grow g1, hd, q.up g1.ff⟩
  | true =>
    rw [if_pos rfl] at hd ⊢
    exact ⟨F1, η, o, sr.grow g1, hd, q.up g1.ff⟩
theorem asg_of {K : PySem.W.Frag} {i : Nat} : ∀ D σ H, tS K B (sSet i f) D σ H → tAsg (tE K B f) (gName i) D σ H := fun D σ H ⟨F, η, o, sr, hd, q⟩ => by
  obtain ⟨d, h1, hd⟩ := bind_some hd
  cases hd
  refine ⟨F, η, d, sr, h1, fun v F1 H1 g1 rv => q _ F1 H1 ⟨sr.gr.trans g1, (sr.en.grow g1).set i rv⟩ g1.ff⟩
theorem asgO_of {K : PySem.W.Frag} {i : Nat} : ∀ D σ H, tS K B (sSetO i fs) D σ H → tAsg (tO K B fs) (gName i) D σ H := fun D σ H ⟨F, η, o, sr, hd, q⟩ => by
  obtain ⟨d, h1, hd⟩ := bind_some hd
  cases hd
  refine ⟨F, η, d, sr, h1, fun p xs F1 H1 g1 hp fp hp' rs => q _ F1 H1 ⟨sr.gr.trans g1, (sr.en.grow g1).setOwn i fp (sr.gr.hh.free hp) hp' rs fun j ej => sr.en.notown hp j ej⟩ g1.ff⟩
theorem S.set (i : Nat) {x : Str} (hN : X.N.Nodup) (he : E X B e f) (hi : X.N[i]? = some x := by rfl) (hx : Loc X.env.scope x := by first | exact Or.inl rfl | exact Or.inr rfl) (hs : swapsWith e (some (.Name x pos')) pos.line X.env = pure false := by rfl)
    (hf : X.fn x = true ∨ X.env.scope.names.lookup x = some .local := by first | exact .inl rfl | exact .inr rfl) : S X B (.Assign [.Name x pos'] e pos) (sSet i f) := PS.imp (ps_set hN hi hx he hs hf) asg_of
theorem S.setO (i : Nat) {x : Str} (hN : X.N.Nodup) (he : EO X B e fs) (hi : X.N[i]? = some x := by rfl) (hx : Loc X.env.scope x := by first | exact Or.inl rfl | exact Or.inr rfl) (hs : swapsWith e (some (.Name x pos')) pos.line X.env = pure false := by rfl)
    (hf : X.fn x = true ∨ X.env.scope.names.lookup x = some .local := by first | exact .inl rfl | exact .inr rfl) : S X B (.Assign [.Name x pos'] e pos) (sSetO i fs) := PS.imp (ps_set hN hi hx he hs hf) asgO_of
theorem Ss.frz (i : Nat) (h : Ss X B sts u) : Ss X B sts (fun η => u (frz i η)) := PSs.imp h fun D σ H ⟨F, η, o, sr, hd, q⟩ => by
  have hd : u (PU.frz i η) = some o := hd
  unfold PU.frz at hd
  split at hd
  · rename_i ds e
    obtain ⟨F', p, e1, sf, sr', rel⟩ := sr.freeze e
    exact ⟨F', _, o, sr', hd, q.up sf⟩
  · rename_i kvs e
    obtain ⟨F', p, e1, sf, sr', rel⟩ := sr.freezeD e
    exact ⟨F', _, o, sr', hd, q.up sf⟩
  · exact ⟨F, η, o, sr, hd, q⟩
noncomputable def ItP (K : PySem.W.Frag) (J : It) (F : Hp) (ds : List PyData) : Prop := ∀ F1 H1 (i : Nat), Same F F1 → Same F1 H1 →
  (∀ d, ds[i]? = some d → J.go i H1 ∧ ∀ x H2, J.yld i H1 x H2 → ∃ F2, Gr F1 H1 F2 H2 ∧ Rel K F2 d x) ∧ (i = ds.length → J.stop i H1)
noncomputable def tI (K : PySem.W.Frag) (B : Bd) (f : En → Option (List PyData)) : TI := fun σ H R => ∃ F η ds, SR K B F H σ η ∧ f η = some ds ∧ ∀ J F' H', Gr F H F' H' → ItP K J F' ds → R J H'
noncomputable def I (X : Cx) (B : Bd) (tg iter : Expr) (f : En → Option (List PyData)) : Prop := PI X tg iter (tI X.K B f)
theorem PI.imp {X : Cx} {tg it : Expr} {t t' : TI} (h : PI X tg it t) (i : ∀ σ H Q, t' σ H Q → t σ H Q) : PI X tg it t' := fun pins s σ H Q I q => h pins s σ H Q I (i σ H Q q)
noncomputable def TgP (K : PySem.W.Frag) (ks : List Nat) (g : TG) (t : En → PyData → Option En) : Prop := ∀ (B : Bd) F H σ η d x η', SR K B F H σ η → Rel K F d x → t η d = some η' → ∀ Q : St → Hp → Prop,
  (∀ σ' F' H', SR K B F' H' σ' η' → Gr F H F' H' → σ'.length = σ.length → (∀ i, i ∉ ks → σ'[i]? = σ[i]?) → Q σ' H') → g x σ H Q
noncomputable def tgN (i : Nat) : En → PyData → Option En := fun η d => some (η.set i (.val d))
theorem TgP.name {K : PySem.W.Frag} {i : Nat} : TgP K [i] (gName i) (tgN i) := fun B F H σ η d x η' sr rx e Q q => by
  cases e
  exact q _ F H ⟨sr.gr, sr.en.set i rx⟩ (.refl sr.same) (List.length_set ..) fun j hj => List.getElem?_set_ne (fun e => hj (by simp [e])) ..
noncomputable def TgsP (K : PySem.W.Frag) (ks : List Nat) (g : TGs) (t : En → List PyData → Option En) : Prop := ∀ (B : Bd) F H σ η ds xs η', SR K B F H σ η → RelL K F ds xs → t η ds = some η' → ∀ Q : St → Hp → Prop,
  (∀ σ' F' H', SR K B F' H' σ' η' → Gr F H F' H' → σ'.length = σ.length → (∀ i, i ∉ ks → σ'[i]? = σ[i]?) → Q σ' H') → g xs σ H Q
noncomputable def tgNil : En → List PyData → Option En := fun η ds => match ds with | [] => some η | _ => none
noncomputable def tgCons (t : En → PyData → Option En) (r : En → List PyData → Option En) : En → List PyData → Option En := fun η ds => match ds with | [] => none | d :: ds => (t η d).bind fun η1 => r η1 ds
theorem TgsP.nil {K : PySem.W.Frag} : TgsP K [] gNil tgNil := fun B F H σ η ds xs η' sr rx e Q q => by
  cases ds with
  | nil =>
    cases e
    exact ⟨rx.nil_of, q _ F H sr (.refl sr.same) rfl fun _ _ => rfl⟩
  | cons d ds => cases e
theorem TgsP.cons {K : PySem.W.Frag} {ks ls : List Nat} {g : TG} {gs : TGs} {t : En → PyData → Option En} {r : En → List PyData → Option En} (h : TgP K ks g t) (k : TgsP K ls gs r) : TgsP K (ks ++ ls) (gCons g gs) (tgCons t r) := fun B F H σ η ds xs η' sr rx e Q q => by
  cases ds with
  | nil => cases e
  | cons d ds =>
    obtain ⟨x, r', rfl, h1, h2⟩ := rx.cons_of
    obtain ⟨η1, e1, e2⟩ := bind_some e
    refine ⟨x, r', rfl, h B F H σ η d x η1 sr h1 e1 _ fun σ1 F1 H1 sr1 g1 l1 n1 => ?_⟩
    refine k B F1 H1 σ1 η1 ds r' η' sr1 (h2.mono g1.ff) e2 _ fun σ2 F2 H2 sr2 g2 l2 n2 => ?_
    exact q σ2 F2 H2 sr2 (g1.trans g2) (l2.trans l1) fun i hi => (n2 i fun z => hi (List.mem_append_right _ z)).trans (n1 i fun z => hi (List.mem_append_left _ z))
noncomputable def tgT (t : En → List PyData → Option En) : En → PyData → Option En := fun η d => match d with | .tuple ds => t η ds | _ => none
theorem TgP.tup {K : PySem.W.Frag} {ks : List Nat} {n : Nat} {g : TGs} {t : En → List PyData → Option En} (h : TgsP K ks g t) (hn : ∀ η ds η', t η ds = some η' → ds.length = n) : TgP K ks (gTup K n g) (tgT t) := fun B F H σ η d x η' sr rx e Q q => by
  cases d with
  | tuple ds =>
    obtain ⟨a, xs, rfl, hq, rs⟩ := rx.tup
    exact ⟨a, xs, rfl, same_seqT sr.same hq, by rw [rs.length]; exact hn η ds η' e, h B F H σ η ds xs η' sr rs e Q q⟩
  | none => cases e
  | bool _ => cases e
  | int _ => cases e
  | str _ => cases e
  | list _ => cases e
  | dict _ => cases e
noncomputable def sGo (t : En → PyData → Option En) (body : En → Option Out) : List PyData → En → Option Out
  | [], η => some (.nx η)
  | d :: ds, η => (t η d).bind fun η1 => (body η1).bind fun o => match o with
    | .nx η2 => sGo t body ds η2
    | .ct η2 => sGo t body ds η2
    | .bk η2 => some (.nx η2)
    | .rt d => some (.rt d)
noncomputable def sFor (it : En → Option (List PyData)) (t : En → PyData → Option En) (body : En → Option Out) : En → Option Out := fun η => (it η).bind fun ds => sGo t body ds η
theorem S.for {tg iter : Expr} {body : List Stmt} {gt : TG} {ks : List Nat} {t : En → PyData → Option En} (hp : PassesOwn (model X.prog X.w) X.A X.env X.xe) (hc : X.calm = true) (hi : I X B tg iter fs) (hg : PG X tg gt) (ht : TgP X.K ks gt t) (hb : Ss X B body u)
    (hs : ∀ x, foldedSetIterable iter X.env x = pure x := by intro _; rfl) : S X B (.For tg iter body [] pos) (sFor fs t u) := PS.imp (ps_for hp hc hi hg hb hs) fun D σ H ⟨F, η, o, sr, hd, q⟩ => by
  obtain ⟨ds, h1, hd⟩ := bind_some hd
  refine ⟨F, η, ds, sr, h1, fun J F1 H1 g1 ip => ?_⟩
  refine ⟨fun i m σ H => m = ds.length - i ∧ i ≤ ds.length ∧ ∃ Fc ηc, SR X.K B Fc H σ ηc ∧ Same F1 Fc ∧ sGo t u (ds.drop i) ηc = some o, ⟨_, rfl, Nat.zero_le _, F1, η, sr.grow g1, .refl _, by simpa using hd⟩, ?_⟩
  rintro i m σc Hc ⟨rfl, hi, Fc, ηc, src, sc, hgo⟩
  obtain ⟨ip1, ip2⟩ := ip Fc Hc i sc src.same
  by_cases hlt : i < ds.length
  · have e : ds[i]? = some ds[i] := List.getElem?_eq_getElem hlt
    obtain ⟨go, yl⟩ := ip1 _ e
    rw [List.drop_eq_getElem_cons hlt] at hgo
    unfold sGo at hgo
    obtain ⟨η1, e1, hgo⟩ := bind_some hgo
    obtain ⟨o1, e2, hgo⟩ := bind_some hgo
    have cont : ∀ (η2 : En), sGo t u (ds.drop (i + 1)) η2 = some o → ∀ σ' F' H', SR X.K B F' H' σ' η2 → Same F1 F' →
        ∃ m', m' < ds.length - i ∧ (fun i m σ H => m = ds.length - i ∧ i ≤ ds.length ∧ ∃ Fc ηc, SR X.K B Fc H σ ηc ∧ Same F1 Fc ∧ sGo t u (ds.drop i) ηc = some o) (i + 1) m' σ' H' := fun η2 h2 σ' F' H' r s =>
      ⟨ds.length - (i + 1), by omega, rfl, hlt, F', η2, r, s, h2⟩
    refine .inr ⟨go, fun σ' H' => ∃ m', m' < ds.length - i ∧ (fun i m σ H => m = ds.length - i ∧ i ≤ ds.length ∧ ∃ Fc ηc, SR X.K B Fc H σ ηc ∧ Same F1 Fc ∧ sGo t u (ds.drop i) ηc = some o) (i + 1) m' σ' H', fun σ' H' n => n, fun x H' y => ?_⟩
    obtain ⟨F2, g2, rx⟩ := yl x H' y
    refine ht B F2 H' σc ηc _ x η1 (src.grow g2) rx e1 _ fun σ3 F3 H3 sr3 g3 _ _ => ?_
    refine ⟨F3, η1, o1, sr3, e2, ?_⟩
    have s3 : Same F1 F3 := sc.trans (g2.ff.trans g3.ff)
    cases o1 with
    | nx η2 => exact fun σ' F' H' r s => cont η2 hgo σ' F' H' r (s3.trans s)
    | ct η2 => exact fun σ' F' H' r s => cont η2 hgo σ' F' H' r (s3.trans s)
    | bk η2 =>
      cases hgo
      exact fun σ' F' H' r s => q σ' F' H' r (g1.ff.trans (s3.trans s))
    | rt d =>
      cases hgo
      exact q
  · have ei : i = ds.length := by omega
    subst ei
    rw [List.drop_length] at hgo
    cases hgo
    exact .inl ⟨ip2 rfl, q σc Fc Hc src (g1.ff.trans sc)⟩
noncomputable def asL : PyData → Option (List PyData)
  | .list ds => some ds
  | _ => none
noncomputable def asTu : PyData → Option (List PyData)
  | .tuple ds => some ds
  | _ => none
noncomputable def lI (k : PyData → Option (List PyData)) (f : En → Option PyData) : En → Option (List PyData) := fun η => (f η).bind k
theorem itp_list {K : PySem.W.Frag} {F : Hp} {a : Addr} {xs : List V} {ds : List PyData} (h : SqL K F a xs) (r : RelL K F ds xs) : ItP K (Itl K a) F ds := fun F1 H1 i s1 s2 => by
  have q := s2.seq (s1.seq h)
  refine ⟨fun d e => ?_, fun e => ⟨xs, q, by rw [r.length, e]; exact Nat.le_refl _⟩⟩
  obtain ⟨x, ex, rx⟩ := r.get e
  refine ⟨⟨xs, x, q, ex⟩, fun x' H2 y => ?_⟩
  obtain ⟨e2, y⟩ := y
  subst e2
  have z := y xs q
  rw [ex] at z
  cases z
  exact ⟨F1, .refl s2, rx.mono s1⟩
theorem itp_tup {K : PySem.W.Frag} {F : Hp} {a : Addr} {xs : List V} {ds : List PyData} (h : SqT K F a xs) (r : RelL K F ds xs) : ItP K (Itt K a) F ds := fun F1 H1 i s1 s2 => by
  have q := same_seqT s2 (same_seqT s1 h)
  refine ⟨fun d e => ?_, fun e => ⟨xs, q, by rw [r.length, e]; exact Nat.le_refl _⟩⟩
  obtain ⟨x, ex, rx⟩ := r.get e
  refine ⟨⟨xs, x, q, ex⟩, fun x' H2 y => ?_⟩
  obtain ⟨e2, y⟩ := y
  subst e2
  have z := y xs q
  rw [ex] at z
  cases z
  exact ⟨F1, .refl s2, rx.mono s1⟩
theorem I.list {tg : Expr} (he : E X B e f) : I X B tg e (lI asL f) := PI.imp (pi_list he) fun σ H Q ⟨F, η, ds, sr, hd, q⟩ => by
  obtain ⟨d, h1, hd⟩ := bind_some hd
  cases d <;> simp only [asL, Option.some.injEq, reduceCtorEq] at hd
  subst hd
  refine ⟨F, η, _, sr, h1, fun v F1 H1 g1 rv => ?_⟩
  obtain ⟨a, xs, rfl, hq, rs⟩ := rv.lst
  exact ⟨a, rfl, ⟨xs, g1.fh.seq hq⟩, q _ F1 H1 g1 (itp_list hq rs)⟩
theorem I.tup {tg : Expr} (he : E X B e f) : I X B tg e (lI asTu f) := PI.imp (pi_tup he) fun σ H Q ⟨F, η, ds, sr, hd, q⟩ => by
  obtain ⟨d, h1, hd⟩ := bind_some hd
  cases d <;> simp only [asTu, Option.some.injEq, reduceCtorEq] at hd
  subst hd
  refine ⟨F, η, _, sr, h1, fun v F1 H1 g1 rv => ?_⟩
  obtain ⟨a, xs, rfl, hq, rs⟩ := rv.tup
  exact ⟨a, rfl, ⟨xs, same_seqT g1.fh hq⟩, q _ F1 H1 g1 (itp_tup hq rs)⟩
noncomputable def rngL (lo : Int) (n : Nat) : List PyData := (List.range n).map fun (k : Nat) => PyData.int (lo + k)
theorem itp_rng {K : PySem.W.Frag} {F : Hp} {lo : Int} {n : Nat} : ItP K (Itr lo n) F (rngL lo n) := fun F1 H1 i s1 s2 => by
  have hl : (rngL lo n).length = n := by unfold rngL; rw [List.length_map, List.length_range]
  refine ⟨fun d e => ?_, fun e => by show n ≤ i; omega⟩
  have hi : i < n := by rw [← hl]; exact (List.getElem?_eq_some_iff.mp e).1
  refine ⟨hi, fun x H2 y => ?_⟩
  obtain ⟨e2, e3⟩ := y
  subst e2 e3
  have : d = .int (lo + i) := by
    unfold rngL at e
    rw [List.getElem?_map, List.getElem?_range hi] at e
    exact (Option.some.inj e).symm
  subst this
  exact ⟨F1, .refl s2, rel_int⟩
noncomputable def rng1 (ds : List PyData) : Option (List PyData) := match ds with
  | [.int j] => if -(2 ^ 62) ≤ j ∧ j < 2 ^ 62 then some (rngL 0 j.toNat) else none
  | _ => none
noncomputable def rng2 (ds : List PyData) : Option (List PyData) := match ds with
  | [.int i, .int j] => if (-(2 ^ 62) ≤ i ∧ i < 2 ^ 62) ∧ (-(2 ^ 62) ≤ j ∧ j < 2 ^ 62) then some (rngL i (j - i).toNat) else none
  | _ => none
theorem I.rng1 {tg : Expr} {pp : Pos} (hm : X.mg "range" = none) (ha : A X B [a] fs) (hg : Gl X "range" := by rfl) (hs : starEach [a] X.env = [(false, eval a X.env)] := by exact star_of rfl) : I X B tg (.Call (.Name "range" pp) [a] [] pos) (fun η => (fs η).bind PU.rng1) :=
  PI.imp (pi_range1 hg hm ha hs) fun σ H Q ⟨F, η, ds, sr, hd, q⟩ => by
    obtain ⟨es, h1, hd⟩ := bind_some hd
    unfold PU.rng1 at hd
    split at hd
    · rename_i j
      split at hd
      · rename_i hj
        cases hd
        refine ⟨F, η, _, sr, h1, fun vs F1 H1 g1 rs => ?_⟩
        obtain ⟨x, r, rfl, rx, rr⟩ := rs.cons_of
        obtain rfl := rr.nil_of
        exact ⟨j, by rw [rx.int], hj.1, hj.2, q _ F1 H1 g1 itp_rng⟩
      · cases hd
    · cases hd
end
noncomputable def inEn (mp : List (Option Nat)) (η : En) : En := mp.map fun o => match o with
  | some j => (match η[j]? with | some (.val d) => .val d | some (.ob fs) => .ob fs | _ => .un)
  | none => .un
noncomputable def cGo (t : En → PyData → Option En) (p : En → Option Bool) (f : En → Option PyData) (η : En) : List PyData → Option (List PyData)
  | [] => some []
  | d :: ds => (t η d).bind fun η1 => (p η1).bind fun ok => if ok = true then (f η1).bind fun y => (cGo t p f η ds).bind fun r => some (y :: r) else cGo t p f η ds
noncomputable def sComp (mp : List (Option Nat)) (fi : En → Option (List PyData)) (t : En → PyData → Option En) (p : En → Option Bool) (f : En → Option PyData) : En → Option (List PyData) := fun η =>
  (fi η).bind fun ds => if ds.length ≤ sizeLine then cGo t p f (inEn mp η) ds else none
noncomputable def Ts (X : Cx) (B : Bd) (ifs : List Expr) (p : En → Option Bool) : Prop := PTs X ifs (tT X.K B p)
noncomputable def tTrue : En → Option Bool := fun _ => some true
section
variable {X : Cx} {B : Bd}
theorem Ts.nil : Ts X B [] tTrue := fun pins s σ H Q I ⟨F, η, b, sr, hd, q⟩ => by
  cases hd
  exact pts_nil pins s σ H Q I (q F H (.refl sr.same))
theorem Ts.one {c : Expr} {p : En → Option Bool} (h : T X B c p) : Ts X B [c] p := pts_one h
theorem inEn_no {mp : List (Option Nat)} {η : En} {i : Nat} {a : Sl} (e : (inEn mp η)[i]? = some a) : isOwn a = false := by
  unfold inEn at e
  rw [List.getElem?_map] at e
  cases q : mp[i]? with
  | none => rw [q] at e; cases e
  | some o =>
    rw [q] at e
    cases o with
    | none => cases e; rfl
    | some j =>
      have e' : (match η[j]? with | some (.val d) => Sl.val d | some (.ob fs) => .ob fs | _ => .un) = a := Option.some.inj e
      split at e' <;> (subst e'; rfl)
theorem EnR.inner {K : PySem.W.Frag} {He F H : Hp} {σ : St} {η : En} (r : EnR K He F H σ η) (mp : List (Option Nat)) : EnR K He F H (inSt mp σ) (inEn mp η) where
  len := by unfold inEn inSt; rw [List.length_map, List.length_map]
  val := fun i d e => by
    unfold inEn at e
    rw [List.getElem?_map] at e
    cases q : mp[i]? with
    | none => rw [q] at e; cases e
    | some o =>
      rw [q] at e
      cases o with
      | none => cases e
      | some j =>
        have e' : (match η[j]? with | some (.val d) => Sl.val d | some (.ob fs) => .ob fs | _ => .un) = .val d := Option.some.inj e
        split at e'
        · rename_i d' ed
          have : d' = d := by injection e'
          subst this
          obtain ⟨v, e1, e2⟩ := r.val j d' ed
          refine ⟨v, ?_, e2⟩
          unfold inSt
          rw [List.getElem?_map, q]
          show some ((σ[j]?).join) = _
          rw [e1]
          rfl
        · cases e'
        · cases e'
  obs := fun i fs e => by
    unfold inEn at e
    rw [List.getElem?_map] at e
    cases q : mp[i]? with
    | none => rw [q] at e; cases e
    | some o =>
      rw [q] at e
      cases o with
      | none => cases e
      | some j =>
        have e' : (match η[j]? with | some (.val d) => Sl.val d | some (.ob fs) => .ob fs | _ => .un) = .ob fs := Option.some.inj e
        split at e'
        · cases e'
        · rename_i d' ed
          have : d' = fs := by injection e'
          subst this
          obtain ⟨p, C, dx, xs, e1, e2⟩ := r.obs j d' ed
          refine ⟨p, C, dx, xs, ?_, e2⟩
          unfold inSt
          rw [List.getElem?_map, q]
          show some ((σ[j]?).join) = _
          rw [e1]
          rfl
        · cases e'
  cel := fun i a e ha => by rw [inEn_no e] at ha; cases ha
  apart := fun i j a b e _ ha _ _ => by rw [inEn_no e] at ha; cases ha
variable {elt iter tg : Expr} {ifs : List Expr} {scope : Scope} {pos : Pos} {N' : List Str} {mp : List (Option Nat)} {ks : List Nat} {gt : TG} {t : En → PyData → Option En} {fi : En → Option (List PyData)} {p : En → Option Bool} {f : En → Option PyData}
theorem comp_of {K : PySem.W.Frag} (ht : TgP K ks gt t) (hks : ∀ k ∈ ks, mp[k]? = some none) : ∀ σ H Q, tO K B (sComp mp fi t p f) σ H Q → tComp mp (tI K B fi) gt (tT K B p) (tE K B f) σ H Q := fun σ H Q ⟨F, η, rs, sr, hd, q⟩ => by
  obtain ⟨ds, h1, hd⟩ := bind_some hd
  split at hd
  rotate_left
  · cases hd
  rename_i hz
  refine ⟨F, η, ds, sr, h1, fun J F1 H1 g1 ip D hD => ?_⟩
  have fD : F1 D = none := g1.fh.free hD
  have kept : ∀ {σ2 : St}, σ2.length = (inSt mp σ).length → (∀ i, i ∉ ks → σ2[i]? = (inSt mp σ)[i]?) → KeepsSt (inSt mp σ) σ2 := fun {σ2} hl hn => ⟨hl, fun i v e => by
    by_cases hi : i ∈ ks
    · have z := hks i hi
      unfold inSt at e
      rw [List.getElem?_map, z] at e
      cases e
    · rw [hn i hi]; exact e⟩
  refine ⟨fun i m Hc => m = ds.length - i ∧ i ≤ ds.length ∧ ∃ Fc ys done rest, Gr F1 H1 Fc Hc ∧ Fc D = none ∧ Hc D = some (.lst ys) ∧ RelL K Fc done ys ∧ done.length ≤ i ∧ cGo t p f (inEn mp η) (ds.drop i) = some rest ∧ rs = done ++ rest,
    ⟨_, rfl, Nat.zero_le _, F1, [], [], rs, ⟨.refl _, same_new hD _, fun b u z => same_new hD _ b u (g1.fh b u z), fun b z => .inl z⟩, fD, upd_same, .nil, Nat.le_refl _, by simpa using hd, rfl⟩, ?_⟩
  rintro i m Hc ⟨rfl, hi, Fc, ys, done, rest, gc, fcD, hcD, rd, hdl, hgo, hrs⟩
  obtain ⟨ip1, ip2⟩ := ip Fc Hc i gc.ff gc.fh
  by_cases hlt : i < ds.length
  · have e : ds[i]? = some ds[i] := List.getElem?_eq_getElem hlt
    obtain ⟨go, yl⟩ := ip1 _ e
    rw [List.drop_eq_getElem_cons hlt] at hgo
    unfold cGo at hgo
    obtain ⟨η1, e1, hgo⟩ := bind_some hgo
    obtain ⟨ok, e2, hgo⟩ := bind_some hgo
    refine .inr ⟨go, fun H' => ∃ m', m' < ds.length - i ∧ (m' = ds.length - (i + 1) ∧ i + 1 ≤ ds.length ∧ ∃ Fc ys done rest, Gr F1 H1 Fc H' ∧ Fc D = none ∧ H' D = some (.lst ys) ∧ RelL K Fc done ys ∧ done.length ≤ i + 1 ∧ cGo t p f (inEn mp η) (ds.drop (i + 1)) = some rest ∧ rs = done ++ rest), fun H' n => n, fun x H' y => ?_⟩
    obtain ⟨F2, g2, rx⟩ := yl x H' y
    have sin : SR K B F2 H' (inSt mp σ) (inEn mp η) := ⟨(sr.gr.trans g1).trans (gc.trans g2), ((sr.en.grow g1).inner mp).grow (gc.trans g2)⟩
    refine ht B F2 H' (inSt mp σ) (inEn mp η) _ x η1 sin rx e1 _ fun σ3 F3 H3 sr3 g3 l3 n3 => ⟨kept l3 n3, F3, η1, ok, sr3, e2, fun F4 H4 g4 => ?_⟩
    have gall : Gr Fc Hc F4 H4 := (g2.trans g3).trans g4
    have nD : ∀ {F5 H5 : Hp}, Gr Fc Hc F5 H5 → F5 D = none := fun {F5 H5} g => by
      cases z : F5 D with
      | none => rfl
      | some o =>
        rcases g.new D (by rw [z]; simp) with w | w
        · exact absurd fcD w
        · rw [hcD] at w; cases w
    cases ok with
    | false =>
      rw [if_neg Bool.false_ne_true] at hgo
      refine iteF ?_
      exact ⟨ds.length - (i + 1), by omega, rfl, hlt, F4, ys, done, rest, gc.trans gall, nD gall, gall.hh _ _ hcD, rd.mono gall.ff, Nat.le_succ_of_le hdl, hgo, hrs⟩
    | true =>
      rw [if_pos rfl] at hgo
      refine iteT ?_
      obtain ⟨yv, e3, hgo⟩ := bind_some hgo
      obtain ⟨r, e4, hgo⟩ := bind_some hgo
      cases hgo
      refine ⟨F4, η1, yv, sr3.grow g4, e3, fun v F5 H5 g5 rv => ?_⟩
      have ga := gall.trans g5
      have h5D := ga.hh _ _ hcD
      refine ⟨ys, h5D, by rw [rd.length]; omega, ds.length - (i + 1), by omega, rfl, hlt, F5, ys ++ [v], done ++ [yv], r, ?_, nD ga, upd_same, (rd.mono ga.ff).append (.cons rv .nil), by rw [List.length_append, List.length_singleton]; omega, e4, by rw [hrs, List.append_assoc]; rfl⟩
      have gt' := gc.trans ga
      refine ⟨gt'.ff, fun b u z => ?_, fun b u z => ?_, gt'.new⟩
      · have nb : b ≠ D := ne_of_none z hD
        rw [upd_ne nb]; exact gt'.hh b u z
      · have nb : b ≠ D := ne_of_none z (nD ga)
        rw [upd_ne nb]; exact gt'.fh b u z
  · have ei : i = ds.length := by omega
    subst ei
    rw [List.drop_length] at hgo
    cases hgo
    rw [List.append_nil] at hrs
    subst hrs
    exact .inl ⟨ip2 rfl, q D ys Fc Hc (g1.trans gc) (g1.hh.free hD) fcD hcD rd⟩
theorem EO.comp (hc : X.calm = true) (ck : CompSc X scope N' mp) (ht : TgP X.K ks gt t) (hks : ∀ k ∈ ks, mp[k]? = some none) (hi : I X B tg iter fi)
    (hb : ∀ s H fp, PG (compCx X scope N' s H fp) tg gt ∧ Ts (compCx X scope N' s H fp) B ifs p ∧ E (compCx X scope N' s H fp) B elt f)
    (hs : ∀ x, foldedSetIterable iter X.env x = pure x := by intro _; rfl) : EO X B (.ListComp elt [⟨tg, iter, ifs, 0⟩] scope pos) (sComp mp fi t p f) := PE.imp (pe_comp hc ck hi hb hs) (comp_of ht hks)
theorem S.setC (i : Nat) {y : Str} {py spos : Pos} (hc : X.calm = true) (hN : X.N.Nodup) (ck : CompSc X scope N' mp) (ht : TgP X.K ks gt t) (hks : ∀ k ∈ ks, mp[k]? = some none) (hi : I X B tg iter fi)
    (hb : ∀ s H fp, PG (compCx X scope N' s H fp) tg gt ∧ Ts (compCx X scope N' s H fp) B ifs p ∧ E (compCx X scope N' s H fp) B elt f)
    (hiy : X.N[i]? = some y := by rfl) (hy : X.env.scope.names.lookup y = some .local := by rfl) (hsw : swapsWith (.ListComp elt [⟨tg, iter, ifs, 0⟩] scope pos) (some (.Name y py)) spos.line X.env = pure true := by rfl)
    (hs : ∀ x, foldedSetIterable iter X.env x = pure x := by intro _; rfl) : S X B (.Assign [.Name y py] (.ListComp elt [⟨tg, iter, ifs, 0⟩] scope pos) spos) (sSetO i (sComp mp fi t p f)) :=
  PS.imp (ps_setComp hc hN hiy hy ck hi hb hsw hs) fun D σ H h => by
    have h' := asgO_of D σ H h
    exact comp_of ht hks σ H _ h'
end
noncomputable def runF (n m : Nat) (g : En → Option Out) (ds : List PyData) : Option PyData := if ds.length = n then (g (ds.map Sl.val ++ List.replicate (m - n) .un)).bind fun o => match o with
  | .rt d => some d
  | .nx _ => some .none
  | _ => none else none
section
variable {P : Program} {w : World} {K : PySem.W.Frag} {mg : Str → Option Value} {base : Heap}
theorem start_no {n : Nat} {ds : List PyData} {i : Nat} {a : Sl} (e : (ds.map Sl.val ++ List.replicate n .un)[i]? = some a) : isOwn a = false := by
  by_cases hi : i < ds.length
  · rw [List.getElem?_append_left (by rw [List.length_map]; exact hi), List.getElem?_map] at e
    cases q : ds[i]? with
    | none => rw [q] at e; cases e
    | some d' => rw [q] at e; cases e; rfl
  · rw [List.getElem?_append_right (by rw [List.length_map]; omega), List.getElem?_replicate] at e
    split at e <;> cases e
    rfl
theorem EnR.start {F H : Hp} {N : List Str} {ds : List PyData} {vs : List V} (r : RelL K F ds vs) : EnR K H F H (L2.start N vs) (ds.map Sl.val ++ List.replicate (N.length - ds.length) .un) where
  len := by unfold L2.start; rw [List.length_append, List.length_append, List.length_map, List.length_map, List.length_replicate, List.length_replicate, r.length]
  val := fun i d e => by
    unfold L2.start
    by_cases hi : i < ds.length
    · rw [List.getElem?_append_left (by rw [List.length_map]; exact hi), List.getElem?_map] at e
      rw [List.getElem?_append_left (by rw [List.length_map, r.length]; exact hi), List.getElem?_map]
      cases q : ds[i]? with
      | none => rw [q] at e; cases e
      | some d' =>
        rw [q] at e
        have : d' = d := by injection (Option.some.inj e)
        subst this
        obtain ⟨x, e1, e2⟩ := r.get q
        exact ⟨x, by rw [e1]; rfl, e2⟩
    · rw [List.getElem?_append_right (by rw [List.length_map]; omega), List.getElem?_replicate] at e
      split at e <;> cases e
  cel := fun i a e ha => by rw [start_no e] at ha; cases ha
  obs := fun i fs e => by
    by_cases hi : i < ds.length
    · rw [List.getElem?_append_left (by rw [List.length_map]; exact hi), List.getElem?_map] at e
      cases q : ds[i]? with
      | none => rw [q] at e; cases e
      | some d' => rw [q] at e; cases e
    · rw [List.getElem?_append_right (by rw [List.length_map]; omega), List.getElem?_replicate] at e
      split at e <;> cases e
  apart := fun i _ a _ e _ ha _ _ => by rw [start_no e] at ha; cases ha
theorem fnP {x qual : Str} {st : Stmt} {f : Addr} {fd : FuncData} {N ps : List Str} {k : Nat} {g : En → Option Out} (Fn : Fun K x qual st f fd) (Sc : FnScope N ps (defScope st))
    (hb : ∀ (cdv : Value) (A : Around) (outer : List Env) (s : Shared) (H : Hp) (E : XK) (F : Hp), Room k (A.deeper (envOfC qual (defScope st) s.heap.objs.size f cdv)) →
      Ss (cxOf CX0 P w K mg base N qual (defScope st) f cdv A outer s H E).nox ⟨F, H⟩ (defBody st) g) :
    FnOk P w K mg base CX0 (k + 1) f fd ps (spP K (runF ps.length N.length g)) := by
  have len : ∀ {F : Hp} {ds : List PyData} {vs : List V} {d : PyData}, RelL K F ds vs → runF ps.length N.length g ds = some d → ds.length = ps.length ∧ vs.length = ps.length := fun {F ds vs d} r e => by
    unfold runF at e
    split at e
    · rename_i hl
      exact ⟨hl, by rw [r.length]; exact hl⟩
    · cases e
  refine Fn.ok Sc (fun vs H Q E h => ?_) (fun cdv A outer s H vs Q E hr h => ?_)
  · obtain ⟨F, ds, d, _, r, e, _⟩ := h
    exact (len r e).2
  · obtain ⟨F, ds, d, sm, r, e, q⟩ := h
    obtain ⟨l1, l2⟩ := len r e
    refine ⟨_, hb cdv A outer s H E F hr, ?_⟩
    unfold runF at e
    rw [if_pos l1] at e
    obtain ⟨o, e1, e2⟩ := bind_some e
    refine ⟨F, _, o, ⟨.refl sm, ?_⟩, e1, ?_⟩
    · have z := EnR.start (K := K) (H := H) (N := N) r
      rw [l1] at z
      exact z
    · cases o with
      | rt d' =>
        cases e2
        exact fun v F' H' g rv => q v F' H' g rv
      | nx η' =>
        cases e2
        exact fun σ' F' H' sr _ => q .non F' H' sr.gr rel_non
      | bk η' => cases e2
      | ct η' => cases e2
theorem fn0 {f : Addr} {fd : FuncData} {ps : List Str} {k : Nat} : FnOk P w K mg base CX0 k f fd ps (spP K (fun _ => none)) :=
  ⟨fun vs H Q E h => (by obtain ⟨_, _, _, _, _, e, _⟩ := h; cases e), fun A outer s H args us vs Q E _ _ _ _ h => (by obtain ⟨_, _, _, _, _, e, _⟩ := h; cases e)⟩
end
section
variable {X : Cx}
mutual
theorem Rel.reads {pins : List (Addr × Obj)} {σ : St} {F H : Hp} {s : Shared} (I : Inv X pins σ H s) (sm : Same F H) : ∀ {d : PyData} {v : V} {u : Value}, PyData.canLay0 d = true → Rel X.K F d v → RelV v u → ∃ as, Reads s.heap u d as
  | .none, v, u, _, h, r => by
    rw [h.non] at r; cases r
    exact ⟨_, .none⟩
  | .bool b, v, u, _, h, r => by
    rw [h.bl] at r; cases r
    exact ⟨_, .bool b⟩
  | .int i, v, u, _, h, r => by
    rw [h.int] at r; obtain ⟨t, rfl⟩ := r
    exact ⟨_, .int i t⟩
  | .str x, v, u, _, h, r => by
    rw [h.str] at r; obtain ⟨t, rfl⟩ := r
    exact ⟨_, .str x t⟩
  | .tuple ds, v, u, c, h, r => by
    unfold PyData.canLay0 at c
    obtain ⟨a, xs, rfl, hq, rs⟩ := h.tup
    cases r
    obtain ⟨its, rv, ⟨o, ho, hc, n, hd⟩, _⟩ := I.tuple (same_seqT sm hq)
    obtain ⟨as, h'⟩ := RelL.reads I sm c rs rv
    exact ⟨as, .tuple ho hc hd (by simpa using h')⟩
  | .list ds, v, u, c, h, r => by
    unfold PyData.canLay0 at c
    obtain ⟨a, xs, rfl, hq, rs⟩ := h.lst
    cases r
    obtain ⟨its, rv, p, _⟩ := I.list (sm.seq hq)
    obtain ⟨o, ho, hc, n, hd⟩ := p.isList
    obtain ⟨as, h'⟩ := RelL.reads I sm c rs rv
    exact ⟨a :: as, .list ho hc hd (by simpa using h')⟩
  | .dict _, v, u, c, h, r => by unfold PyData.canLay0 at c; cases c
theorem RelL.reads {pins : List (Addr × Obj)} {σ : St} {F H : Hp} {s : Shared} (I : Inv X pins σ H s) (sm : Same F H) : ∀ {ds : List PyData} {vs : List V} {us : List Value}, PyData.canLayAll0 ds = true → RelL X.K F ds vs → Vals vs us → ∃ as, ReadsAll s.heap us ds as
  | [], vs, us, _, h, r => by
    rw [h.nil_of] at r; cases r
    exact ⟨_, .nil⟩
  | d :: ds, vs, us, c, h, r => by
    unfold PyData.canLayAll0 at c
    obtain ⟨c1, c2⟩ := Bool.and_eq_true_iff.mp c
    obtain ⟨x, xs, rfl, h1, h2⟩ := h.cons_of
    cases r with
    | cons r1 r2 =>
      obtain ⟨as, e1⟩ := Rel.reads I sm c1 h1 r1
      obtain ⟨bs, e2⟩ := RelL.reads I sm c2 h2 r2
      exact ⟨as ++ bs, .cons e1 e2⟩
end
noncomputable def rEqD (K : PySem.W.Frag) (neg : Bool) : R2 := fun x y H Q => ∃ F dx dy, Same F H ∧ Rel K F dx x ∧ Rel K F dy y ∧ SeqAt.shaped dx = true ∧ SeqAt.shaped dy = true ∧ Q (.bl (if neg then !PyData.eqv dx dy else PyData.eqv dx dy)) H
theorem op_eqD (hu : X.A.units + 64 < cLine) : OpR X (compareOp .Eq) (rEqD X.K false) := by
  intro pins s σ H x y v u Q I rx ry h
  obtain ⟨F, dx, dy, sm, h1, h2, s1, s2, q⟩ := h
  obtain ⟨as, ra⟩ := Rel.reads I sm (SeqAt.canLay_of_shaped s1) h1 rx
  obtain ⟨bs, rb⟩ := Rel.reads I sm (SeqAt.canLay_of_shaped s2) h2 ry
  exact SeqAt.compareEq_shaped ra rb s1 s2 hu ⟨.bl _, H, I, rfl, q⟩
theorem op_neD (hu : X.A.units + 64 < cLine) : OpR X (compareOp .NotEq) (rEqD X.K true) := by
  intro pins s σ H x y v u Q I rx ry h
  obtain ⟨F, dx, dy, sm, h1, h2, s1, s2, q⟩ := h
  obtain ⟨as, ra⟩ := Rel.reads I sm (SeqAt.canLay_of_shaped s1) h1 rx
  obtain ⟨bs, rb⟩ := Rel.reads I sm (SeqAt.canLay_of_shaped s2) h2 ry
  exact SeqAt.compareNe_shaped ra rb s1 s2 hu ⟨.bl _, H, I, rfl, q⟩
noncomputable def pEq (x y : PyData) : Option PyData := if SeqAt.shaped x = true ∧ SeqAt.shaped y = true then some (.bool (PyData.eqv x y)) else none
noncomputable def pNe (x y : PyData) : Option PyData := if SeqAt.shaped x = true ∧ SeqAt.shaped y = true then some (.bool (!PyData.eqv x y)) else none
theorem ad_eq {K : PySem.W.Frag} : Ad2 K (rEqD K false) pEq := fun F H x y dx dy d Q sm rx ry e q => by
  unfold pEq at e
  split at e
  · rename_i hs
    cases e
    exact ⟨F, dx, dy, sm, rx, ry, hs.1, hs.2, q _ F H (.refl sm) rel_bl⟩
  · cases e
theorem ad_ne {K : PySem.W.Frag} : Ad2 K (rEqD K true) pNe := fun F H x y dx dy d Q sm rx ry e q => by
  unfold pNe at e
  split at e
  · rename_i hs
    cases e
    exact ⟨F, dx, dy, sm, rx, ry, hs.1, hs.2, q _ F H (.refl sm) rel_bl⟩
  · cases e
noncomputable def pI (C : Int → Int → Prop) [∀ i j, Decidable (C i j)] (g : Int → Int → PyData) (x y : PyData) : Option PyData := match x, y with
  | .int i, .int j => if C i j then some (g i j) else none
  | _, _ => none
instance : ∀ i j, Decidable (CMul i j) := fun i j => by unfold CMul; infer_instance
instance : ∀ i j, Decidable (CDiv i j) := fun i j => by unfold CDiv; infer_instance
theorem ad_I {K : PySem.W.Frag} {C : Int → Int → Prop} [∀ i j, Decidable (C i j)] {g : Int → Int → PyData} {gv : Int → Int → V} (hg : ∀ F i j, Rel K F (g i j) (gv i j)) : Ad2 K (rI C gv) (pI C g) := fun F H x y dx dy d Q sm rx ry e q => by
  cases dx <;> cases dy <;> simp only [pI, reduceCtorEq] at e
  split at e
  · rename_i hc
    cases e
    exact ⟨_, _, rx.int, ry.int, hc, q _ F H (.refl sm) (hg F _ _)⟩
  · cases e
theorem ad_I0 {K : PySem.W.Frag} {g : Int → Int → PyData} {gv : Int → Int → V} (hg : ∀ F i j, Rel K F (g i j) (gv i j)) : Ad2 K (rI0 gv) (pI (fun _ _ => True) g) := fun F H x y dx dy d Q sm rx ry e q => by
  cases dx <;> cases dy <;> simp only [pI, reduceCtorEq, if_true] at e
  cases e
  exact ⟨_, _, rx.int, ry.int, q _ F H (.refl sm) (hg F _ _)⟩
noncomputable def pSub := pI (fun _ _ => True) fun i j => .int (i - j)
noncomputable def pMul := pI CMul fun i j => .int (i * j)
noncomputable def pFdiv := pI CDiv fun i j => .int (i / j)
noncomputable def pMod := pI (fun _ j => 0 < j) fun i j => .int (i % j)
noncomputable def pLt := pI (fun _ _ => True) fun i j => .bool (decide (i < j))
noncomputable def pLe := pI (fun _ _ => True) fun i j => .bool (decide (i ≤ j))
noncomputable def pGt := pI (fun _ _ => True) fun i j => .bool (decide (j < i))
noncomputable def pGe := pI (fun _ _ => True) fun i j => .bool (decide (j ≤ i))
section
variable {B : Bd} {a b : Expr} {f g : En → Option PyData} {pos : Pos}
theorem E.sub (ha : E X B a f) (hb : E X B b g) : E X B (.BinOp a .Sub b pos) (l2 pSub f g) := E.op op_sub (ad_I0 fun _ _ _ => rel_int) ha hb
theorem E.mul (ha : E X B a f) (hb : E X B b g) : E X B (.BinOp a .Mult b pos) (l2 pMul f g) := E.op op_mul (ad_I fun _ _ _ => rel_int) ha hb
theorem E.fdiv (ha : E X B a f) (hb : E X B b g) : E X B (.BinOp a .FloorDiv b pos) (l2 pFdiv f g) := E.op op_fdiv (ad_I fun _ _ _ => rel_int) ha hb
theorem E.mod (ha : E X B a f) (hb : E X B b g) : E X B (.BinOp a .Mod b pos) (l2 pMod f g) := E.op op_mod (ad_I fun _ _ _ => rel_int) ha hb
theorem E.eq {k : Nat} (hr : Room k X.A) (ha : E X B a f) (hb : E X B b g) : E X B (.Compare a [.Eq] [b] pos) (l2 pEq f g) := E.cmp (op_eqD hr.units) ad_eq (nomark b) ha hb
theorem T.eq {k : Nat} (hr : Room k X.A) (ha : E X B a f) (hb : E X B b g) : T X B (.Compare a [.Eq] [b] pos) (bT (l2 pEq f g)) := T.cmp (op_eqD hr.units) ad_eq (nomark b) ha hb
theorem T.ne {k : Nat} (hr : Room k X.A) (ha : E X B a f) (hb : E X B b g) : T X B (.Compare a [.NotEq] [b] pos) (bT (l2 pNe f g)) := T.cmp (op_neD hr.units) ad_ne (nomark b) ha hb
theorem T.gt (ha : E X B a f) (hb : E X B b g) : T X B (.Compare a [.Gt] [b] pos) (bT (l2 pGt f g)) := T.cmp op_gt (ad_I0 fun _ _ _ => rel_bl) (nomark b) ha hb
end
noncomputable def rCatS (K : PySem.W.Frag) : R2 := fun x y H Q => ∃ l b xs zs, x = .ref l ∧ y = .ref b ∧ SqL K H l xs ∧ SqL K H b zs ∧ xs.length + zs.length ≤ sizeLine ∧ ∀ p, H p = none → Q (.ref p) (upd H p (.lst (xs ++ zs)))
theorem op_catS : OpR X (binaryOp .Add) (rCatS X.K) := by
  intro pins s σ H x y v u Q I rx ry h
  obtain ⟨l, b, xs, zs, rfl, rfl, hH, hB, hz, q⟩ := h
  cases rx
  cases ry
  obtain ⟨its, r, ⟨⟨c1, d1, t1, sl1⟩, n, e, ec, ed, es⟩, z⟩ := I.list hH
  obtain ⟨its2, r2, ⟨⟨c2, d2, t2, sl2⟩, n2, e2, ec2, ed2, es2⟩, z2⟩ := I.list hB
  have hl := r.length
  have hl2 := r2.length
  simp only at ec ed es ec2 ed2 es2
  subst ec ed es ec2 ed2 es2
  have ea : its.toArray ++ its2.toArray = (its ++ its2).toArray := by simp
  refine concat_meets ⟨_, e, rfl⟩ ⟨_, e2, rfl⟩ PySem.noFill_list_add PySem.seq_list_add PySem.F.slot_list_add PySem.F.entry_list_add (PySem.F.args_list_add_2 _ _)
      (list_addW l b its.toArray its2.toArray n n2 none none sl1 sl2 (by rw [List.size_toArray, List.size_toArray]; omega)) ⟨e, e2, ?_⟩
  rw [ea]
  exact ⟨.ref _, _, I.lnew (t' := s.toks) (r.append r2) (by rw [List.length_append]; omega), rfl, q _ I.fresh⟩
noncomputable def rCatTT (K : PySem.W.Frag) : R2 := fun x y H Q => ∃ a b xs ys, x = .ref a ∧ y = .ref b ∧ SqT K H a xs ∧ SqT K H b ys ∧ xs.length + ys.length ≤ sizeLine ∧
  (xs = [] → Q (.ref b) H) ∧ (xs ≠ [] → ys = [] → Q (.ref a) H) ∧ (∀ p, H p = none → Q (.ref p) (upd H p (.tup (xs ++ ys))))
theorem op_catTT : OpR X (binaryOp .Add) (rCatTT X.K) := by
  intro pins s σ H x y v u Q I rx ry h
  obtain ⟨a, b, xs, ys, rfl, rfl, ha, hb, hz, q0, q1, q2⟩ := h
  cases rx
  cases ry
  obtain ⟨its, r1, p1, _⟩ := I.tuple ha
  obtain ⟨its2, r2, p2, _⟩ := I.tuple hb
  by_cases hx : xs = []
  · have hi : its = [] := r1.nil_iff.mpr hx
    obtain ⟨⟨cls, dd, data, sl⟩, ho, hc, n, hd⟩ := id p1
    obtain ⟨⟨cls2, dd2, data2, sl2⟩, ho2, hc2, n2, hd2⟩ := id p2
    simp only at hc hd hc2 hd2
    subst hc hd hc2 hd2
    exact concat_meets ⟨_, ho, rfl⟩ ⟨_, ho2, rfl⟩ noFill_tuple_add seq_tuple_add PySem.F.slot_tuple_add PySem.F.entry_tuple_add (PySem.F.args_tuple_add_2 _ _)
      (tuple_addW0 a b its.toArray its2.toArray n n2 dd dd2 sl sl2 (by simp [hi])) ⟨ho, ho2, ⟨.ref b, H, I, rfl, q0 hx⟩⟩
  · refine HT.cat_tup p1 p2 (fun z => hx (r1.nil_iff.mp z)) (fun z => ⟨.ref a, H, I, rfl, q1 hx (r2.nil_iff.mp z)⟩) (fun z => ?_) (by rw [← r1.length, ← r2.length]; exact hz)
    refine ⟨.ref s.heap.objs.size, _, I.laid (t' := s.toks) (o := .tup (xs ++ ys)) (fun b ob q => Heap.get?_push_of_some _ q) (Nat.le_refl _) ?_, rfl, q2 _ (I.hok.fresh (Nat.le_refl _))⟩
    exact ⟨by rw [List.length_append]; exact hz, _, r1.append r2, IsTup.new _ _⟩
noncomputable def pAdd (x y : PyData) : Option PyData := match x, y with
  | .int i, .int j => some (.int (i + j))
  | .str i, .str j => if i.length + j.length ≤ sizeLine then some (.str (i ++ j)) else none
  | .list i, .list j => if i.length + j.length ≤ sizeLine then some (.list (i ++ j)) else none
  | .tuple i, .tuple j => if i.length + j.length ≤ sizeLine then some (.tuple (i ++ j)) else none
  | _, _ => none
theorem op_addA : OpR X (binaryOp .Add) (fun x y H Q => (∃ i j, x = .int i ∧ y = .int j ∧ Q (.int (i + j)) H) ∨ (∃ i j, x = .str i ∧ y = .str j ∧ i.length + j.length ≤ sizeLine ∧ Q (.str (i ++ j)) H) ∨ rCatS X.K x y H Q ∨ rCatTT X.K x y H Q) :=
  op_add.or (op_add_str.or (op_catS.or op_catTT))
theorem ad_add {K : PySem.W.Frag} : Ad2 K (fun x y H Q => (∃ i j, x = .int i ∧ y = .int j ∧ Q (.int (i + j)) H) ∨ (∃ i j, x = .str i ∧ y = .str j ∧ i.length + j.length ≤ sizeLine ∧ Q (.str (i ++ j)) H) ∨ rCatS K x y H Q ∨ rCatTT K x y H Q) pAdd := fun F H x y dx dy d Q sm rx ry e q => by
  unfold pAdd at e
  split at e
  · cases e
    exact .inl ⟨_, _, rx.int, ry.int, q _ F H (.refl sm) rel_int⟩
  · split at e
    · rename_i hz
      cases e
      exact .inr (.inl ⟨_, _, rx.str, ry.str, hz, q _ F H (.refl sm) rel_str⟩)
    · cases e
  · split at e
    · rename_i hz
      cases e
      obtain ⟨a, xs, rfl, h1, r1⟩ := rx.lst
      obtain ⟨b, ys, rfl, h2, r2⟩ := ry.lst
      refine .inr (.inr (.inl ⟨a, b, xs, ys, rfl, rfl, sm.seq h1, sm.seq h2, by rw [r1.length, r2.length]; exact hz, fun p hp => ?_⟩))
      have g := Gr.one (o := .lst (xs ++ ys)) sm hp
      exact q _ _ _ g (rel_lst (SqL.of upd_same) ((r1.append r2).mono g.ff))
    · cases e
  · rename_i i j
    split at e
    · rename_i hz
      cases e
      obtain ⟨a, xs, rfl, h1, r1⟩ := rx.tup
      obtain ⟨b, ys, rfl, h2, r2⟩ := ry.tup
      refine .inr (.inr (.inr ⟨a, b, xs, ys, rfl, rfl, same_seqT sm h1, same_seqT sm h2, by rw [r1.length, r2.length]; exact hz, fun z => ?_, fun z1 z2 => ?_, fun p hp => ?_⟩))
      · subst z
        have := List.eq_nil_of_length_eq_zero r1.length.symm
        subst this
        exact q _ F H (.refl sm) (rel_tup h2 (by simpa using r2))
      · subst z2
        have := List.eq_nil_of_length_eq_zero r2.length.symm
        subst this
        exact q _ F H (.refl sm) (rel_tup h1 (by simpa using r1))
      · have g := Gr.one (o := .tup (xs ++ ys)) sm hp
        exact q _ _ _ g (rel_tup (SqT.of upd_same) ((r1.append r2).mono g.ff))
    · cases e
  · cases e
section
variable {B : Bd} {a b e : Expr} {es : List Expr} {f g : En → Option PyData} {fs : En → Option (List PyData)} {pos pp : Pos}
theorem E.add (ha : E X B a f) (hb : E X B b g) : E X B (.BinOp a .Add b pos) (l2 pAdd f g) := E.op op_addA ad_add ha hb
noncomputable def pNeg : PyData → Option PyData
  | .int i => some (.int (-i))
  | _ => none
theorem E.neg (ha : E X B a f) : E X B (.UnaryOp .USub a pos) (l1 pNeg f) := PE.imp (pe_un un_neg ha) fun σ H Q ⟨F, η, d, sr, hd, q⟩ => by
  obtain ⟨x, hx, hd⟩ := bind_some hd
  cases x <;> simp only [pNeg, reduceCtorEq, Option.some.injEq] at hd
  subst hd
  exact ⟨F, η, _, sr, hx, fun v F1 H1 g1 rv => ⟨_, rv.int, q _ F1 H1 g1 rel_int⟩⟩
noncomputable def pIx (x y : PyData) : Option PyData := match x, y with
  | .list ds, .int i => atI ds i
  | .tuple ds, .int i => atI ds i
  | .str z, .int i => if z.length ≤ sizeLine then (atI z.cps.toList i).bind fun c => some (.str ⟨#[c]⟩) else none
  | _, _ => none
theorem atI_rel {K : PySem.W.Frag} {F : Hp} {ds : List PyData} {xs : List V} {i : Int} {d : PyData} (r : RelL K F ds xs) (e : atI ds i = some d) : ∃ x, atI xs i = some x ∧ Rel K F d x := by
  unfold atI at e ⊢
  rw [r.length]
  obtain ⟨j, h1, h2⟩ := bind_some e
  rw [h1]
  obtain ⟨x, h3, h4⟩ := r.get h2
  exact ⟨x, h3, h4⟩
theorem ad_ix {K : PySem.W.Frag} : Ad2 K (rIx K) pIx := fun F H x y dx dy d Q sm rx ry e q => by
  unfold pIx at e
  split at e
  · obtain ⟨a, xs, rfl, h1, r1⟩ := rx.lst
    obtain ⟨v, h2, h3⟩ := atI_rel r1 e
    exact .inl ⟨a, xs, _, v, rfl, ry.int, sm.seq h1, h2, q _ F H (.refl sm) h3⟩
  · obtain ⟨a, xs, rfl, h1, r1⟩ := rx.tup
    obtain ⟨v, h2, h3⟩ := atI_rel r1 e
    exact .inr (.inl ⟨a, xs, _, v, rfl, ry.int, same_seqT sm h1, h2, q _ F H (.refl sm) h3⟩)
  · split at e
    · rename_i hz
      obtain ⟨c, h1, h2⟩ := bind_some e
      cases h2
      exact .inr (.inr ⟨_, _, c, rx.str, ry.int, hz, h1, q _ F H (.refl sm) rel_str⟩)
    · cases e
  · cases e
theorem E.at (ha : E X B a f) (hb : E X B b g) (hs : PlainIx b := by intro _ _; rfl) : E X B (.Subscript a b pos) (l2 pIx f g) := E.ix ix_seq ad_ix ha hb hs
noncomputable def flatD : PyData → Bool
  | .none => true
  | .bool _ => true
  | .int _ => true
  | .str _ => true
  | _ => false
theorem flat_of {K : PySem.W.Frag} {F : Hp} {d : PyData} {v : V} (h : flatD d = true) (r : Rel K F d v) : flatV v = true := by
  cases d <;> simp [flatD] at h
  · rw [r.non]; rfl
  · rw [r.bl]; rfl
  · rw [r.int]; rfl
  · rw [r.str]; rfl
theorem flats_of {K : PySem.W.Frag} {F : Hp} : ∀ {ds : List PyData} {vs : List V}, ds.all flatD = true → RelL K F ds vs → vs.all flatV = true
  | [], vs, _, r => by rw [r.nil_of]; rfl
  | d :: ds, vs, h, r => by
    obtain ⟨x, xs, rfl, r1, r2⟩ := r.cons_of
    rw [List.all_cons, Bool.and_eq_true] at h ⊢
    exact ⟨flat_of h.1 r1, flats_of h.2 r2⟩
theorem eqV_of {K : PySem.W.Frag} {F : Hp} {d e : PyData} {x y : V} (hd : flatD d = true) (he : flatD e = true) (r : Rel K F d x) (s : Rel K F e y) : eqV x y = PyData.eqv d e := by
  cases d <;> simp [flatD] at hd <;> cases e <;> simp [flatD] at he
  all_goals (first | rw [r.non] | rw [r.bl] | rw [r.int] | rw [r.str]) <;> (first | rw [s.non] | rw [s.bl] | rw [s.int] | rw [s.str])
  all_goals first | rfl | simp [eqV, PyData.eqv]
theorem inV_of {K : PySem.W.Frag} {F : Hp} {d : PyData} {x : V} (hd : flatD d = true) (r : Rel K F d x) : ∀ {ds : List PyData} {vs : List V}, ds.all flatD = true → RelL K F ds vs → inV x vs = ds.any fun y => PyData.eqv y d
  | [], vs, _, rs => by rw [rs.nil_of]; rfl
  | e :: ds, vs, h, rs => by
    obtain ⟨y, xs, rfl, r1, r2⟩ := rs.cons_of
    rw [List.all_cons, Bool.and_eq_true] at h
    have ih := inV_of hd r h.2 r2
    unfold inV at ih ⊢
    rw [List.any_cons, List.any_cons, ih, eqV_of h.1 hd r1 r]
noncomputable def pIn (neg : Bool) (x y : PyData) : Option PyData := match y with
  | .list ds => if flatD x = true ∧ ds.all flatD = true then some (.bool (if neg then !(ds.any fun y => PyData.eqv y x) else ds.any fun y => PyData.eqv y x)) else none
  | .tuple ds => if flatD x = true ∧ ds.all flatD = true then some (.bool (if neg then !(ds.any fun y => PyData.eqv y x) else ds.any fun y => PyData.eqv y x)) else none
  | .str j => match x with
    | .str i => some (.bool (if neg then !(!(Builtin.Str.occurrences j i 0 j.length 1).isEmpty) else !(Builtin.Str.occurrences j i 0 j.length 1).isEmpty))
    | _ => none
  | _ => none
noncomputable def rInA (K : PySem.W.Frag) (neg : Bool) : R2 := fun x y H Q => rIn K neg x y H Q ∨ (∃ i j, x = .str i ∧ y = .str j ∧ Q (.bl (if neg then !(!(Builtin.Str.occurrences j i 0 j.length 1).isEmpty) else !(Builtin.Str.occurrences j i 0 j.length 1).isEmpty)) H)
theorem op_inA : OpR X (compareOp .In) (rInA X.K false) := op_in_seq.or op_in_str
theorem op_notInA : OpR X (compareOp .NotIn) (rInA X.K true) := op_notIn_seq.or op_notIn_str
theorem ad_in {K : PySem.W.Frag} {neg : Bool} : Ad2 K (rInA K neg) (pIn neg) := fun F H x y dx dy d Q sm rx ry e q => by
  unfold pIn at e
  split at e
  · split at e
    · rename_i hf
      cases e
      obtain ⟨b, ys, rfl, h2, r2⟩ := ry.lst
      refine .inl ⟨b, ys, rfl, .inl (sm.seq h2), flat_of hf.1 rx, flats_of hf.2 r2, ?_⟩
      rw [inV_of hf.1 rx hf.2 r2]
      exact q _ F H (.refl sm) rel_bl
    · cases e
  · split at e
    · rename_i hf
      cases e
      obtain ⟨b, ys, rfl, h2, r2⟩ := ry.tup
      refine .inl ⟨b, ys, rfl, .inr (same_seqT sm h2), flat_of hf.1 rx, flats_of hf.2 r2, ?_⟩
      rw [inV_of hf.1 rx hf.2 r2]
      exact q _ F H (.refl sm) rel_bl
    · cases e
  · split at e
    · cases e
      exact .inr ⟨_, _, rx.str, ry.str, q _ F H (.refl sm) rel_bl⟩
    · cases e
  · cases e
theorem T.in (ha : E X B a f) (hb : E X B b g) (hm : behindInMarks .In b = false := by with_unfolding_all rfl) : T X B (.Compare a [.In] [b] pos) (bT (l2 (pIn false) f g)) := T.cmp op_inA ad_in hm ha hb
theorem T.notIn (ha : E X B a f) (hb : E X B b g) (hm : behindInMarks .NotIn b = false := by with_unfolding_all rfl) : T X B (.Compare a [.NotIn] [b] pos) (bT (l2 (pIn true) f g)) := T.cmp op_notInA ad_in hm ha hb
theorem E.in (ha : E X B a f) (hb : E X B b g) (hm : behindInMarks .In b = false := by with_unfolding_all rfl) : E X B (.Compare a [.In] [b] pos) (l2 (pIn false) f g) := E.cmp op_inA ad_in hm ha hb
noncomputable def AdA (K : PySem.W.Frag) (r : List V → Hp → VK → Prop) (o : List PyData → Option PyData) : Prop :=
  ∀ F H xs ds d Q, Same F H → RelL K F ds xs → o ds = some d → (∀ v F' H', Gr F H F' H' → Rel K F' d v → Q v H') → r xs H Q
theorem tCB_of {K : PySem.W.Frag} {r : List V → Hp → VK → Prop} {o : List PyData → Option PyData} (ad : AdA K r o) : ∀ σ H Q, tE K B (lA o fs) σ H Q → tCB r (tA K B fs) σ H Q := fun σ H Q ⟨F, η, d, sr, hd, q⟩ => by
  obtain ⟨ds, hx, hd⟩ := bind_some hd
  exact ⟨F, η, ds, sr, hx, fun vs F1 H1 g1 rs => ad F1 H1 vs ds d Q g1.fh rs hd fun v F2 H2 g2 rv => q v F2 H2 (g1.trans g2) rv⟩
theorem E.callB {x : Str} {id : String} {r : List V → Hp → VK → Prop} {o : List PyData → Option PyData} (hc : CallR X (.builtin id) r) (ad : AdA X.K r o) (hm : X.mg x = none) (hv : bootBuiltins x = some (.builtin id)) (ha : A X B (e :: es) fs) (hg : Gl X x := by rfl) (hn : x ≠ "__name__" := by decide) (hdb : (x == ("__debug__" : Str)) = false := by decide)
    (he : starEach (e :: es) X.env = (false, eval e X.env) :: starEach es X.env := by exact star_of rfl) (hpl : (backTo pos (starEach es X.env)).any (·.1) = false := by exact plain_of rfl) : E X B (.Call (.Name x pp) (e :: es) [] pos) (lA o fs) :=
  PE.imp (pe_callB hc hg hm hv ha hn hdb he hpl) (tCB_of ad)
theorem E.callTy {x : Str} {id : String} {r : List V → Hp → VK → Prop} {o : List PyData → Option PyData} (hc : CallR X (.type id) r) (ad : AdA X.K r o) (hm : X.mg x = none) (hv : bootBuiltins x = some (.type id)) (ha : A X B (e :: es) fs) (hg : Gl X x := by rfl) (hn : x ≠ "__name__" := by decide) (hdb : (x == ("__debug__" : Str)) = false := by decide)
    (he : starEach (e :: es) X.env = (false, eval e X.env) :: starEach es X.env := by exact star_of rfl) (hpl : (backTo pos (starEach es X.env)).any (·.1) = false := by exact plain_of rfl) : E X B (.Call (.Name x pp) (e :: es) [] pos) (lA o fs) :=
  PE.imp (pe_callTy hc hg hm hv ha hn hdb he hpl) (tCB_of ad)
noncomputable def pLen (ds : List PyData) : Option PyData := match ds with
  | [.list xs] => some (.int xs.length)
  | [.tuple xs] => some (.int xs.length)
  | [.str z] => if z.length ≤ sizeLine then some (.int z.length) else none
  | _ => none
theorem ad_len {K : PySem.W.Frag} : AdA K (fun xs H Q => (∃ p ys, xs = [.ref p] ∧ (SqL K H p ys ∨ SqT K H p ys) ∧ Q (.int ys.length) H) ∨ (∃ z, xs = [.str z] ∧ z.length ≤ sizeLine ∧ Q (.int z.length) H)) pLen := fun F H xs ds d Q sm rs e q => by
  unfold pLen at e
  split at e
  · cases e
    obtain ⟨x, r, rfl, rx, rr⟩ := rs.cons_of
    obtain rfl := rr.nil_of
    obtain ⟨a, ys, rfl, h1, r1⟩ := rx.lst
    exact .inl ⟨a, ys, rfl, .inl (sm.seq h1), by rw [r1.length]; exact q _ F H (.refl sm) rel_int⟩
  · cases e
    obtain ⟨x, r, rfl, rx, rr⟩ := rs.cons_of
    obtain rfl := rr.nil_of
    obtain ⟨a, ys, rfl, h1, r1⟩ := rx.tup
    exact .inl ⟨a, ys, rfl, .inr (same_seqT sm h1), by rw [r1.length]; exact q _ F H (.refl sm) rel_int⟩
  · split at e
    · rename_i hz
      cases e
      obtain ⟨x, r, rfl, rx, rr⟩ := rs.cons_of
      obtain rfl := rr.nil_of
      exact .inr ⟨_, by rw [rx.str], hz, q _ F H (.refl sm) rel_int⟩
    · cases e
  · cases e
theorem E.len (hm : X.mg "len" = none) (ha : A X B [e] fs) (hg : Gl X "len" := by rfl) (he : starEach [e] X.env = (false, eval e X.env) :: starEach [] X.env := by exact star_of rfl) (hpl : (backTo pos (starEach [] X.env)).any (·.1) = false := by rfl) : E X B (.Call (.Name "len" pp) [e] [] pos) (lA pLen fs) :=
  E.callB (call_len_seq.or call_len_str) ad_len hm PySem.boot_len ha hg (by decide) (by decide) he hpl
noncomputable def pTup (ds : List PyData) : Option PyData := match ds with
  | [.list xs] => some (.tuple xs)
  | [.tuple xs] => some (.tuple xs)
  | _ => none
theorem ad_tup {K : PySem.W.Frag} : AdA K (fun xs H Q => ∃ p ys, xs = [.ref p] ∧ ((SqL K H p ys ∧ ∀ l, H l = none → Q (.ref l) (upd H l (.tup ys))) ∨ (SqT K H p ys ∧ Q (.ref p) H))) pTup := fun F H xs ds d Q sm rs e q => by
  unfold pTup at e
  split at e
  · cases e
    obtain ⟨x, r, rfl, rx, rr⟩ := rs.cons_of
    obtain rfl := rr.nil_of
    obtain ⟨a, ys, rfl, h1, r1⟩ := rx.lst
    refine ⟨a, ys, rfl, .inl ⟨sm.seq h1, fun p hp => ?_⟩⟩
    have g := Gr.one (o := .tup ys) sm hp
    exact q _ _ _ g (rel_tup (SqT.of upd_same) (r1.mono g.ff))
  · cases e
    obtain ⟨x, r, rfl, rx, rr⟩ := rs.cons_of
    obtain rfl := rr.nil_of
    obtain ⟨a, ys, rfl, h1, r1⟩ := rx.tup
    exact ⟨a, ys, rfl, .inr ⟨same_seqT sm h1, q _ F H (.refl sm) (rel_tup h1 r1)⟩⟩
  · cases e
theorem E.tuple (hm : X.mg "tuple" = none) (ha : A X B [e] fs) (hg : Gl X "tuple" := by rfl) (he : starEach [e] X.env = (false, eval e X.env) :: starEach [] X.env := by exact star_of rfl) (hpl : (backTo pos (starEach [] X.env)).any (·.1) = false := by rfl) : E X B (.Call (.Name "tuple" pp) [e] [] pos) (lA pTup fs) :=
  E.callTy call_tuple_of ad_tup hm (by decide +kernel) ha hg (by decide) (by decide) he hpl
end
end
noncomputable def cutL {α : Type} (xs : List α) (lo hi : Option Int) : List α := (xs.drop (HT.sIx xs.length 0 lo)).take (HT.sIx xs.length xs.length hi - HT.sIx xs.length 0 lo)
section
variable {X : Cx}
theorem RelL.cut {K : PySem.W.Frag} {F : Hp} {ds : List PyData} {xs : List V} (r : RelL K F ds xs) (lo hi : Option Int) : RelL K F (cutL ds lo hi) (cutV xs lo hi) := by
  unfold cutL cutV
  rw [r.length]
  exact (r.drop _).take _
theorem sl_tupW : SlR X (fun x lo hi H Q => ∃ a xs, x = .ref a ∧ SqT X.K H a xs ∧ (HT.sIx xs.length 0 lo = 0 ∧ HT.sIx xs.length xs.length hi = xs.length) ∧ Q (.ref a) H) := by
  intro pins s σ H x v vl vu lo hi sl Q I rx hs pl pu h
  obtain ⟨a, xs, rfl, hx, hw, q⟩ := h
  cases rx
  obtain ⟨its, r, ht, hz⟩ := I.tuple hx
  have hlen : its.toArray.size = xs.length := by rw [List.size_toArray]; exact r.length.symm
  refine ⟨"tuple", _, PyProof.Rows.slot_tuple_getitem.lookup, ht.typeIs, ?_⟩
  obtain ⟨os, hos, hcs, hds⟩ := id hs
  have hTs : s.TypeIs (.ref sl) "slice" := ⟨os, hos, hcs⟩
  unfold getItem
  try with_reducible refine wpAny_holding ?_
  first | refine wpAny_bind (wpAny_pure ?_) | skip
  refine wpAny_bind (wpAny_sequenceKey ht.typeIs (by decide) ?_)
  refine wpAny_bind (wpAny_callSpecial?_slot (name := Str.ofString "__getitem__") ht.typeIs PyProof.Rows.slot_tuple_getitem
    (wpAny_call_entry PyProof.Rows.slot_tuple_getitem ht.typeIs entry_tuple_getitem ?_ (args_tuple_getitem _ _)))
  show wpAny _ _ (Builtin.Tuple.tupleItemsOf (.ref a) >>= _) _ _ s
  refine wpAny_bind (tupleItemsOf_ ht ?_)
  refine wpAny_bind (wpAny_typeOf hTs ?_)
  rw [if_pos (by decide)]
  refine wpAny_bind (HT.sliceApplied_gen hs pl pu ?_)
  rw [hlen]
  have hyes : ((((HT.sIx xs.length 0 lo : Nat) : Int) == 0 && (1 : Int) == 1 && (HT.sIx xs.length xs.length hi - HT.sIx xs.length 0 lo) == xs.length) = true) := by
    rw [hw.1, hw.2]; simp
  show wpAny _ _ (if (((HT.sIx xs.length 0 lo : Nat) : Int) == 0 && (1 : Int) == 1 && (HT.sIx xs.length xs.length hi - HT.sIx xs.length 0 lo) == xs.length) = true then _ else _) _ _ s
  rw [if_pos hyes]
  have fin : EP X pins σ Q (.ref a) s := ⟨.ref a, H, I, rfl, q⟩
  refine wpAny_bind ?_
  unfold Builtin.Tuple.tupleIsExact
  refine wpAny_bind (wpAny_typeOf ht.typeIs (wpAny_pure ?_))
  rw [if_pos (by decide)]
  exact wpAny_bind (wpAny_rule (wpAny_pure ⟨_, rfl, wpAny_pure fin⟩))
noncomputable def pSl (x : PyData) (lo hi : Option Int) : Option PyData := match x with
  | .list ds => some (.list (cutL ds lo hi))
  | .tuple ds => some (.tuple (cutL ds lo hi))
  | _ => none
noncomputable def rSlA (K : PySem.W.Frag) : V → Option Int → Option Int → Hp → VK → Prop := fun x lo hi H Q => rSlL K x lo hi H Q ∨ rSlT K x lo hi H Q ∨ (∃ a xs, x = .ref a ∧ SqT K H a xs ∧ (HT.sIx xs.length 0 lo = 0 ∧ HT.sIx xs.length xs.length hi = xs.length) ∧ Q (.ref a) H)
theorem sl_A : SlR X (rSlA X.K) := sl_list.or (sl_tup.or sl_tupW)
theorem ad_sl {K : PySem.W.Frag} {F H : Hp} {x : V} {dx d : PyData} {lo hi : Option Int} {Q : VK} (sm : Same F H) (rx : Rel K F dx x) (e : pSl dx lo hi = some d) (q : ∀ v F' H', Gr F H F' H' → Rel K F' d v → Q v H') : rSlA K x lo hi H Q := by
  unfold pSl at e
  split at e
  · cases e
    obtain ⟨a, xs, rfl, h1, r1⟩ := rx.lst
    refine .inl ⟨a, xs, rfl, sm.seq h1, fun p hp => ?_⟩
    have g := Gr.one (o := .lst (cutV xs lo hi)) sm hp
    exact q _ _ _ g (rel_lst (SqL.of upd_same) ((r1.cut lo hi).mono g.ff))
  · cases e
    obtain ⟨a, xs, rfl, h1, r1⟩ := rx.tup
    by_cases hw : HT.sIx xs.length 0 lo = 0 ∧ HT.sIx xs.length xs.length hi = xs.length
    · refine .inr (.inr ⟨a, xs, rfl, same_seqT sm h1, hw, q _ F H (.refl sm) (rel_tup h1 ?_)⟩)
      have := r1.cut lo hi
      have e2 : cutV xs lo hi = xs := by
        unfold cutV
        rw [hw.1, hw.2]
        simp
      rw [e2] at this
      exact this
    · refine .inr (.inl ⟨a, xs, rfl, same_seqT sm h1, hw, fun p hp => ?_⟩)
      have g := Gr.one (o := .tup (cutV xs lo hi)) sm hp
      exact q _ _ _ g (rel_tup (SqT.of upd_same) ((r1.cut lo hi).mono g.ff))
  · cases e
section
variable {B : Bd} {a b e : Expr} {es : List Expr} {f g : En → Option PyData} {fs : En → Option (List PyData)} {pos pp p2 : Pos} {lo hi : Option Expr} {fl fh : En → Option (Option Int)}
noncomputable def tP (K : PySem.W.Frag) (B : Bd) (f : En → Option (Option Int)) : TO := fun σ H Q => ∃ F η o, SR K B F H σ η ∧ f η = some o ∧ ∀ F' H', Gr F H F' H' → Q o H'
noncomputable def P (X : Cx) (B : Bd) (e : Option Expr) (f : En → Option (Option Int)) : Prop := PO X e (tP X.K B f)
noncomputable def pN : En → Option (Option Int) := fun _ => some none
noncomputable def asI : PyData → Option Int
  | .int i => some i
  | _ => none
theorem asI_some {d : PyData} {i : Int} (h : asI d = some i) : d = .int i := by
  cases d <;> simp [asI] at h
  rw [h]
noncomputable def pS (f : En → Option PyData) : En → Option (Option Int) := fun η => (f η).bind fun d => (asI d).bind fun i => some (some i)
theorem PO.imp {X : Cx} {e : Option Expr} {t t' : TO} (h : PO X e t) (i : ∀ σ H Q, t' σ H Q → t σ H Q) : PO X e t' := fun pins s σ H Q I q => h pins s σ H Q I (i σ H Q q)
theorem P.none : P X B none pN := PO.imp po_none fun σ H Q ⟨F, η, d, sr, hd, q⟩ => by
  cases hd
  exact q F H (.refl sr.same)
theorem P.some (h : E X B e f) : P X B (some e) (pS f) := PO.imp (po_some h) fun σ H Q ⟨F, η, d, sr, hd, q⟩ => by
  obtain ⟨x, hx, hd⟩ := bind_some hd
  obtain ⟨i, hi, hd⟩ := bind_some hd
  cases hd
  obtain rfl := asI_some hi
  exact ⟨F, η, _, sr, hx, fun v F1 H1 g1 rv => ⟨i, rv.int, q F1 H1 g1⟩⟩
noncomputable def eSl (f : En → Option PyData) (fl fh : En → Option (Option Int)) : En → Option PyData := fun η => (f η).bind fun x => (fl η).bind fun l => (fh η).bind fun h => pSl x l h
theorem E.sl (he : E X B e f) (hl : P X B lo fl) (hu : P X B hi fh) : E X B (.Subscript e (.Slice lo hi none p2) pos) (eSl f fl fh) := PE.imp (pe_slice sl_A he hl hu) fun σ H Q ⟨F, η, d, sr, hd, q⟩ => by
  obtain ⟨x, hx, hd⟩ := bind_some hd
  obtain ⟨l, hl, hd⟩ := bind_some hd
  obtain ⟨h, hh, hd⟩ := bind_some hd
  refine ⟨F, η, x, sr, hx, fun v F1 H1 g1 rv => ⟨F1, η, l, sr.grow g1, hl, fun F2 H2 g2 => ⟨F2, η, h, (sr.grow g1).grow g2, hh, fun F3 H3 g3 => ?_⟩⟩⟩
  exact ad_sl g3.fh (rv.mono (g2.ff.trans g3.ff)) hd fun w F4 H4 g4 rw' => q w F4 H4 (((g1.trans g2).trans g3).trans g4) rw'
noncomputable def rSum (K : PySem.W.Frag) : List V → Hp → VK → Prop := fun xs H Q => ∃ (p : Addr) (ns : List Int), xs = [.ref p] ∧ SqL K H p (ns.map V.int) ∧ Q (.int ns.sum) H
noncomputable def asIs : List PyData → Option (List Int)
  | [] => some []
  | .int i :: r => (asIs r).bind fun ns => some (i :: ns)
  | _ :: _ => none
noncomputable def pSum (ds : List PyData) : Option PyData := match ds with
  | [.list xs] => (asIs xs).bind fun ns => some (.int ns.sum)
  | _ => none
noncomputable def rExtS (K : PySem.W.Frag) : V → List V → Hp → VK → Prop := fun x vs H Q => ∃ l b xs zs, x = .ref l ∧ vs = [.ref b] ∧ H l = some (.lst xs) ∧ SqL K H b zs ∧ xs.length + zs.length ≤ sizeLine ∧ Q .non (upd H l (.lst (xs ++ zs)))
variable {apos cpos : Pos}
theorem S.app (i : Nat) {x : Str} {npos : Pos} (he : E X B e f) (hN : X.N[i]? = some x := by rfl) (hv : Vis X.env.scope x := by first | exact Or.inl rfl | exact Or.inr (Or.inl rfl) | exact Or.inr (Or.inr rfl)) (hd : (x == ("__debug__" : Str)) = false := by decide) (hcd : (x == ("__classdict__" : Str)) = false := by decide)
    (hbase : attributeBase (.Name x npos) "append" X.env (eval (.Name x npos) X.env) = eval (.Name x npos) X.env := by rfl)
    (hfew : ((backTo cpos (starEach [e] X.env)).all (fun x => !x.1) && (backToKw cpos (keywordEach [] X.env)).all (fun x => x.1.isSome)
      && decide ([e].length + ([] : List Keyword).length + (if ([] : List Keyword).isEmpty then 0 else 1) < 30)) = true := by rfl)
    (hline : (apos.endLine == cpos.line) = true := by rfl) (hs : starEach [e] X.env = (false, eval e X.env) :: starEach [] X.env := by exact star_of rfl) (hplain : (backTo cpos (starEach [] X.env)).any (·.1) = false := by rfl)
    (hsw : swapsWith (.Call (.Attribute (.Name x npos) "append" apos) [e] [] cpos) none pos.line X.env = pure false := by rfl) :
    S X B (.Expr (.Call (.Attribute (.Name x npos) "append" apos) [e] [] cpos) pos) (sApp i f) :=
  PS.imp (ps_expr (pe_bm PySem.F.plainAttrs_list PySem.F.slot_list_append PySem.F.type_list_append mt_append (pe_var hN hv hd hcd) (A.cons he A.nil hs) hbase hfew hline hs hplain) hsw) fun D σ H ⟨F, η, o, sr, hd, q⟩ => by
    obtain ⟨dv, h1, hd⟩ := bind_some hd
    split at hd
    · rename_i ds ed
      split at hd
      · rename_i hz
        cases hd
        obtain ⟨p, xs, e1, e2, e3, e4, e5⟩ := sr.en.own i ds ed
        refine ⟨_, e1, .inl ⟨rfl, xs, SqL.of e4⟩, F, η, _, sr, (by show (f η).bind _ = _; rw [h1]; rfl), fun vs F1 H1 g1 rs => ?_⟩
        obtain ⟨y, r, rfl, ry, rr⟩ := rs.cons_of
        obtain rfl := rr.nil_of
        have sr1 := sr.grow g1
        obtain ⟨p', xs', q1, q2, q3, q4, q5⟩ := sr1.en.own i ds ed
        rw [e1] at q1
        have ep : p = p' := by injection (Option.some.inj (Option.some.inj q1))
        subst ep
        refine ⟨p, xs', y, rfl, rfl, q4, by rw [q5.length]; exact hz, ?_⟩
        refine q σ F1 _ ⟨⟨sr1.gr.ff, fun c u z => ?_, fun c u z => ?_, sr1.gr.new⟩, sr1.en.putOwn ed e1 (q5.append (.cons ry .nil))⟩ g1.ff
        · have nb : c ≠ p := ne_of_none z q3
          rw [upd_ne nb]; exact sr1.gr.hh c u z
        · have nb : c ≠ p := ne_of_none z q2
          rw [upd_ne nb]; exact sr1.gr.fh c u z
      · cases hd
    · cases hd
end
end
noncomputable def signD (x : Str) : List PyData := x.cps.toList.map fun c => PyData.str ⟨#[c]⟩
noncomputable def enumD (ds : List PyData) (i : Nat) : List PyData := match ds with
  | [] => []
  | d :: r => .tuple [.int i, d] :: enumD r (i + 1)
theorem enumD_get : ∀ (ds : List PyData) (k i : Nat) (d : PyData), (enumD ds k)[i]? = some d → ∃ c, ds[i]? = some c ∧ d = .tuple [.int ((k + i : Nat) : Int), c]
  | [], k, i, d, h => by simp [enumD] at h
  | c :: r, k, 0, d, h => by
    simp [enumD] at h
    exact ⟨c, rfl, h.symm⟩
  | c :: r, k, i + 1, d, h => by
    have h' : (enumD r (k + 1))[i]? = some d := by simpa [enumD] using h
    obtain ⟨c', h1, h2⟩ := enumD_get r (k + 1) i d h'
    exact ⟨c', by simpa using h1, by rw [h2, show k + 1 + i = k + (i + 1) by omega]⟩
theorem enumD_len : ∀ (ds : List PyData) (k : Nat), (enumD ds k).length = ds.length
  | [], _ => rfl
  | _ :: r, k => by rw [enumD, List.length_cons, List.length_cons, enumD_len r]
noncomputable def Ite (x : Str) : It := ⟨fun i _ => i < x.cps.size, fun i H v H' => ∃ T c, H T = none ∧ x.cps[i]? = some c ∧ v = .ref T ∧ H' = upd H T (.tup [.int (i : Nat), .str ⟨#[c]⟩]), fun i _ => i = x.cps.size⟩
section
theorem turn_enum {P : Program} {w : World} {K : PySem.W.Frag} {elts : List Expr} {k : Nat} {tp : Pos} {e it : Addr} {x : Str} {St : Nat → Heap → Prop} (hei : e ≠ it)
    (D : ∀ A : Around, A.handled = none → Draws P w A it [it] x.cps.size (fun i v => ∃ c u, x.cps[i]? = some c ∧ v = .str ⟨#[c]⟩ u) St) (hcell : ∀ i h, St i h → ∃ o, h.get? it = some o ∧ ∀ v, o.data ≠ .cell v) :
    Turn P w K (.Tuple elts k tp) (Ite x) [e, it] e (fun i h => (∃ old, IsEnum h e it i old) ∧ St i h) where
  mem := by simp
  obj := fun i h st b hb => by
    obtain ⟨⟨old, he⟩, hs⟩ := st
    rcases List.mem_cons.mp hb with rfl | hb
    · exact ⟨_, he, fun v z => by cases z⟩
    · rw [List.mem_singleton.mp hb]
      exact hcell i h hs
  keep := fun i h h' st kk => by
    obtain ⟨⟨old, he⟩, hs⟩ := st
    refine ⟨⟨old, kk e (by simp) _ he⟩, ?_⟩
    exact (D { frames := none, units := 0, depth := 0, handled := none } rfl).frame i h h' hs fun b hb o q => kk b (by rw [List.mem_singleton.mp hb]; simp) o q
  item := by
    intro X hP hw hK hc i pins s σ H E I hf st hg
    subst hP hw hK
    have W := WalksT.enumerateD (prog := X.prog) (w := X.w) (A := X.A) (D X.A.in1 (I.ok.hd hc)) e hei (by simpa using hei) (by simp)
    refine W.item i s _ _ hg st fun T vals h' tk Pt hT hIs Md kp => ⟨.ref T, rfl, ?_⟩
    refine W.go elts k tp i T _ _ _ Md fun h'' st'' kp'' => ?_
    obtain ⟨t, xv, ⟨c, u, hcx, rfl⟩, rfl⟩ := Pt
    have nT : H T = none := I.hok.fresh hT
    have aT : T ∉ [e, it] := W.apart i T _ Md
    have kall : ∀ b o, b ∉ [e, it] → s.heap.get? b = some o → h''.get? b = some o := fun b o hb q => kp'' b o hb (kp b o hb q)
    have hIs'' : IsTup h'' T #[.int i t, .str ⟨#[c]⟩ u] := by
      obtain ⟨o, ho, hcl, n, hd⟩ := hIs
      exact ⟨o, kp'' T o aT ho, hcl, n, hd⟩
    have ltT : ∀ b o, s.heap.get? b = some o → b ≠ T := fun b o q => Nat.ne_of_lt (Nat.lt_of_lt_of_le (Heap.lt_size q) hT)
    have nfp : ∀ b o, H b = some o → b ∉ [e, it] := fun b o q hb => by rw [(hf b hb).1] at q; cases q
    have J : Inv X pins σ (upd H T (.tup [.int (i : Nat), .str ⟨#[c]⟩])) { s with heap := h'', toks := tk } := by
      refine I.step (h' := h'') (g' := s.gens) (d' := s.drawn) (t' := tk) (ch := [e, it]) (fun b hb => ⟨(hf b hb).2.2.2.1, (hf b hb).2.1, (hf b hb).2.2.2.2.1, (hf b hb).2.2.2.2.2⟩)
        (fun b o _ _ hb q _ => kall b o hb q) (fun b o _ _ hb q _ => ⟨o.slots, kall b o hb q⟩) (fun b o _ q n => by rw [upd_ne (ltT b o q)]; exact n) (fun b o hb q => ⟨o, kall b o hb q⟩)
        (fun b xs q => by rw [upd_ne (ne_of_none q nT)]; exact q) (fun b o xs q => by rw [upd_ne (ne_of_none q nT)]; exact q) (fun b ps q => ⟨#[], by rw [upd_ne (ne_of_none q nT), q]; simp⟩) (fun m hm => ?_) (fun b o q => ?_) I.bare
      · obtain ⟨o, es, ep, ho, r⟩ := hm
        refine ⟨o, es, ep, kall _ o (fun hb => ?_) ho, r⟩
        exact (hf _ hb).2.1 rfl
      · by_cases hb : b = T
        · subst hb
          rw [upd_same] at q
          cases q
          exact ⟨by show 2 ≤ sizeLine; decide, [.int i t, .str ⟨#[c]⟩ u], .cons ⟨t, rfl⟩ (.cons ⟨u, rfl⟩ .nil), hIs''⟩
        · rw [upd_ne hb] at q
          refine (I.hok b o q).stay (fun c' v hc' z => kall c' v ?_ z) (fun c' z => by rw [upd_ne (ne_of_none z nT)]; exact z) fun c' xs z => by rw [upd_ne (ne_of_none z nT)]; exact z
          rcases hc' with rfl | hc'
          · exact nfp _ _ q
          · exact nfp _ _ hc'
    refine ⟨.ref T, upd H T (.tup [.int (i : Nat), .str ⟨#[c]⟩]), J, rfl, ⟨T, c, nT, hcx, rfl, rfl⟩, st'', fun b hb => ?_⟩
    have nb : b ≠ T := fun z => aT (by rw [← z]; exact hb)
    rw [upd_ne nb]; exact (hf b hb).1
  done := by
    intro X hP hw hK hc i pins s σ H E I hf st hg
    subst hP hw hK
    have W := WalksT.enumerateD (prog := X.prog) (w := X.w) (A := X.A) (D X.A.in1 (I.ok.hd hc)) e hei (by simpa using hei) (by simp)
    have hg' : i = x.cps.size := hg
    rw [hg'] at st
    refine W.done s _ _ st fun h' tk kp => ⟨rfl, ?_⟩
    have nfp : ∀ b o, H b = some o → b ∉ [e, it] := fun b o q hb => by rw [(hf b hb).1] at q; cases q
    refine I.step (h' := h') (g' := s.gens) (d' := s.drawn) (t' := tk) (ch := [e, it]) (fun b hb => ⟨(hf b hb).2.2.2.1, (hf b hb).2.1, (hf b hb).2.2.2.2.1, (hf b hb).2.2.2.2.2⟩)
      (fun b o _ _ hb q _ => kp b o hb q) (fun b o _ _ hb q _ => ⟨o.slots, kp b o hb q⟩) (fun _ _ _ _ n => n) (fun b o hb q => ⟨o, kp b o hb q⟩)
      (fun _ _ q => q) (fun _ _ _ q => q) (fun b ps q => ⟨#[], by rw [q]; simp⟩) (fun m hm => ?_) (fun b o q => ?_) I.bare
    · obtain ⟨o, es, ep, ho, r⟩ := hm
      exact ⟨o, es, ep, kp _ o (fun hb => (hf _ hb).2.1 rfl) ho, r⟩
    · refine (I.hok b o q).stay (fun c' v hc' z => kp c' v ?_ z) (fun _ z => z) fun _ _ z => z
      rcases hc' with rfl | hc'
      · exact nfp _ _ q
      · exact nfp _ _ hc'
  self := fun A i s Q E st h => by
    obtain ⟨⟨old, he⟩, hs⟩ := st
    exact wpAny_pyIter_enum he h
variable {X : Cx} {B : Bd} {a : Expr} {fs : En → Option (List PyData)} {pos pp : Pos}
noncomputable def enS (ds : List PyData) : Option (List PyData) := match ds with
  | [.str x] => some (enumD (signD x) 0)
  | _ => none
theorem itp_enum {K : PySem.W.Frag} {F : Hp} {x : Str} : ItP K (Ite x) F (enumD (signD x) 0) := fun F1 H1 i s1 s2 => by
  have hl : (enumD (signD x) 0).length = x.cps.size := by rw [enumD_len]; unfold signD; rw [List.length_map, Array.length_toList]
  refine ⟨fun d e => ?_, fun e => by show i = _; rw [e, hl]⟩
  have hi : i < x.cps.size := by rw [← hl]; exact (List.getElem?_eq_some_iff.mp e).1
  refine ⟨hi, fun v H2 y => ?_⟩
  obtain ⟨T, c, hT, hc, rfl, rfl⟩ := y
  obtain ⟨cd, h1, h2⟩ := enumD_get _ _ _ _ e
  have : cd = .str ⟨#[c]⟩ := by
    unfold signD at h1
    rw [List.getElem?_map] at h1
    have hc' : x.cps.toList[i]? = some c := by simpa using hc
    rw [hc'] at h1
    exact (Option.some.inj h1).symm
  subst this
  rw [Nat.zero_add] at h2
  subst h2
  have g := Gr.one (o := .tup [.int (i : Nat), .str ⟨#[c]⟩]) s2 hT
  exact ⟨_, g, rel_tup (SqT.of upd_same) (.cons rel_int (.cons rel_str .nil))⟩
theorem I.enum {elts : List Expr} {k : Nat} {tp : Pos} (hc : X.calm = true) (hm : X.mg "enumerate" = none) (ha : A X B [a] fs) (hg : Gl X "enumerate" := by rfl) (hs : starEach [a] X.env = [(false, eval a X.env)] := by exact star_of rfl) :
    I X B (.Tuple elts k tp) (.Call (.Name "enumerate" pp) [a] [] pos) (fun η => (fs η).bind enS) := by
  intro pins s σ H R I ⟨F, η, ds, sr, hd, q⟩
  obtain ⟨es, h1, hd⟩ := bind_some hd
  unfold enS at hd
  split at hd
  · rename_i x
    cases hd
    refine Call_ (ld_blt I hg hm boot_enumerate (PyProof.Rows.callWith_type1 (thn (ha pos pins s σ H (fun vs H1 => ∃ F', Gr F H F' H1 ∧ RelL X.K F' [.str x] vs) I ⟨F, η, _, sr, h1, fun vs F' H' g r => ⟨F', g, r⟩⟩) fun us s1 ⟨vs, H1, I1, r1, F1, g1, rl⟩ => ?_) hs rfl))
    obtain ⟨y, r, rfl, ry, rr⟩ := rl.cons_of
    obtain rfl := rr.nil_of
    obtain ⟨u, rfl, ru⟩ := vals1 r1
    rw [ry.str] at ru
    obtain ⟨t, rfl⟩ := ru
    refine call_enumerate_str fun h' he hit hsz hk => ?_
    refine wpAny_pyIter_enum he ?_
    have I2 : Inv X pins σ H1 { s1 with heap := h' } := I1.kept (t' := s1.toks) hk
    have nw : ∀ b, s1.heap.objs.size ≤ b → FpOk X pins H1 b := fun b hb => I1.fpOk hb (I1.hok.fresh hb)
    have fpo : ∀ b ∈ [s1.heap.objs.size + 1, s1.heap.objs.size], FpOk X pins H1 b := fun b hb => by
      rcases List.mem_cons.mp hb with rfl | hb
      · exact nw _ (Nat.le_succ _)
      · rw [List.mem_singleton.mp hb]; exact nw _ (Nat.le_refl _)
    have cel : ∀ (ty : String) (i : Nat) (h : Heap), h.IsStrIter s1.heap.objs.size ty x t i → ∃ o, h.get? s1.heap.objs.size = some o ∧ ∀ v, o.data ≠ .cell v := fun ty i h st => by
      obtain ⟨o, ho, hcl, hd⟩ := st
      exact ⟨o, ho, fun v z => by rw [hd] at z; cases z⟩
    cases ha' : x.cps.all (· < 128)
    · have hit' : h'.IsStrIter s1.heap.objs.size "str_iterator" x t 0 := by simpa [strIterType, ha'] using hit
      exact ⟨_, _, _, _, H1, rfl, I2, turn_enum (Nat.succ_ne_self _) (fun A hA => Draws.strWide hA _ x t) (cel _), ⟨⟨_, he⟩, hit'⟩, fpo, q _ F1 H1 g1 itp_enum⟩
    · have hit' : h'.IsStrIter s1.heap.objs.size "str_ascii_iterator" x t 0 := by simpa [strIterType, ha'] using hit
      exact ⟨_, _, _, _, H1, rfl, I2, turn_enum (Nat.succ_ne_self _) (fun A hA => Draws.strAscii hA _ x t) (cel _), ⟨⟨_, he⟩, hit'⟩, fpo, q _ F1 H1 g1 itp_enum⟩
  · cases hd
end
noncomputable def leS (a b : Str) : Bool := !ltCps b.cps.toList a.cps.toList
theorem str_ext {a b : Str} (h : a.cps.toList = b.cps.toList) : a = b := by
  obtain ⟨a⟩ := a
  obtain ⟨b⟩ := b
  have : a = b := Array.toList_inj.mp h
  rw [this]
noncomputable def srtS (ss : List Str) : List Str := ss.mergeSort leS
noncomputable def srtI (ns : List Int) : List Int := ns.mergeSort fun a b => decide (a ≤ b)
section
variable {X : Cx}
noncomputable def rSrtS (K : PySem.W.Frag) : List V → Hp → VK → Prop := fun xs H Q => ∃ (p : Addr) (ss : List Str), xs = [.ref p] ∧ SqL K H p (ss.map V.str) ∧ ss.length < 64 ∧ ∀ l, H l = none → Q (.ref l) (upd H l (.lst ((srtS ss).map V.str)))
noncomputable def rSrtI (K : PySem.W.Frag) : List V → Hp → VK → Prop := fun xs H Q => ∃ (p : Addr) (ns : List Int), xs = [.ref p] ∧ SqL K H p (ns.map V.int) ∧ ns.length < 64 ∧ ∀ l, H l = none → Q (.ref l) (upd H l (.lst ((srtI ns).map V.int)))
noncomputable def asSs : List PyData → Option (List Str)
  | [] => some []
  | .str i :: r => (asSs r).bind fun ns => some (i :: ns)
  | _ :: _ => none
theorem asSs_some : ∀ {ds : List PyData} {ns : List Str}, asSs ds = some ns → ds = ns.map PyData.str
  | [], ns, h => by cases h; rfl
  | .str i :: r, ns, h => by
    obtain ⟨ms, h1, h2⟩ := bind_some h
    cases h2
    rw [asSs_some h1]; rfl
  | .none :: _, _, h => by cases h
  | .bool _ :: _, _, h => by cases h
  | .int _ :: _, _, h => by cases h
  | .list _ :: _, _, h => by cases h
  | .tuple _ :: _, _, h => by cases h
  | .dict _ :: _, _, h => by cases h
theorem RelL.strs_of {K : PySem.W.Frag} {F : Hp} : ∀ {ns : List Str} {xs : List V}, RelL K F (ns.map PyData.str) xs → xs = ns.map V.str
  | [], xs, h => h.nil_of
  | n :: r, xs, h => by
    obtain ⟨x, ys, rfl, h1, h2⟩ := h.cons_of
    rw [h1.str, RelL.strs_of h2]; rfl
noncomputable def pSort (ds : List PyData) : Option PyData := match ds with
  | [.list xs] => if xs.length < 64 then (match asSs xs with
    | some ss => some (.list ((srtS ss).map PyData.str))
    | none => (asIs xs).bind fun ns => some (.list ((srtI ns).map PyData.int))) else none
  | _ => none
variable {B : Bd} {a b e : Expr} {es : List Expr} {f g : En → Option PyData} {fs : En → Option (List PyData)} {pos pp apos cpos : Pos}
noncomputable def rIdx (K : PySem.W.Frag) : V → List V → Hp → VK → Prop := fun x vs H Q => ∃ l xs y j, x = .ref l ∧ vs = [y] ∧ SqL K H l xs ∧ flatV y = true ∧ xs.all flatV = true ∧ xs.findIdx? (fun z => eqV z y) = some j ∧ Q (.int (j : Nat)) H
noncomputable def pIdx (x y : PyData) : Option PyData := match x with
  | .list ds => if flatD y = true ∧ ds.all flatD = true then (ds.findIdx? fun z => PyData.eqv z y).bind fun j => some (.int (j : Nat)) else none
  | _ => none
end
noncomputable def compChk (N : List Str) (sc scope : Scope) (N' : List Str) (mp : List (Option Nat)) : Bool :=
  decide (scope.kind = .function) && decide (sc.kind = .function) && decide (∀ x ∈ scope.names, x.2 ≠ .cell) && decide (∀ x ∈ scope.names, x.2 = .local → scope.names.lookup x.1 = some .local) &&
  decide (∀ x ∈ scope.names, x.2 = .free → sc.names.lookup x.1 = some .cell) && decide (mp.length = N'.length) &&
  (N'.zip mp).all fun p => match p.2 with
    | none => true
    | some j => decide (N[j]? = some p.1) && decide (scope.names.lookup p.1 = some .free)
theorem lookup_relabel_free {env : Env} (hk : env.scope.kind = .function) : ∀ {names : List (Str × NameKind)} {x : Str}, names.lookup x = some .free → env.kindOf x = some .cell →
    (names.map fun (n, k) => if (k == NameKind.free && env.scope.kind == .function && env.kindOf n == some .cell) then (n, NameKind.cell) else (n, k)).lookup x = some .cell
  | [], _, h, _ => by simp at h
  | (n, k) :: r, x, h, hc => by
    have ih := @lookup_relabel_free env hk r x
    show List.lookup x ((if (k == NameKind.free && env.scope.kind == .function && env.kindOf n == some .cell) = true then (n, NameKind.cell) else (n, k)) :: _) = _
    cases hx : x == n with
    | true =>
      have en : x = n := by simpa using hx
      subst en
      simp only [List.lookup_cons, hx] at h
      cases h
      rw [if_pos (by rw [hk, hc]; rfl)]
      simp [List.lookup_cons]
    | false =>
      simp only [List.lookup_cons, hx] at h
      split <;> simp only [List.lookup_cons, hx] <;> exact ih h hc
theorem CompSc.of {X : Cx} {scope : Scope} {N' : List Str} {mp : List (Option Nat)} (h : compChk X.N X.env.scope scope N' mp = true) : CompSc X scope N' mp := by
  unfold compChk at h
  simp only [Bool.and_eq_true, decide_eq_true_eq] at h
  obtain ⟨⟨⟨⟨⟨⟨h1, h0⟩, h2⟩, h3⟩, h4⟩, h5⟩, h6⟩ := h
  refine ⟨h1, h2, h3, fun x hx hf => .inl (h4 x hx hf), h5, fun i x j e1 e2 => ?_⟩
  have hm : (x, some j) ∈ N'.zip mp := by
    have : (N'.zip mp)[i]? = some (x, some j) := by rw [List.getElem?_zip_eq_some]; exact ⟨e1, e2⟩
    exact List.mem_of_getElem? this
  have h7 := List.all_eq_true.mp h6 _ hm
  simp only [Bool.and_eq_true, decide_eq_true_eq] at h7
  have hmem : (x, NameKind.free) ∈ scope.names := PySem.mem_of_lookup h7.2
  exact ⟨h7.1, hmem, .inl (lookup_relabel_free h0 h7.2 (h4 _ hmem rfl))⟩
theorem E.globI {X : Cx} {B : Bd} {x : Str} {i : Int} {t : Tok} {pos : Pos} (hm : X.mg x = some (.int i t)) (hg : Gl X x := by rfl) (hd : (x == ("__debug__" : Str)) = false := by decide) : E X B (.Name x pos) (eC (.int i)) := E.glob hm (v := .int i) ⟨t, rfl⟩ (fun _ => rel_int) hg hd
theorem E.globS {X : Cx} {B : Bd} {x : Str} {i : Str} {t : Tok} {pos : Pos} (hm : X.mg x = some (.str i t)) (hg : Gl X x := by rfl) (hd : (x == ("__debug__" : Str)) = false := by decide) : E X B (.Name x pos) (eC (.str i)) := E.glob hm (v := .str i) ⟨t, rfl⟩ (fun _ => rel_str) hg hd
theorem tg_len1 {t : En → PyData → Option En} : ∀ η ds η', tgCons t tgNil η ds = some η' → ds.length = 1 := fun η ds η' h => by
  match ds, h with
  | [_], _ => rfl
  | _ :: _ :: _, h => obtain ⟨_, _, h⟩ := bind_some h; cases h
theorem tg_len2 {t u : En → PyData → Option En} : ∀ η ds η', tgCons t (tgCons u tgNil) η ds = some η' → ds.length = 2 := fun η ds η' h => by
  match ds, h with
  | d :: r, h =>
    obtain ⟨η1, _, h⟩ := bind_some h
    rw [List.length_cons, tg_len1 _ _ _ h]
theorem CompSc.of' {X : Cx} {scope : Scope} {N' : List Str} {mp : List (Option Nat)} (N : List Str) (sc : Scope) (hN : X.N = N) (hs : X.env.scope = sc) (h : compChk N sc scope N' mp = true) : CompSc X scope N' mp := CompSc.of (by rw [hN, hs]; exact h)
noncomputable def tyD : PyData → String
  | .none => "NoneType"
  | .bool _ => "bool"
  | .int _ => "int"
  | .str _ => "str"
  | .list _ => "list"
  | .tuple _ => "tuple"
  | .dict _ => "dict"
noncomputable def isB (T : String) (d : PyData) : Bool := match d with
  | .bool _ => T == "bool" || T == "int"
  | d => tyD d == T
theorem kit_int (K : PySem.W.Frag) (d : PyData) : PySem.W.kitOne K (.type (tyD d)) (.type "int") = some (isB "int" d) := by
  cases d <;> first | rfl | (unfold PySem.W.kitOne PySem.W.kitCls; rw [if_neg (by decide)]; dsimp only; rw [if_pos (by decide +kernel)]; rfl)
theorem kit_bool (K : PySem.W.Frag) (d : PyData) : PySem.W.kitOne K (.type (tyD d)) (.type "bool") = some (isB "bool" d) := by
  cases d <;> first | rfl | (unfold PySem.W.kitOne PySem.W.kitCls; rw [if_neg (by decide)]; dsimp only; rw [if_pos (by decide +kernel)]; rfl)
theorem kit_str (K : PySem.W.Frag) (d : PyData) : PySem.W.kitOne K (.type (tyD d)) (.type "str") = some (isB "str" d) := by
  cases d <;> first | rfl | (unfold PySem.W.kitOne PySem.W.kitCls; rw [if_neg (by decide)]; dsimp only; rw [if_pos (by decide +kernel)]; rfl)
theorem kit_tuple (K : PySem.W.Frag) (d : PyData) : PySem.W.kitOne K (.type (tyD d)) (.type "tuple") = some (isB "tuple" d) := by
  cases d <;> first | rfl | (unfold PySem.W.kitOne PySem.W.kitCls; rw [if_neg (by decide)]; dsimp only; rw [if_pos (by decide +kernel)]; rfl)
section
variable {X : Cx}
noncomputable def rIsin (K : PySem.W.Frag) (T : String) : List V → Hp → VK → Prop := fun xs H Q => ∃ x F d, xs = [x, .ty T] ∧ Same F H ∧ Rel K F d x ∧ Q (.bl (isB T d)) H
theorem call_isin {T : String} (hk : ∀ (K : PySem.W.Frag) (d : PyData), PySem.W.kitOne K (.type (tyD d)) (.type T) = some (isB T d)) : CallR X (.builtin "isinstance") (rIsin X.K T) := by
  intro pins s σ H xs us Q I r h
  obtain ⟨x, F, d, rfl, sm, rd, q⟩ := h
  obtain ⟨u, v, rfl, ru, rv⟩ := vals2 r
  cases rv
  have fin : ∀ tk, EP X pins σ Q (.bool (isB T d)) { s with toks := tk } := fun tk => ⟨.bl _, H, I.tok tk, rfl, q⟩
  have hk := hk X.K d
  cases d with
  | none => rw [rd.non] at ru; cases ru; exact PySem.W.kia_one PySem.W.kitx_none I.kIn True.intro hk (fun z => nomatch z) fin
  | bool b => rw [rd.bl] at ru; cases ru; exact PySem.W.kia_one PySem.W.kitx_bool I.kIn True.intro hk (fun z => nomatch z) fin
  | int i => rw [rd.int] at ru; obtain ⟨t, rfl⟩ := ru; exact PySem.W.kia_one PySem.W.kitx_int I.kIn True.intro hk (fun z => nomatch z) fin
  | str y => rw [rd.str] at ru; obtain ⟨t, rfl⟩ := ru; exact PySem.W.kia_one PySem.W.kitx_str I.kIn True.intro hk (fun z => nomatch z) fin
  | list ds =>
    obtain ⟨a, zs, rfl, hq, _⟩ := rd.lst
    cases ru
    obtain ⟨its, _, p, _⟩ := I.list (sm.seq hq)
    obtain ⟨o, ho, hc, _⟩ := p.isList
    exact PySem.W.kia_one PySem.W.kitx_list I.kIn ⟨o, ho, hc⟩ hk (fun z => nomatch z) fin
  | tuple ds =>
    obtain ⟨a, zs, rfl, hq, _⟩ := rd.tup
    cases ru
    obtain ⟨its, _, ⟨o, ho, hc, _⟩, _⟩ := I.tuple (same_seqT sm hq)
    exact PySem.W.kia_one PySem.W.kitx_tuple I.kIn ⟨o, ho, hc⟩ hk (fun z => nomatch z) fin
  | dict es =>
    obtain ⟨a, ks, rfl, hq, _⟩ := rd.dct
    cases ru
    obtain ⟨_, _, vs, _, p⟩ := (show ObjOk X.prog X.w H s.heap a (.dK ks) from (rd_mono sm hq).ok I.hok)
    obtain ⟨o, es, ep, h1, h2, _⟩ := p
    exact PySem.W.kia_one PySem.W.kitx_dict I.kIn ⟨o, h1, h2.1⟩ hk (fun z => nomatch z) fin
variable {B : Bd} {a b e : Expr} {es : List Expr} {f g : En → Option PyData} {fs : En → Option (List PyData)} {pos pp tp apos cpos pos' : Pos} {sts : List Stmt} {u : En → Option Out} {p : En → Option Bool}
noncomputable def pIsin (T : String) (d : PyData) : Option PyData := some (.bool (isB T d))
theorem E.isin {x : Str} {T : String} (hk : ∀ (K : PySem.W.Frag) (d : PyData), PySem.W.kitOne K (.type (tyD d)) (.type T) = some (isB T d)) (hb : bootBuiltins x = some (.type T)) (hm : X.mg "isinstance" = none) (hmx : X.mg x = none) (he : E X B e f) (hg : Gl X "isinstance" := by rfl) (hgx : Gl X x := by rfl) (hnx : x ≠ "__name__" := by decide) (hdx : (x == ("__debug__" : Str)) = false := by decide)
    (h1 : starEach [e, .Name x tp] X.env = (false, eval e X.env) :: starEach [.Name x tp] X.env := by rfl) (hpl : (backTo pos (starEach [.Name x tp] X.env)).any (·.1) = false := by rfl) :
    E X B (.Call (.Name "isinstance" pp) [e, .Name x tp] [] pos) (l1 (pIsin T) f) :=
  PE.imp (pe_callB (call_isin hk) hg hm (by decide +kernel) (pa_cons he (pa_cons (pe_bltn hgx hmx hb (v := .ty T) rfl hnx hdx) pa_nil) h1) (by decide) (by decide) h1 hpl) fun σ H Q ⟨F, η, d, sr, hd, q⟩ => by
    obtain ⟨x, hx, hd⟩ := bind_some hd
    cases hd
    exact ⟨F, η, x, sr, hx, fun v F1 H1 g1 rv => ⟨v, F1, x, rfl, g1.fh, rv, q _ F1 H1 g1 rel_bl⟩⟩
noncomputable def asBs : List PyData → Option (List Bool)
  | [] => some []
  | .bool i :: r => (asBs r).bind fun ns => some (i :: ns)
  | _ :: _ => none
theorem asBs_some : ∀ {ds : List PyData} {ns : List Bool}, asBs ds = some ns → ds = ns.map PyData.bool
  | [], ns, h => by cases h; rfl
  | .bool i :: r, ns, h => by
    obtain ⟨ms, h1, h2⟩ := bind_some h
    cases h2
    rw [asBs_some h1]; rfl
  | .none :: _, _, h => by cases h
  | .str _ :: _, _, h => by cases h
  | .int _ :: _, _, h => by cases h
  | .list _ :: _, _, h => by cases h
  | .tuple _ :: _, _, h => by cases h
  | .dict _ :: _, _, h => by cases h
theorem RelL.bools_of {K : PySem.W.Frag} {F : Hp} : ∀ {ns : List Bool} {xs : List V}, RelL K F (ns.map PyData.bool) xs → xs = ns.map V.bl
  | [], xs, h => h.nil_of
  | n :: r, xs, h => by
    obtain ⟨x, ys, rfl, h1, h2⟩ := h.cons_of
    rw [h1.bl, RelL.bools_of h2]; rfl
theorem range_all (bs : List Bool) : (List.range bs.length).all (fun i => bs.getD i false) = bs.all id := by
  rw [Bool.eq_iff_iff, List.all_eq_true, List.all_eq_true]
  constructor
  · intro h x hx
    obtain ⟨i, hi, rfl⟩ := List.mem_iff_getElem.mp hx
    have := h i (List.mem_range.mpr hi)
    rw [List.getD_eq_getElem?_getD, List.getElem?_eq_getElem hi] at this
    exact this
  · intro h i hi
    have hi := List.mem_range.mp hi
    rw [List.getD_eq_getElem?_getD, List.getElem?_eq_getElem hi]
    exact h _ (List.getElem_mem hi)
noncomputable def rBools (K : PySem.W.Frag) (r : List Bool → Bool) : List V → Hp → VK → Prop := fun xs H Q => ∃ (p : Addr) (bs : List Bool), xs = [.ref p] ∧ SqL K H p (bs.map V.bl) ∧ Q (.bl (r bs)) H
theorem bools_walk (hc : X.calm = true) {pins : List (Addr × Obj)} {s : Shared} {σ : St} {H : Hp} {p : Addr} {bs : List Bool} {Q : Bool → Value → Shared → Prop} {r : (Nat → Bool) → Nat → Bool} (I : Inv X pins σ H s) (hq : SqL X.K H p (bs.map V.bl))
    (hQ : ∀ h' tk, (∀ b o, s.heap.get? b = some o → h'.get? b = some o) → Q true (.bool (r (fun i => bs.getD i false) bs.length)) { s with heap := h', toks := tk }) :
    wpAny (model X.prog X.w) X.A.in1 (pyIter (.ref p)) (fun it s₂ => ∃ I fp wr n P St tr, it = .ref I ∧ Walks X.prog X.w X.A.in1 I fp wr n P St ∧ St 0 s₂.heap ∧ TruthOf X.prog X.w X.A.in1 P tr ∧
      ∀ h' tk, (∀ b o, b ∉ wr → s₂.heap.get? b = some o → h'.get? b = some o) → Q true (.bool (r tr n)) { s₂ with heap := h', toks := tk }) X.xe s := by
  obtain ⟨its, rv, pl, hz⟩ := I.list hq
  have hl := rv.length
  rw [List.length_map] at hl
  have hlt : p < s.heap.objs.size := by
    obtain ⟨o, ho, _⟩ := pl.isList
    exact Heap.lt_size ho
  refine wpAny_pyIter_list pl.isList ?_
  refine ⟨s.heap.objs.size, _, _, _, _, _, fun i => bs.getD i false, rfl, Walks.list (A := X.A.in1) (I.ok.hd hc) s.heap.objs.size p (Nat.ne_of_lt hlt) its.toArray, ⟨⟨_, Heap.get?_push_size _ rfl, rfl, rfl⟩, pl.isList.at fun o e => Heap.get?_push_of_some _ e⟩, ?_, fun h' tk hk => ?_⟩
  · intro i v s' Q' E' hv hq'
    have hv' : its[i]? = some v := by simpa using hv
    obtain ⟨hi, _⟩ := List.getElem?_eq_some_iff.mp hv'
    have hn : bs[i]? = some bs[i] := List.getElem?_eq_getElem (by omega)
    obtain ⟨w, hw, rw'⟩ := rv.get (i := i) (x := .bl bs[i]) (by rw [List.getElem?_map, hn]; rfl)
    rw [hv'] at hw
    cases hw
    cases rw'
    have e : bs.getD i false = bs[i] := by rw [List.getD_eq_getElem?_getD, hn]; rfl
    rw [show (fun i => bs.getD i false) i = bs[i] from e] at hq'
    exact wpAny_truthy_bool hq'
  · have e : its.toArray.size = bs.length := by rw [List.size_toArray]; exact hl.symm
    rw [e]
    refine hQ h' tk fun b o eb => hk b o ?_ (Heap.get?_push_of_some _ eb)
    intro hb
    exact absurd (Heap.lt_size eb) (by rw [List.mem_singleton.mp hb]; exact Nat.lt_irrefl _)
theorem call_all (hc : X.calm = true) : CallR X (.builtin "all") (rBools X.K fun bs => bs.all id) := by
  intro pins s σ H xs us Q I r h
  obtain ⟨p, bs, rfl, hq, q⟩ := h
  obtain ⟨u, rfl, rx⟩ := vals1 r
  cases rx
  refine call_all_walk (bools_walk hc (Q := fun _ v s' => EP X pins σ Q v s') (r := fun tr n => (List.range n).all tr) I hq fun h' tk k => ?_)
  rw [range_all]
  exact ⟨.bl _, H, I.kept k, rfl, q⟩
noncomputable def pBools (r : List Bool → Bool) (ds : List PyData) : Option PyData := match ds with
  | [.list xs] => (asBs xs).bind fun bs => some (.bool (r bs))
  | _ => none
theorem ad_bools {K : PySem.W.Frag} {r : List Bool → Bool} : AdA K (rBools K r) (pBools r) := fun F H xs ds d Q sm rs e q => by
  unfold pBools at e
  split at e
  · obtain ⟨bs, h1, h2⟩ := bind_some e
    cases h2
    have := asBs_some h1
    subst this
    obtain ⟨x, r, rfl, rx, rr⟩ := rs.cons_of
    obtain rfl := rr.nil_of
    obtain ⟨a, ys, rfl, hq, r1⟩ := rx.lst
    have := r1.bools_of
    subst this
    exact ⟨a, bs, rfl, sm.seq hq, q _ F H (.refl sm) rel_bl⟩
  · cases e
noncomputable def pAll := pBools fun bs => bs.all id
noncomputable def pAny := pBools fun bs => bs.any id
theorem E.all (hc : X.calm = true) (hm : X.mg "all" = none) (ha : A X B [e] fs) (hg : Gl X "all" := by rfl) (he : starEach [e] X.env = (false, eval e X.env) :: starEach [] X.env := by exact star_of rfl) (hpl : (backTo pos (starEach [] X.env)).any (·.1) = false := by rfl) : E X B (.Call (.Name "all" pp) [e] [] pos) (lA pAll fs) :=
  E.callB (call_all hc) ad_bools hm (by decide +kernel) ha hg (by decide) (by decide) he hpl
noncomputable def pMax (ds : List PyData) : Option PyData := match ds with
  | [.int i, .int j] => some (.int (if j > i then j else i))
  | _ => none
noncomputable def pMin (ds : List PyData) : Option PyData := match ds with
  | [.int i, .int j] => some (.int (if j < i then j else i))
  | _ => none
noncomputable def pInt (ds : List PyData) : Option PyData := match ds with
  | [.int i] => some (.int i)
  | [.bool k] => some (.int (if k then 1 else 0))
  | _ => none
noncomputable def sAug (i : Nat) (f : En → Option PyData) : En → Option Out := fun η => (eV i η).bind fun x => (f η).bind fun y => match x, y with
  | .int n, .int m => some (.nx (η.set i (.val (.int (n + m)))))
  | _, _ => none
noncomputable def sWh (c : En → Option Bool) (body : En → Option Out) : Nat → En → Option Out
  | 0, _ => none
  | n + 1, η => (c η).bind fun b => if b = true then (body η).bind fun o => match o with
    | .nx η' => sWh c body n η'
    | .ct η' => sWh c body n η'
    | .bk η' => some (.nx η')
    | .rt d => some (.rt d) else some (.nx η)
noncomputable def tInO (neg : Bool) (f : En → Option PyData) (i : Nat) : En → Option Bool := fun η => (f η).bind fun x => match η[i]? with
  | some (.own ds) => (pIn neg x (.list ds)).bind asB
  | _ => none
end
noncomputable def Its (x : Str) : It := ⟨fun i _ => i < x.cps.size, fun i H v H' => H' = H ∧ ∃ c, x.cps[i]? = some c ∧ v = .str ⟨#[c]⟩, fun i _ => i = x.cps.size⟩
theorem itp_str {K : PySem.W.Frag} {F : Hp} {x : Str} : ItP K (Its x) F (signD x) := fun F1 H1 i s1 s2 => by
  have hl : (signD x).length = x.cps.size := by unfold signD; rw [List.length_map, Array.length_toList]
  refine ⟨fun d e => ?_, fun e => by show i = _; rw [e, hl]⟩
  have hi : i < x.cps.size := by rw [← hl]; exact (List.getElem?_eq_some_iff.mp e).1
  refine ⟨hi, fun v H2 y => ?_⟩
  obtain ⟨rfl, c, hc, rfl⟩ := y
  have : d = .str ⟨#[c]⟩ := by
    unfold signD at e
    rw [List.getElem?_map] at e
    have hc' : x.cps.toList[i]? = some c := by simpa using hc
    rw [hc'] at e
    exact (Option.some.inj e).symm
  subst this
  exact ⟨F1, .refl s2, rel_str⟩
theorem turn_str {P : Program} {w : World} {K : PySem.W.Frag} {tg : Expr} {it : Addr} {x : Str} {t : Tok} {ty : String} (self' : ty ≠ "str_ascii_iterator" → ∀ (A : Around) (i : Nat) (s : Shared) (Q : Value → Shared → Prop) (E : Value → Shared → Prop), s.heap.IsStrIter it ty x t i → Q (.ref it) s → wpAny (model P w) A (pyIter (.ref it)) Q E s) (hty : ["enumerate", "zip", "dict_itemiterator", "dict_reverseitemiterator", "odict_iterator", "itertools.zip_longest", "itertools.pairwise"].contains ty = false)
    (W : ∀ A : Around, A.handled = none → Walks P w A it [it] [it] x.cps.size (SignAt x) (fun i h => h.IsStrIter it ty x t i)) : Turn P w K tg (Its x) [it] it (fun i h => h.IsStrIter it ty x t i) where
  mem := by simp
  obj := fun i h st b hb => by
    rw [List.mem_singleton.mp hb]
    obtain ⟨o, ho, hcl, hd⟩ := st
    exact ⟨o, ho, fun v z => by rw [hd] at z; cases z⟩
  keep := fun i h h' st k => by
    obtain ⟨o, ho, r⟩ := st
    exact ⟨o, k it (by simp) o ho, r⟩
  item := by
    intro X hP hw hK hc i pins s σ H E I hf st hg
    subst hP hw hK
    obtain ⟨f0, f1, f2, f3, f4, f5⟩ := hf it (by simp)
    refine (W X.A (I.ok.hd hc)).item i s _ _ hg st fun v h' tk hv st' kk => ?_
    obtain ⟨c, u, hcx, rfl⟩ := hv
    have I1 : Inv X pins σ H { s with heap := h', toks := tk } := I.turned (fun b o hb e => kk b o (by simpa using hb) e) f0 f1 f3 f4 f5
    obtain ⟨o, ho, hcl, hd⟩ := id st'
    exact ⟨_, rfl, go_of (s := { s with heap := h', toks := tk }) ho hcl hd hty ⟨.str ⟨#[c]⟩, H, I1, ⟨u, rfl⟩, ⟨rfl, c, hcx, rfl⟩, st', fun b hb => (hf b hb).1⟩⟩
  done := by
    intro X hP hw hK hc i pins s σ H E I hf st hg
    subst hP hw hK
    obtain ⟨f0, f1, f2, f3, f4, f5⟩ := hf it (by simp)
    have hg' : i = x.cps.size := hg
    rw [hg'] at st
    refine (W X.A (I.ok.hd hc)).done s _ _ st fun h' tk kk => ⟨rfl, I.turned (fun b o hb e => kk b o (by simpa using hb) e) f0 f1 f3 f4 f5⟩
  self := fun A i s Q E st h => by
    have hh : A.handled = none ∨ True := .inr trivial
    by_cases hz : ty = "str_ascii_iterator"
    · subst hz; exact wpAny_pyIter_striter_ascii st h
    · exact self' hz A i s Q E st h
section
variable {X : Cx} {B : Bd} {e : Expr} {f : En → Option PyData} {tg : Expr}
noncomputable def asSg : PyData → Option (List PyData)
  | .str x => some (signD x)
  | _ => none
theorem I.str (he : E X B e f) : I X B tg e (lI asSg f) := by
  intro pins s σ H R I ⟨F, η, ds, sr, hd, q⟩
  obtain ⟨d, h1, hd⟩ := bind_some hd
  cases d <;> simp only [asSg, Option.some.injEq, reduceCtorEq] at hd
  subst hd
  rename_i x
  refine thn (he pins s σ H (fun v H1 => ∃ F', Gr F H F' H1 ∧ v = .str x) I ⟨F, η, _, sr, h1, fun v F' H' g r => ⟨F', g, r.str⟩⟩) fun v s1 ⟨y, H1, I1, r1, F1, g1, ey⟩ => ?_
  subst ey
  obtain ⟨t, rfl⟩ := r1
  have I2 : ∀ o : Obj, Inv X pins σ H1 { s1 with heap := s1.heap.push o } := fun o => I1.kept (t' := s1.toks) fun b u e => Heap.get?_push_of_some _ e
  have fpo : ∀ b ∈ [s1.heap.objs.size], FpOk X pins H1 b := fun b hb => by
    rw [List.mem_singleton.mp hb]
    exact I1.fpOk (Nat.le_refl _) (I1.hok.fresh (Nat.le_refl _))
  cases ha : x.cps.all (· < 128)
  · refine wpAny_pyIter_wide ha ?_
    exact ⟨_, _, _, _, H1, rfl, I2 _, turn_str (ty := "str_iterator") (fun _ _ _ _ _ _ st h => wpAny_pyIter_striter_wide st h) (by decide) (fun A hA => Walks.strWide hA _ x t), ⟨_, Heap.get?_push_size _ rfl, rfl, rfl⟩, fpo, q _ F1 H1 g1 itp_str⟩
  · refine wpAny_pyIter_ascii ha ?_
    exact ⟨_, _, _, _, H1, rfl, I2 _, turn_str (ty := "str_ascii_iterator") (fun z => absurd rfl z) (by decide) (fun A hA => Walks.strAscii hA _ x t), ⟨_, Heap.get?_push_size _ rfl, rfl, rfl⟩, fpo, q _ F1 H1 g1 itp_str⟩
end
theorem strs_toks : ∀ {ss : List Str} {us : List Value}, Vals (ss.map V.str) us → ∃ l : List (Str × Tok), us = strValues l ∧ l.map (·.1) = ss
  | [], us, h => by cases h; exact ⟨[], rfl, rfl⟩
  | x :: r, us, h => by
    cases h with
    | cons h1 h2 =>
      obtain ⟨l, rfl, e⟩ := strs_toks h2
      obtain ⟨t, rfl⟩ := h1
      exact ⟨(x, t) :: l, rfl, by rw [List.map_cons, e]⟩
section
variable {X : Cx} {B : Bd} {a b e : Expr} {f g : En → Option PyData} {apos cpos : Pos}
noncomputable def rJoin (K : PySem.W.Frag) : V → List V → Hp → VK → Prop := fun x vs H Q => ∃ z p ss, x = .str z ∧ vs = [.ref p] ∧ SqL K H p (ss.map V.str) ∧ JoinOk z ss = true ∧ Q (.str (Txt.join z ss)) H
theorem mt_join : MtR X "str.join" (rJoin X.K) := by
  intro pins s σ H x vs v us Q I rx rv h
  obtain ⟨z, p, ss, rfl, rfl, hq, ok, q⟩ := h
  obtain ⟨t, rfl⟩ := rx
  obtain ⟨u, rfl, ru⟩ := vals1 rv
  cases ru
  obtain ⟨its, r, pl, hz⟩ := I.list hq
  obtain ⟨l, rfl, hl⟩ := strs_toks r
  exact SC.join pl.isList hl ok fun t' k => ⟨.str _, H, I.tok k, ⟨t', rfl⟩, q⟩
noncomputable def pJoin (x y : PyData) : Option PyData := match x, y with
  | .str z, .list ds => (asSs ds).bind fun ss => if JoinOk z ss = true then some (.str (Txt.join z ss)) else none
  | _, _ => none
theorem E.join (ha : E X B a f) (he : E X B e g) (hbase : attributeBase a "join" X.env (eval a X.env) = eval a X.env := by rfl)
    (hfew : ((backTo cpos (starEach [e] X.env)).all (fun x => !x.1) && (backToKw cpos (keywordEach [] X.env)).all (fun x => x.1.isSome)
      && decide ([e].length + ([] : List Keyword).length + (if ([] : List Keyword).isEmpty then 0 else 1) < 30)) = true := by rfl)
    (hline : (apos.endLine == cpos.line) = true := by rfl) (hs : starEach [e] X.env = (false, eval e X.env) :: starEach [] X.env := by exact star_of rfl) (hplain : (backTo cpos (starEach [] X.env)).any (·.1) = false := by rfl) :
    E X B (.Call (.Attribute a "join" apos) [e] [] cpos) (l2 pJoin f g) :=
  PE.imp (pe_bm PySem.F.plainAttrs_str PySem.F.slot_str_join PySem.F.type_str_join mt_join ha (A.cons he A.nil hs) hbase hfew hline hs hplain) fun σ H Q ⟨F, η, d, sr, hd, q⟩ => by
    obtain ⟨x, hx, hd⟩ := bind_some hd
    obtain ⟨y, hy, hd⟩ := bind_some hd
    unfold pJoin at hd
    split at hd
    · rename_i z ds
      obtain ⟨ss, h1, hd⟩ := bind_some hd
      split at hd
      · rename_i hf
        cases hd
        have := asSs_some h1
        subst this
        refine ⟨F, η, _, sr, hx, fun v F1 H1 g1 rv => ?_⟩
        rw [rv.str]
        refine ⟨rfl, F1, η, [.list (ss.map PyData.str)], sr.grow g1, (by show (g η).bind _ = _; rw [hy]; rfl), fun vs F2 H2 g2 rs => ?_⟩
        obtain ⟨w, r, rfl, rw', rr⟩ := rs.cons_of
        obtain rfl := rr.nil_of
        obtain ⟨p, xs, rfl, hq, r1⟩ := rw'.lst
        have := r1.strs_of
        subst this
        exact ⟨_, p, ss, rfl, rfl, g2.fh.seq hq, hf, q _ F2 H2 (g1.trans g2) rel_str⟩
      · cases hd
    · cases hd
end
section
variable {X : Cx} {B : Bd} {a b e : Expr} {f g : En → Option PyData} {pos : Pos}
noncomputable def sUnp (f : En → Option PyData) (t : En → PyData → Option En) : En → Option Out := fun η => (f η).bind fun d => (t η d).bind fun η' => some (.nx η')
noncomputable def isNn : PyData → Bool
  | .none => true
  | _ => false
noncomputable def pIsN (neg : Bool) (x y : PyData) : Option PyData := match y with
  | .none => some (.bool (if neg then !isNn x else isNn x))
  | _ => none
end
noncomputable def Itv (K : PySem.W.Frag) (a : Addr) (n : Nat) : It :=
  ⟨fun i H => i < n ∧ ∃ xs x, SqL K H a xs ∧ xs[n - 1 - i]? = some x, fun i H x H' => H' = H ∧ ∀ xs, SqL K H a xs → xs[n - 1 - i]? = some x, fun i _ => i = n⟩
section
variable {X : Cx} {B : Bd} {a : Expr} {fs : En → Option (List PyData)} {pos pp : Pos}
noncomputable def rvS (ds : List PyData) : Option (List PyData) := match ds with
  | [.list xs] => some xs.reverse
  | _ => none
end
section
variable {X : Cx} {B : Bd} {a b e : Expr} {f g : En → Option PyData} {fs : En → Option (List PyData)} {pos : Pos}
noncomputable def eRep (fs : En → Option (List PyData)) (g : En → Option PyData) : En → Option PyData := fun η => (fs η).bind fun ds => (g η).bind fun y => (asI y).bind fun k =>
  if 0 ≤ k ∧ k < 1000 ∧ ds.length * k.toNat ≤ 1000 then some (.list (List.replicate k.toNat ds).flatten) else none
end
section
variable {X : Cx} {B : Bd} {e st : Expr} {f g : En → Option PyData} {pos p2 : Pos}
noncomputable def pRv (x y : PyData) : Option PyData := match x with
  | .list ds => (asI y).bind fun k => if k = -1 then some (.list ds.reverse) else none
  | _ => none
theorem pS_some {g : En → Option PyData} {η : En} {k : Int} (h : g η = some (.int k)) : pS g η = some (some k) := by
  unfold pS
  rw [h]; rfl
end
section
variable {X : Cx} {B : Bd} {pos pp : Pos}
noncomputable def eLenO (i : Nat) : En → Option PyData := fun η => match η[i]? with
  | some (.own ds) => some (.int ds.length)
  | _ => none
end
noncomputable def keyOf : PyData → Option Key
  | .int i => some (.inl i)
  | .str x => some (.inr x)
  | _ => none
noncomputable def lookD (es : List (PyData × PyData)) (k : Key) : Option PyData := (es.find? fun e => decide (keyOf e.1 = some k)).map (·.2)
noncomputable def putP (kvs : List (Key × PyData)) (k : Key) (d : PyData) : List (Key × PyData) :=
  if (kvs.any fun kv => decide (kv.1 = k)) = true then kvs.map (fun kv => if kv.1 = k then (kv.1, d) else kv) else kvs ++ [(k, d)]
section
variable {X : Cx} {B : Bd} {o e e2 a b : Expr} {f g h : En → Option PyData} {pos pos' apos cpos npos : Pos}
noncomputable def pGet2 (x y z : PyData) : Option PyData := match x with
  | .dict es => (keyOf y).bind fun k => some ((lookD es k).getD z)
  | _ => none
noncomputable def eGet2 (f g h : En → Option PyData) : En → Option PyData := fun η => (f η).bind fun x => (g η).bind fun y => (h η).bind fun z => pGet2 x y z
noncomputable def pInD (neg : Bool) (x y : PyData) : Option Bool := match y with
  | .dict es => (keyOf x).bind fun k => some (if neg then !(lookD es k).isSome else (lookD es k).isSome)
  | _ => none
noncomputable def tInD (neg : Bool) (f g : En → Option PyData) : En → Option Bool := fun η => (f η).bind fun x => (g η).bind fun y => pInD neg x y
noncomputable def sSetD (i : Nat) : En → Option Out := fun η => some (.nx (η.set i (.odc [])))
noncomputable def eGet2O (i : Nat) (g h : En → Option PyData) : En → Option PyData := fun η => match η[i]? with
  | some (.odc kvs) => (g η).bind fun y => (h η).bind fun z => (keyOf y).bind fun k => some ((lookD (prs kvs) k).getD z)
  | _ => none
noncomputable def sPutD (i : Nat) (g h : En → Option PyData) : En → Option Out := fun η => (h η).bind fun d => (g η).bind fun y => (keyOf y).bind fun k => match η[i]? with
  | some (.odc kvs) => if kvs.length < sizeLine then some (.nx (η.set i (.odc (putP kvs k d)))) else none
  | _ => none
end
section
variable {X : Cx}
open Classical in
noncomputable def eOf (h : Heap) (dx : PyData) (w : Value) : Bool := if q : ∃ d as, Reads h w d as ∧ d.canLay0 = true then PyData.eqv q.choose dx else false
theorem eOf_eq {h : Heap} {dx d : PyData} {w : Value} {as : List Addr} (r : Reads h w d as) (c : d.canLay0 = true) : eOf h dx w = PyData.eqv d dx := by
  have q : ∃ d as, Reads h w d as ∧ d.canLay0 = true := ⟨d, as, r, c⟩
  unfold eOf
  rw [dif_pos q]
  obtain ⟨as', r', c'⟩ := q.choose_spec
  rw [SeqAt.Reads.unique _ _ w _ _ c' r' r]
noncomputable def lowD (d : PyData) : Bool := d.canLay0 && decide (d.depth ≤ 8)
theorem lows {pins : List (Addr × Obj)} {σ : St} {F H : Hp} {s : Shared} (I : Inv X pins σ H s) (sm : Same F H) {dx : PyData} {v : Value} {bs : List Addr} (rx : Reads s.heap v dx bs) (cx : dx.canLay0 = true) (hu : X.A.units + 64 < cLine) :
    ∀ {ds : List PyData} {xs : List V} {us : List Value}, ds.all lowD = true → RelL X.K F ds xs → Vals xs us → (∀ w ∈ us, SeqAt.EqAt X.A.in1 s w v (eOf s.heap dx w)) ∧ us.any (eOf s.heap dx) = ds.any fun d => PyData.eqv d dx
  | [], xs, us, _, h, r => by
    rw [h.nil_of] at r; cases r
    exact ⟨fun w hw => (by cases hw), rfl⟩
  | d :: ds, xs, us, l, h, r => by
    rw [List.all_cons, Bool.and_eq_true] at l
    obtain ⟨l1, l2⟩ := l
    obtain ⟨x, xs', rfl, h1, h2⟩ := h.cons_of
    cases r with
    | cons r1 r2 =>
      unfold lowD at l1
      rw [Bool.and_eq_true, decide_eq_true_eq] at l1
      obtain ⟨as, e1⟩ := Rel.reads I sm l1.1 h1 r1
      have ih := lows I sm rx cx hu l2 h2 r2
      refine ⟨fun w hw => ?_, ?_⟩
      · rcases List.mem_cons.mp hw with rfl | z
        · rw [eOf_eq e1 l1.1]
          refine SeqAt.eqAt_reads d dx X.A.in1 s _ v as bs e1 rx l1.1 cx ?_
          have : X.A.in1.units = X.A.units + 1 := rfl
          have h3 : min d.depth dx.depth ≤ d.depth := Nat.min_le_left _ _
          omega
        · exact ih.1 w z
      · rw [List.any_cons, List.any_cons, ih.2, eOf_eq e1 l1.1]
noncomputable def rInS (K : PySem.W.Frag) (neg : Bool) : R2 := fun x y H Q => ∃ F dx ds p xs, Same F H ∧ Rel K F dx x ∧ y = .ref p ∧ SqL K H p xs ∧ RelL K F ds xs ∧ dx.canLay0 = true ∧ ds.all lowD = true ∧ Q (.bl (if neg then !(ds.any fun d => PyData.eqv d dx) else ds.any fun d => PyData.eqv d dx)) H
theorem op_inS (hu : X.A.units + 64 < cLine) : OpR X (compareOp .In) (rInS X.K false) := by
  intro pins s σ H x y v u Q I rx ry h
  obtain ⟨F, dx, ds, p, xs, sm, h1, rfl, hq, rs, c1, c2, q⟩ := h
  cases ry
  obtain ⟨its, r, pl, hz⟩ := I.list hq
  obtain ⟨as, ra⟩ := Rel.reads I sm c1 h1 rx
  have lw := lows I sm ra c1 hu c2 rs r
  refine SeqAt.in_listAt (eOf s.heap dx) pl.isList (fun w hw => lw.1 w (by simpa using hw)) ⟨.bl _, H, I, rfl, ?_⟩
  rw [show its.toArray.any (eOf s.heap dx) = its.any (eOf s.heap dx) by simp, lw.2]
  exact q
theorem op_notInS (hu : X.A.units + 64 < cLine) : OpR X (compareOp .NotIn) (rInS X.K true) := by
  intro pins s σ H x y v u Q I rx ry h
  obtain ⟨F, dx, ds, p, xs, sm, h1, rfl, hq, rs, c1, c2, q⟩ := h
  cases ry
  obtain ⟨its, r, pl, hz⟩ := I.list hq
  obtain ⟨as, ra⟩ := Rel.reads I sm c1 h1 rx
  have lw := lows I sm ra c1 hu c2 rs r
  refine SeqAt.notIn_listAt (eOf s.heap dx) pl.isList (fun w hw => lw.1 w (by simpa using hw)) ⟨.bl _, H, I, rfl, ?_⟩
  rw [show its.toArray.any (eOf s.heap dx) = its.any (eOf s.heap dx) by simp, lw.2]
  exact q
variable {B : Bd} {a : Expr} {f : En → Option PyData} {pos : Pos}
noncomputable def tInS (neg : Bool) (f : En → Option PyData) (i : Nat) : En → Option Bool := fun η => (f η).bind fun x => match η[i]? with
  | some (.own ds) => if x.canLay0 = true ∧ ds.all lowD = true then some (if neg then !(ds.any fun d => PyData.eqv d x) else ds.any fun d => PyData.eqv d x) else none
  | _ => none
theorem T.inS (neg : Bool) {op : CmpOp} (ho : OpR X (compareOp op) (rInS X.K neg)) (i : Nat) {x : Str} {npos : Pos} (ha : E X B a f) (hm : behindInMarks op (.Name x npos) = false := by with_unfolding_all rfl) (hN : X.N[i]? = some x := by rfl) (hv : Vis X.env.scope x := by first | exact Or.inl rfl | exact Or.inr (Or.inl rfl) | exact Or.inr (Or.inr rfl)) (hd : (x == ("__debug__" : Str)) = false := by decide) (hcd : (x == ("__classdict__" : Str)) = false := by decide) :
    T X B (.Compare a [op] [.Name x npos] pos) (tInS neg f i) := PT.imp (pt_cmpR ho ha (pe_var hN hv hd hcd) hm) fun σ H Q ⟨F, η, o, sr, hd, q⟩ => by
  obtain ⟨dx, hx, hd⟩ := bind_some hd
  split at hd
  · rename_i ds ed
    split at hd
    · rename_i hc
      cases hd
      refine ⟨F, η, dx, sr, hx, fun v F1 H1 g1 rv => ?_⟩
      obtain ⟨p, xs, q1, q2, q3, q4, q5⟩ := (sr.grow g1).en.own i ds ed
      exact ⟨_, q1, F1, dx, ds, p, xs, g1.fh, rv, rfl, SqL.of q4, q5, hc.1, hc.2, _, rfl, q F1 H1 g1⟩
    · cases hd
  · cases hd
theorem T.inSO {k : Nat} (hr : Room k X.A) (i : Nat) {x : Str} {npos : Pos} (ha : E X B a f) (hm : behindInMarks .In (.Name x npos) = false := by with_unfolding_all rfl) (hN : X.N[i]? = some x := by rfl) (hv : Vis X.env.scope x := by first | exact Or.inl rfl | exact Or.inr (Or.inl rfl) | exact Or.inr (Or.inr rfl)) (hd : (x == ("__debug__" : Str)) = false := by decide) (hcd : (x == ("__classdict__" : Str)) = false := by decide) :
    T X B (.Compare a [.In] [.Name x npos] pos) (tInS false f i) := T.inS false (op_inS hr.units) i ha hm hN hv hd hcd
theorem T.notInSO {k : Nat} (hr : Room k X.A) (i : Nat) {x : Str} {npos : Pos} (ha : E X B a f) (hm : behindInMarks .NotIn (.Name x npos) = false := by with_unfolding_all rfl) (hN : X.N[i]? = some x := by rfl) (hv : Vis X.env.scope x := by first | exact Or.inl rfl | exact Or.inr (Or.inl rfl) | exact Or.inr (Or.inr rfl)) (hd : (x == ("__debug__" : Str)) = false := by decide) (hcd : (x == ("__classdict__" : Str)) = false := by decide) :
    T X B (.Compare a [.NotIn] [.Name x npos] pos) (tInS true f i) := T.inS true (op_notInS hr.units) i ha hm hN hv hd hcd
end
theorem SR.lent {K : PySem.W.Frag} {B : Bd} {F H : Hp} {σ : St} {η : En} (sr : SR K B F H σ η) (j : Nat) : ∃ F', SR K B F' H σ (frz j η) := by
  unfold frz
  split
  · rename_i ds e
    obtain ⟨F', p, _, _, sr', _⟩ := sr.freeze e
    exact ⟨F', sr'⟩
  · rename_i kvs e
    obtain ⟨F', p, _, _, sr', _⟩ := sr.freezeD e
    exact ⟨F', sr'⟩
  · exact ⟨F, sr⟩
theorem Gr.back {F H F1 F' H' : Hp} (sm : Same F H) (g : Gr F1 H F' H') : Gr F H F H' := ⟨.refl _, g.hh, sm.trans g.hh, fun _ z => .inl z⟩
section
variable {X : Cx} {B : Bd} {e : Expr} {f : En → Option PyData} {fs : En → Option (List PyData)} {p : En → Option Bool}
noncomputable def lendE (j : Nat) (f : En → Option PyData) : En → Option PyData := fun η => (f (frz j η)).bind fun d => if flatD d = true then some d else none
noncomputable def lendO (j : Nat) (f : En → Option (List PyData)) : En → Option (List PyData) := fun η => (f (frz j η)).bind fun ds => if ds.all flatD = true then some ds else none
noncomputable def lendT (j : Nat) (f : En → Option Bool) : En → Option Bool := fun η => f (frz j η)
theorem T.lend (j : Nat) (h : T X B e p) : T X B e (lendT j p) := PT.imp h fun σ H Q ⟨F, η, b, sr, hd, q⟩ => by
  obtain ⟨F1, sr1⟩ := sr.lent j
  exact ⟨F1, _, b, sr1, hd, fun F' H' g => q F H' (Gr.back sr.same g)⟩
end
section
variable {X : Cx} {B : Bd} {e o : Expr} {f g : En → Option PyData} {fs : En → Option (List PyData)} {pos pp rp rpos : Pos}
noncomputable def pAbs (ds : List PyData) : Option PyData := match ds with
  | [.int i] => some (.int (if i < 0 then -i else i))
  | _ => none
noncomputable def rRng : List V → Hp → VK → Prop := fun xs H Q => ∃ j : Int, xs = [.int j] ∧ ∀ l, H l = none → Q (.ref l) (upd H l (.rng 0 j))
noncomputable def intsV (n : Nat) : List V := (List.range n).map fun (k : Nat) => V.int (0 + (k : Int))
noncomputable def rLRng : List V → Hp → VK → Prop := fun xs H Q => ∃ (p : Addr) (j : Int), xs = [.ref p] ∧ H p = some (.rng 0 j) ∧ -(2 ^ 62) ≤ j ∧ j < 2 ^ 62 ∧ j.toNat ≤ 1000 ∧ ∀ l, H l = none → Q (.ref l) (upd H l (.lst (intsV j.toNat)))
end
end L2.PU
namespace L2.PU
open PySem PySem.Spec PyProof.Rows
noncomputable def Itd (p : Addr) (ob : Obj) (ks : List (Key × V)) : It :=
  ⟨fun i H => i < ks.length ∧ H p = some (.frz ob (.dK ks)), fun i H x H' => H' = H ∧ ∃ k v, ks[i]? = some (k, v) ∧ x = kV k, fun i H => i = ks.length ∧ H p = some (.frz ob (.dK ks))⟩
section
variable {X : Cx} {B : Bd} {pos npos : Pos} {tg : Expr}
noncomputable def iDict (i : Nat) : TI := fun σ H R => ∃ p ob ks, σ[i]? = some (some (.ref p)) ∧ H p = some (.frz ob (.dK ks)) ∧ R (Itd p ob ks) H
noncomputable def keysD (kvs : List (Key × PyData)) : List PyData := kvs.map fun e => kD e.1
noncomputable def sForD (i : Nat) (t : En → PyData → Option En) (body : En → Option Out) : En → Option Out := fun η => match η[i]? with
  | some (.odc kvs) => sGo t body (keysD kvs) (frz i η)
  | _ => none
end
end L2.PU
namespace L2.PU
open PySem PySem.Spec PyProof.Rows
section
variable {X : Cx} {B : Bd} {e o : Expr} {f g : En → Option PyData} {fs : En → Option (List PyData)} {pos pos' pp rp rpos : Pos}
noncomputable def lrS (ds : List PyData) : Option (List PyData) := match ds with
  | [.int j] => if -(2 ^ 62) ≤ j ∧ j < 2 ^ 62 ∧ j.toNat ≤ 1000 then some (rngL 0 j.toNat) else none
  | _ => none
noncomputable def pAtD (x y : PyData) : Option PyData := match x with
  | .dict es => (keyOf y).bind fun k => lookD es k
  | _ => none
end
section
variable {X : Cx} {B : Bd}
noncomputable abbrev PF := (En → Option PyData) × (En → Option PyData)
noncomputable def DP (X : Cx) (B : Bd) (pos : Pos) (keys : List (Option Expr)) (values : List Expr) (ps : List PF) : Prop := PPs X pos keys values (ps.map fun p => (tE X.K B p.1, tE X.K B p.2))
noncomputable def evP : List PF → En → Option (List (PyData × PyData))
  | [], _ => some []
  | (f, g) :: r, η => (f η).bind fun x => (g η).bind fun y => (evP r η).bind fun l => some ((x, y) :: l)
noncomputable def keysOf : List (PyData × PyData) → Option (List (Key × PyData))
  | [] => some []
  | (x, y) :: r => (keyOf x).bind fun k => (keysOf r).bind fun l => some ((k, y) :: l)
noncomputable def RelP (K : PySem.W.Frag) (F : Hp) : List (PyData × PyData) → List (V × V) → Prop
  | [], ps => ps = []
  | (x, y) :: r, ps => ∃ u v t, ps = (u, v) :: t ∧ Rel K F x u ∧ Rel K F y v ∧ RelP K F r t
noncomputable def mergeP (acc more : List (Key × PyData)) : List (Key × PyData) := more.foldl (fun acc kv => putP acc kv.1 kv.2) acc
noncomputable def sSetDL (i : Nat) (ps : List PF) : En → Option Out := fun η => (evP ps η).bind fun es => (keysOf es).bind fun kvs => if kvs.length ≤ 15 then some (.nx (η.set i (.odc (mergeP [] kvs)))) else none
end
end L2.PU
namespace L2.PU
open PySem PySem.Spec PyProof.Rows
noncomputable def Itel (K : PySem.W.Frag) (l : Addr) (n : Nat) : It :=
  ⟨fun i H => i < n ∧ ∃ xs x, SqL K H l xs ∧ xs.length = n ∧ xs[i]? = some x, fun i H v H' => ∃ T x, H T = none ∧ (∀ xs, SqL K H l xs → xs[i]? = some x) ∧ v = .ref T ∧ H' = upd H T (.tup [.int (i : Nat), x]), fun i H => i = n ∧ ∃ xs, SqL K H l xs ∧ xs.length = n⟩
section
variable {X : Cx} {B : Bd} {a : Expr} {fs : En → Option (List PyData)} {pos pp : Pos}
noncomputable def enL (ds : List PyData) : Option (List PyData) := match ds with
  | [.list xs] => some (enumD xs 0)
  | _ => none
end
end L2.PU
namespace L2.PU
open PySem PySem.Spec PyProof.Rows
section
variable {X : Cx} {B : Bd} {e : Expr} {f g : En → Option PyData} {fs : En → Option (List PyData)} {pos pp : Pos}
noncomputable def keysP (es : List (PyData × PyData)) : List PyData := es.map (·.1)
noncomputable def rListD : List V → Hp → VK → Prop := fun xs H Q => ∃ (p : Addr) (ks : List (Key × V)), xs = [.ref p] ∧ Rd H p (.dK ks) ∧ ∀ l, H l = none → Q (.ref l) (upd H l (.lst (ks.map fun kv => kV kv.1)))
noncomputable def pListD (ds : List PyData) : Option PyData := match ds with
  | [.dict es] => some (.list (keysP es))
  | _ => none
noncomputable def rSortDI : List V → Hp → VK → Prop := fun xs H Q => ∃ (p : Addr) (ks : List (Key × V)) (ns : List Int), xs = [.ref p] ∧ Rd H p (.dK ks) ∧ ks.map (·.1) = ns.map Sum.inl ∧ ns.length < 64 ∧ ∀ l, H l = none → Q (.ref l) (upd H l (.lst ((srtI ns).map V.int)))
noncomputable def pSortD (ds : List PyData) : Option PyData := match ds with
  | [.dict es] => (asIs (keysP es)).bind fun ns => if ns.length < 64 then some (.list ((srtI ns).map PyData.int)) else none
  | _ => none
noncomputable def delP (kvs : List (Key × PyData)) (k : Key) : List (Key × PyData) := kvs.filter fun kv => decide (kv.1 ≠ k)
noncomputable def sPopD (i : Nat) (g : En → Option PyData) : En → Option Out := fun η => (g η).bind fun y => (keyOf y).bind fun k => match η[i]? with
  | some (.odc kvs) => if (lookD (prs kvs) k).isSome = true then some (.nx (η.set i (.odc (delP kvs k)))) else none
  | _ => none
end
end L2.PU
namespace L2.PU
open PySem PySem.Spec PyProof.Rows
mutual
noncomputable def cst : Expr → Option PyData
  | .Constant (.int i) _ _ => some (.int i)
  | .Constant (.str x) _ _ => some (.str x)
  | .Constant (.bool b) _ _ => some (.bool b)
  | .Constant .none _ _ => some .none
  | .UnaryOp .USub a _ => (cst a).bind pNeg
  | .Tuple es _ _ => (csts es).bind fun ds => if ds.length ≤ 1000 then some (.tuple ds) else none
  | .List es _ => (csts es).bind fun ds => if ds.length ≤ 1000 then some (.list ds) else none
  | _ => none
noncomputable def csts : List Expr → Option (List PyData)
  | [] => some []
  | e :: r => (cst e).bind fun d => (csts r).bind fun ds => some (d :: ds)
end
theorem cst_nst {e : Expr} {d : PyData} (h : cst e = some d) : nst e = true := by
  cases e <;> first | rfl | (unfold cst at h; cases h)
section
variable {X : Cx} {B : Bd}
theorem big1000 {n : Nat} (h : n ≤ 1000) : n ≤ sizeLine := Nat.le_trans h (by show 1000 ≤ 2 ^ 24; decide)
theorem E.same {e : Expr} {f g : En → Option PyData} (h : E X B e f) (k : ∀ η, g η = f η) : E X B e g := by
  have : g = f := funext k
  rw [this]; exact h
theorem A.same {e : List Expr} {f g : En → Option (List PyData)} (h : A X B e f) (k : ∀ η, g η = f η) : A X B e g := by
  have : g = f := funext k
  rw [this]; exact h
mutual
theorem cst_ok : ∀ {e : Expr} {d : PyData}, cst e = some d → E X B e (eC d)
  | .Constant (.int i) _ _, d, h => by unfold cst at h; cases h; exact E.int
  | .Constant (.str x) _ _, d, h => by unfold cst at h; cases h; exact E.str
  | .Constant (.bool b) _ _, d, h => by unfold cst at h; cases h; exact E.bl
  | .Constant .none _ _, d, h => by unfold cst at h; cases h; exact E.non
  | .UnaryOp .USub a _, d, h => by
    unfold cst at h
    obtain ⟨x, h1, h2⟩ := bind_some h
    exact E.same (E.neg (cst_ok h1)) fun η => h2.symm
  | .Tuple es _ _, d, h => by
    unfold cst at h
    obtain ⟨ds, h1, h2⟩ := bind_some h
    split at h2
    · rename_i hl
      cases h2
      exact E.same (E.tup (csts_ok h1)) fun η => (if_pos (big1000 hl)).symm
    · cases h2
  | .List es _, d, h => by
    unfold cst at h
    obtain ⟨ds, h1, h2⟩ := bind_some h
    split at h2
    · rename_i hl
      cases h2
      refine E.same (EO.toE (EO.lst (csts_ok h1))) fun η => ?_
      show some (PyData.list ds) = ((gL ds).bind fun ds => some (PyData.list ds))
      unfold gL
      rw [if_pos (big1000 hl)]; rfl
    · cases h2
theorem csts_ok : ∀ {es : List Expr} {ds : List PyData}, csts es = some ds → A X B es (fun _ => some ds)
  | [], ds, h => by unfold csts at h; cases h; exact A.nil
  | e :: r, ds, h => by
    unfold csts at h
    obtain ⟨d, h1, h⟩ := bind_some h
    obtain ⟨ds', h2, h⟩ := bind_some h
    cases h
    exact A.same (A.cons (cst_ok h1) (csts_ok h2) (star_of (cst_nst h1))) fun η => rfl
end
theorem E.cst {e : Expr} {d : PyData} (h : PU.cst e = some d) : E X B e (eC d) := cst_ok h
end
end L2.PU
namespace L2.PU
open PySem PySem.Spec PyProof.Rows
section
variable {X : Cx} {B : Bd} {a e : Expr} {f g : En → Option PyData} {fs : En → Option (List PyData)} {pos pp apos cpos : Pos}
noncomputable def pStr (ds : List PyData) : Option PyData := match ds with
  | [.str x] => some (.str x)
  | [.int i] => if i.natAbs.log2 < 1920 then some (.str (toString i)) else none
  | _ => none
noncomputable def rStr : List V → Hp → VK → Prop := fun xs H Q => (∃ x, xs = [.str x] ∧ Q (.str x) H) ∨ ∃ i, xs = [.int i] ∧ i.natAbs.log2 < 1920 ∧ Q (.str (toString i)) H
theorem call_str1 : CallR X (.type "str") rStr := by
  intro pins s σ H xs us Q I r h
  rcases h with ⟨x, rfl, q⟩ | ⟨i, rfl, hi, q⟩
  · obtain ⟨u, rfl, ru⟩ := vals1 r
    obtain ⟨t, rfl⟩ := ru
    exact PySem.P.str_of_str ⟨.str x, H, I, ⟨t, rfl⟩, q⟩
  · obtain ⟨u, rfl, ru⟩ := vals1 r
    obtain ⟨t, rfl⟩ := ru
    exact PySem.P.str_of_int hi ⟨.str _, H, I.tok _, ⟨_, rfl⟩, q⟩
theorem ad_str {K : PySem.W.Frag} : AdA K rStr pStr := fun F H xs ds d Q sm rs e q => by
  unfold pStr at e
  split at e
  · cases e
    obtain ⟨x, r, rfl, rx, rr⟩ := rs.cons_of
    obtain rfl := rr.nil_of
    exact .inl ⟨_, by rw [rx.str], q _ F H (.refl sm) rel_str⟩
  · split at e
    · rename_i hi
      cases e
      obtain ⟨x, r, rfl, rx, rr⟩ := rs.cons_of
      obtain rfl := rr.nil_of
      exact .inr ⟨_, by rw [rx.int], hi, q _ F H (.refl sm) rel_str⟩
    · cases e
  · cases e
theorem E.toStr (hm : X.mg "str" = none) (ha : A X B [e] fs) (hg : Gl X "str" := by rfl) (he : starEach [e] X.env = (false, eval e X.env) :: starEach [] X.env := by exact star_of rfl) (hpl : (backTo pos (starEach [] X.env)).any (·.1) = false := by rfl) : E X B (.Call (.Name "str" pp) [e] [] pos) (lA pStr fs) :=
  E.callTy call_str1 ad_str hm (by decide +kernel) ha hg (by decide) (by decide) he hpl
noncomputable def pIntT (ds : List PyData) : Option PyData := match ds with
  | [.str x] => if x.length ≤ 640 then (PySem.intText? x).map PyData.int else none
  | _ => none
noncomputable def rIntT : List V → Hp → VK → Prop := fun xs H Q => ∃ x n, xs = [.str x] ∧ x.length ≤ 640 ∧ PySem.intText? x = some n ∧ Q (.int n) H
noncomputable def pMulS (x y : PyData) : Option PyData := match x, y with
  | .str z, .int n => if n = 0 ∨ n = 1 then some (.str (Txt.mul z n)) else none
  | _, _ => none
noncomputable def rSplit : V → List V → Hp → VK → Prop := fun x vs H Q => ∃ z y, x = .str z ∧ vs = [.str y] ∧ y.length ≠ 0 ∧ z.length + 2 ≤ sizeLine ∧ ∀ l, H l = none → Q (.ref l) (upd H l (.lst ((Txt.split z y).map V.str)))
noncomputable def pSplit (x y : PyData) : Option PyData := match x, y with
  | .str z, .str y => if y.length ≠ 0 ∧ z.length + 2 ≤ sizeLine then some (.list ((Txt.split z y).map PyData.str)) else none
  | _, _ => none
variable {body : List Stmt} {h₀ : ExceptHandler} {hs : List ExceptHandler} {u : En → Option Out}
end
end L2.PU
namespace L2.PU
open PySem PySem.Spec PyProof.Rows
section
variable {X : Cx} {B : Bd} {a b e st : Expr} {f g : En → Option PyData} {fs : En → Option (List PyData)} {pos pp p2 : Pos}
noncomputable def pPow (x y : PyData) : Option PyData := match x, y with
  | .int i, .int j => if i = 10 ∧ j = 6 then some (.int 1000000) else none
  | _, _ => none
theorem op_pow : OpR X (binaryOp .Pow) (fun x y H Q => x = .int 10 ∧ y = .int 6 ∧ Q (.int 1000000) H) := by
  intro pins s σ H x y v u Q I rx ry h
  obtain ⟨rfl, rfl, q⟩ := h
  obtain ⟨t, rfl⟩ := rx
  obtain ⟨t', rfl⟩ := ry
  exact PySem.AutoIntOps.pow_4 (by decide) (by decide) (by decide) (by decide) (by decide) ⟨.int 1000000, H, I.tok _, ⟨_, rfl⟩, q⟩
theorem E.pow (ha : E X B a f) (hb : E X B b g) : E X B (.BinOp a .Pow b pos) (l2 pPow f g) := E.op op_pow (fun F H x y dx dy d Q sm rx ry e q => by
  unfold pPow at e
  split at e
  · split at e
    · rename_i hc
      obtain ⟨rfl, rfl⟩ := hc
      cases e
      exact ⟨rx.int, ry.int, q _ F H (.refl sm) rel_int⟩
    · cases e
  · cases e) ha hb
noncomputable def rListT (K : PySem.W.Frag) : List V → Hp → VK → Prop := fun xs H Q => ∃ (p : Addr) (ys : List V), xs = [.ref p] ∧ SqT K H p ys ∧ ∀ l, H l = none → Q (.ref l) (upd H l (.lst ys))
theorem call_listT : CallR X (.type "list") (rListT X.K) := by
  intro pins s σ H xs us Q I r h
  obtain ⟨p, ys, rfl, hp, q⟩ := h
  obtain ⟨u, rfl, ru⟩ := vals1 r
  cases ru
  obtain ⟨its, rv, pl, hz⟩ := I.tuple hp
  obtain ⟨o, ho, hc, n, hd⟩ := pl
  have hz' : ys.length ≤ sizeLine := by first | exact hz | (rw [rv.length]; exact hz)
  refine call_list_seq (hsz := by rw [List.size_toArray, ← rv.length]; exact hz') p (.inr rfl) ho hc hd fun h' c' hk hD => ?_
  exact ⟨.ref s.heap.objs.size, _, I.laid (t' := s.toks) hk (Nat.le_refl _) (o := .lst ys) ⟨hz', its, c', rv, hD⟩, rfl, q _ (I.hok.fresh (Nat.le_refl _))⟩
noncomputable def pListT (ds : List PyData) : Option PyData := match ds with
  | [.tuple xs] => some (.list xs)
  | _ => none
theorem ad_listT {K : PySem.W.Frag} : AdA K (rListT K) pListT := fun F H xs ds d Q sm rs e q => by
  unfold pListT at e
  split at e
  · rename_i es
    cases e
    obtain ⟨x, r, rfl, rx, rr⟩ := rs.cons_of
    obtain rfl := rr.nil_of
    obtain ⟨a, ys, rfl, hq, r1⟩ := rx.tup
    refine ⟨a, ys, rfl, same_seqT sm hq, fun p hp => ?_⟩
    have g := Gr.one (o := .lst ys) sm hp
    exact q _ _ _ g (rel_lst (SqL.of upd_same) (r1.mono g.ff))
  · cases e
theorem E.listT (hm : X.mg "list" = none) (ha : A X B [e] fs) (hg : Gl X "list" := by rfl) (he : starEach [e] X.env = (false, eval e X.env) :: starEach [] X.env := by exact star_of rfl) (hpl : (backTo pos (starEach [] X.env)).any (·.1) = false := by rfl) : E X B (.Call (.Name "list" pp) [e] [] pos) (lA pListT fs) :=
  E.callTy call_listT ad_listT hm (by decide +kernel) ha hg (by decide) (by decide) he hpl
end
theorem noFill_tuple_mul : fillsNumberSlot (.type "tuple") "mul" = pure false :=
  PySem.fillsNumberSlot_seq (id := "tuple.__mul__") (r := some (.builtin "tuple.__rmul__")) PySem.F.slot_tuple_mul.lookup (by decide +kernel) PySem.F.slot_tuple_rmul.lookup (by decide +kernel)
theorem repeat_tuple : seqRepeat? (.type "tuple") = pure (some (.builtin "tuple.__mul__")) := by
  unfold seqRepeat?
  rw [PySem.seqSlot_of (T := "tuple") (name := "__mul__") (id := "tuple.__mul__") PySem.F.slot_tuple_mul.lookup (by decide +kernel), PySem.seqSlot_of (T := "tuple") (name := "__rmul__") (id := "tuple.__rmul__") PySem.F.slot_tuple_rmul.lookup (by decide +kernel)]
  rfl
theorem int_rmul_tup (k : Int) (t : Tok) (l : Addr) (items : Array Value) (n : Nat) (d : Option Addr) (sl : Array (Option Value)) :
    Meets (Builtin.«int.__rmul__» ⟨[.int k t, .ref l], []⟩) (fun _ R s => s.heap.get? l = some { cls := .type "tuple", dict := d, data := .seq items n, slots := sl } ∧ R (.ok (.ret Value.notImplemented)) s) :=
  .of_wp fun prog w A R s h => by obtain ⟨hp, g, d, tk, os⟩ := s; obtain ⟨hl, h⟩ := h; wp_walk; exact ⟨_, rfl, h⟩
theorem meets_twice0 (l : Addr) (n : Nat) (d : Option Addr) (sl : Array (Option Value)) (t : Tok) :
    Meets (Builtin.«tuple.__mul__» ⟨[.ref l, .int 2 t], []⟩) (fun _ R s => s.heap.get? l = some { cls := .type "tuple", dict := d, data := .seq #[] n, slots := sl } ∧ R (.ok (.ret (.ref l))) s) :=
  .of_wp fun prog w A R s h => by
    obtain ⟨hp, g, d, tk, os⟩ := s; obtain ⟨hl, h⟩ := h
    wp_walk
    exact ⟨_, rfl, h⟩
theorem meets_twice1 (l : Addr) (items : Array Value) (n : Nat) (d : Option Addr) (sl : Array (Option Value)) (t : Tok) (he : items.isEmpty = false) (hz : items.size * 2 ≤ sizeLine) :
    Meets (Builtin.«tuple.__mul__» ⟨[.ref l, .int 2 t], []⟩) (fun _ R s => s.heap.get? l = some { cls := .type "tuple", dict := d, data := .seq items n, slots := sl } ∧ R (.ok (.ret (.ref s.heap.objs.size))) { s with heap := s.heap.push { cls := .type "tuple", data := .seq (items ++ items) } }) :=
  .of_wp fun prog w A R s h => by
    obtain ⟨hp, g, d, tk, os⟩ := s; obtain ⟨hl, h⟩ := h
    have hz' : items.size * 2 ≤ 16777216 := by rw [← sizeLine_eq]; exact hz
    have hb : ¬ ((items.size : Int) * 2 > (2 ^ 63 - 1) / 8) := by omega
    have ht : ¬ (Builtin.Tuple.tupleTooMany ((items.size : Int) * 2) = true) := by
      unfold Builtin.Tuple.tupleTooMany
      rw [sizeLine_eq]
      simp
      omega
    have ea : List.foldl (fun x1 x2 => x1 ++ x2) #[] (List.replicate (Int.toNat 2) items) = items ++ items := by
      show (#[] ++ items) ++ items = _
      simp
    wp_walk
    rw [if_neg hb]
    rw [if_neg ht, ea]
    unfold Builtin.Tuple.tupleExact
    refine wpAny_bind (wpAny_newObj_type (wpAny_pure ⟨_, rfl, h⟩) ?_)
    show (items ++ items).size ≤ sizeLine
    rw [Array.size_append, sizeLine_eq]
    omega
section
variable {X : Cx} {B : Bd} {a b e st : Expr} {f g : En → Option PyData} {fs : En → Option (List PyData)} {pos pp p2 : Pos}
noncomputable def rTw (K : PySem.W.Frag) : V → V → Hp → VK → Prop := fun x y H Q => ∃ p xs, x = .ref p ∧ y = .int 2 ∧ SqT K H p xs ∧ xs.length * 2 ≤ sizeLine ∧ (xs = [] → Q (.ref p) H) ∧ (xs ≠ [] → ∀ l, H l = none → Q (.ref l) (upd H l (.tup (xs ++ xs))))
theorem op_twice : OpR X (binaryOp .Mult) (rTw X.K) := by
  intro pins s σ H x y v u Q I rx ry h
  obtain ⟨p, xs, rfl, rfl, hp, hz, q0, q1⟩ := h
  cases rx
  obtain ⟨t, rfl⟩ := ry
  obtain ⟨its, r, ht, hl⟩ := I.tuple hp
  have hT := ht.typeIs
  obtain ⟨⟨oc, od, odt, osl⟩, ho, hc, n, hd⟩ := id ht
  replace hc : oc = .type "tuple" := hc
  replace hd : odt = .seq its.toArray n := hd
  subst hc hd
  have hlen : its.length = xs.length := r.length.symm
  refine wpAny_binaryOp_repeat_ref (T := "tuple") (U := "int") (by decide) hT (fun s' => typeIs_int s' 2 t) noFill_tuple_mul PySem.F.fills_int_mul PySem.F.slot_int_rmul repeat_tuple PySem.F.slot_int_index.lookup
    (call_meets PySem.F.slot_int_rmul (typeIs_int s 2 t) PySem.F.entry_int_rmul (PySem.F.args_int_rmul_2 _ _) (int_rmul_tup 2 t p its.toArray n od osl) ⟨ho, rfl, hT, ?_⟩)
  by_cases hx : xs = []
  · subst hx
    have : its = [] := List.eq_nil_of_length_eq_zero hlen
    subst this
    exact call_meets PySem.F.slot_tuple_mul hT PySem.F.entry_tuple_mul (PySem.F.args_tuple_mul_2 _ _) (meets_twice0 p n od osl t) ⟨ho, .ref p, H, I, rfl, q0 rfl⟩
  · have he : its.toArray.isEmpty = false := by
      cases its with
      | nil =>
        have : xs = [] := List.eq_nil_of_length_eq_zero hlen.symm
        exact absurd this hx
      | cons => rfl
    refine call_meets PySem.F.slot_tuple_mul hT PySem.F.entry_tuple_mul (PySem.F.args_tuple_mul_2 _ _) (meets_twice1 p its.toArray n od osl t he (by rw [List.size_toArray, hlen]; exact hz)) ⟨ho, ?_⟩
    refine ⟨.ref s.heap.objs.size, _, I.laid (t' := s.toks) (o := .tup (xs ++ xs)) (fun b ob q => Heap.get?_push_of_some _ q) (Nat.le_refl _) ?_, rfl, q1 hx _ (I.hok.fresh (Nat.le_refl _))⟩
    refine ⟨by rw [List.length_append]; omega, its ++ its, r.append r, ?_⟩
    have ea : its.toArray ++ its.toArray = (its ++ its).toArray := by simp
    rw [ea]
    exact IsTup.new _ _
noncomputable def pTw (x y : PyData) : Option PyData := match x, y with
  | .tuple ds, .int k => if k = 2 ∧ ds.length ≤ 1000 then some (.tuple (ds ++ ds)) else none
  | _, _ => none
theorem E.mulT (ha : E X B a f) (hb : E X B b g) : E X B (.BinOp a .Mult b pos) (l2 pTw f g) := E.op op_twice (fun F H x y dx dy d Q sm rx ry e q => by
  unfold pTw at e
  split at e
  · rename_i ds k
    split at e
    · rename_i hc
      obtain ⟨rfl, hl⟩ := hc
      cases e
      obtain ⟨p, xs, rfl, hq, rs⟩ := rx.tup
      have hlen := rs.length
      refine ⟨p, xs, rfl, ry.int, same_seqT sm hq, by rw [hlen, sizeLine_eq]; omega, fun h0 => ?_, fun _ l hn => ?_⟩
      · have hds : ds = [] := by
          rw [h0] at hlen
          exact List.eq_nil_of_length_eq_zero hlen.symm
        refine q _ F H (.refl sm) ?_
        rw [hds]
        exact rel_tup hq (by rw [h0]; exact .nil)
      · have g2 := Gr.one (o := .tup (xs ++ xs)) sm hn
        exact q _ _ _ g2 (rel_tup (SqT.of upd_same) ((rs.append rs).mono g2.ff))
    · cases e
  · cases e) ha hb
noncomputable def pRvT (x y : PyData) : Option PyData := match x with
  | .tuple ds => (asI y).bind fun k => if k = -1 then some (.tuple ds.reverse) else none
  | _ => none
end
section
variable {prog : Program} {w : World} {A : Around} {E : Value → Shared → Prop} {s : Shared}
theorem adj_rev (n : Nat) : Builtin.Slice.sliceAdjust none none (-1) (n : Int) = ((n : Int) - 1, -1) := by
  unfold Builtin.Slice.sliceAdjust
  simp
theorem plc_rev (n : Nat) : Builtin.Slice.slicePlaces ((n : Int) - 1) (-1) (-1) = n := by
  unfold Builtin.Slice.slicePlaces
  simp
  split <;> omega
theorem fm_congr {α β : Type} {f g : α → Option β} : ∀ {l : List α}, (∀ x ∈ l, f x = g x) → l.filterMap f = l.filterMap g
  | [], _ => rfl
  | x :: r, h => by
    rw [List.filterMap_cons, List.filterMap_cons, h x List.mem_cons_self, fm_congr fun y hy => h y (List.mem_cons_of_mem _ hy)]
theorem pick_rev (xs : Array Value) : ((List.range xs.size).filterMap fun (k : Nat) => xs[(((xs.size : Int) - 1) + (k : Int) * (-1)).toNat]?) = xs.toList.reverse := by
  rw [← PySem.W.krv_all xs, ← List.filterMap_reverse, ← PySem.W.krv_range, List.filterMap_map]
  refine fm_congr fun k hk => ?_
  have := List.mem_range.mp hk
  show xs[_]? = xs[xs.size - 1 - k]?
  congr 1
  omega
theorem sliceApplied_rev {sl : Addr} {vs : Value} {n : Nat} {Q : Int × Int × Nat → Shared → Prop} (hs : s.heap.IsSliceOf sl .none .none vs) (ps : IsPart vs (some (-1))) (h : Q ((n : Int) - 1, -1, n) s) :
    wpAny (model prog w) A (Builtin.Slice.sliceApplied (.ref sl) (pure (n : Int))) Q E s := by
  obtain ⟨os, hos, hcs, hds⟩ := id hs
  unfold Builtin.Slice.sliceApplied Builtin.Slice.sliceFields
  refine wpAny_bind (wpAny_bind (wpAny_field hos hds (x := .none) rfl (wpAny_bind (wpAny_field hos hds (x := .none) rfl (wpAny_bind (wpAny_field hos hds (x := vs) rfl (wpAny_pure ?_)))))))
  refine wpAny_bind (HT.slicePart_ ps ?_)
  show wpAny _ _ (if ((-1 : Int) == 0) = true then _ else _) _ _ s
  rw [if_neg (by decide)]
  refine wpAny_bind (HT.slicePart_ IsPart.none (wpAny_bind (HT.slicePart_ IsPart.none (wpAny_bind (wpAny_pure ?_)))))
  show wpAny _ _ (match Builtin.Slice.sliceAdjust none none (-1) (n : Int) with | (lo, hi) => pure (lo, (-1 : Int), Builtin.Slice.slicePlaces lo hi (-1))) _ _ s
  rw [adj_rev]
  show wpAny _ _ (pure (((n : Int) - 1), (-1 : Int), Builtin.Slice.slicePlaces ((n : Int) - 1) (-1) (-1))) _ _ s
  rw [plc_rev]
  exact wpAny_pure h
end
section
variable {X : Cx} {B : Bd} {e st : Expr} {f g : En → Option PyData} {pos p2 : Pos}
theorem E.slRevT (he : E X B e f) (hs : E X B st g) (hsub : ∀ o i, subscripted (.Slice none none (some st) p2) false o i = operate [o, i] (getItem o i) := by intro _ _; with_unfolding_all rfl) : E X B (.Subscript e (.Slice none none (some st) p2) pos) (l2 pRvT f g) := by
  intro pins s σ H Q I ⟨F, η, d, sr, hd, q⟩
  obtain ⟨x, hx, hd⟩ := bind_some hd
  obtain ⟨y, hy, hd2⟩ := bind_some hd
  unfold pRvT at hd2
  split at hd2
  · rename_i ds
    obtain ⟨k, hk, hd3⟩ := bind_some hd2
    obtain rfl := asI_some hk
    split at hd3
    · rename_i hk1
      subst hk1
      cases hd3
      refine Subscript_ (thn (he pins s σ H (fun v H1 => ∃ F1, Gr F H F1 H1 ∧ Rel X.K F1 (.tuple ds) v) I ⟨F, η, _, sr, hx, fun v F1 H1 g1 r => ⟨F1, g1, r⟩⟩) fun v s1 ⟨x, H1, I1, r1, F1, g1, rx⟩ => ?_)
      refine wpAny_Slice ?_
      rw [evalPart_none]
      refine wpAny_pure (wpAny_pure ?_)
      refine thn ((P.some hs) pins s1 σ H1 (fun o H2 => ∃ F2, Gr F1 H1 F2 H2 ∧ o = some (-1)) I1 ⟨F1, η, some (-1), sr.grow g1, pS_some hy, fun F2 H2 g2 => ⟨F2, g2, rfl⟩⟩) fun vs s2 ⟨o, H2, I2, ps, F2, g2, eo⟩ => ?_
      subst eo
      have I4 : Inv X pins σ H2 { s2 with heap := s2.heap.push { cls := .type "slice", data := .fields #[.none, .none, vs] } } := I2.kept (t' := s2.toks) fun b ob q => Heap.get?_push_of_some _ q
      obtain ⟨a, xs, rfl, hq, rs⟩ := rx.tup
      cases r1
      obtain ⟨its, r, ht, hz⟩ := I4.tuple (same_seqT g2.hh (same_seqT g1.fh hq))
      have hlen := r.length
      have hlen' : its.toArray.size = its.length := List.size_toArray
      show wpAny (model X.prog X.w) X.A (subscriptTail e (.Slice none none (some st) p2) (.ref a) (.ref s2.heap.objs.size)) (EP X pins σ Q) X.xe { s2 with heap := s2.heap.push { cls := .type "slice", data := .fields #[.none, .none, vs] } }
      refine tail_any (ops := [.ref a, .ref s2.heap.objs.size]) ht.typeIs PyProof.Rows.slot_tuple_getitem.lookup ?_ (hsub _ _)
      have hsl : ({ s2 with heap := s2.heap.push { cls := .type "slice", data := .fields #[.none, .none, vs] } } : Shared).heap.IsSliceOf s2.heap.objs.size .none .none vs := Heap.IsSliceOf.new ..
      have hTs : Shared.TypeIs { s2 with heap := s2.heap.push { cls := .type "slice", data := .fields #[.none, .none, vs] } } (.ref s2.heap.objs.size) "slice" := by
        obtain ⟨os, hos, hcs, hds⟩ := id hsl
        exact ⟨os, hos, hcs⟩
      unfold getItem
      try with_reducible refine wpAny_holding ?_
      first | refine wpAny_bind (wpAny_pure ?_) | skip
      refine wpAny_bind (wpAny_sequenceKey ht.typeIs (by decide) ?_)
      refine wpAny_bind (wpAny_callSpecial?_slot (name := Str.ofString "__getitem__") ht.typeIs PyProof.Rows.slot_tuple_getitem
        (wpAny_call_entry PyProof.Rows.slot_tuple_getitem ht.typeIs entry_tuple_getitem ?_ (args_tuple_getitem _ _)))
      show wpAny _ _ (Builtin.Tuple.tupleItemsOf (.ref a) >>= _) _ _ _
      refine wpAny_bind (tupleItemsOf_ ht ?_)
      refine wpAny_bind (wpAny_typeOf hTs ?_)
      rw [if_pos (by decide)]
      refine wpAny_bind (sliceApplied_rev hsl ps ?_)
      dsimp only
      rw [if_neg (by simp), pick_rev, show its.toArray.toList.reverse = its.reverse by simp]
      have g3 : ∀ l, H2 l = none → Gr F2 H2 (upd F2 l (.tup xs.reverse)) (upd H2 l (.tup xs.reverse)) := fun l hl => Gr.one g2.fh hl
      unfold Builtin.Tuple.tupleExact
      refine wpAny_bind (wpAny_newObj_type (wpAny_pure ⟨_, rfl, wpAny_pure ?_⟩) ?_)
      · refine ⟨.ref _, _, I4.laid (t' := s2.toks) (o := .tup xs.reverse) (fun b ob q => Heap.get?_push_of_some _ q) (Nat.le_refl _) ?_, rfl, q _ _ _ ((g1.trans g2).trans (g3 _ (I4.hok.fresh (Nat.le_refl _)))) (rel_tup (SqT.of upd_same) (rs.reverse.mono (g2.ff.trans (g3 _ (I4.hok.fresh (Nat.le_refl _))).ff)))⟩
        exact ⟨by rw [List.length_reverse]; exact hz, its.reverse, r.reverse, IsTup.new _ _⟩
      · show its.reverse.toArray.size ≤ sizeLine
        rw [List.size_toArray, List.length_reverse, ← hlen]; exact hz
    · cases hd3
  · cases hd2
end
end L2.PU
namespace K01
open PySem L2 L2.PU
noncomputable def top (i : Nat) : Stmt := PySem.Challenge.pw_touchtree_k01_known.main.body.getD i (.Pass ⟨0, 0, 0, 0⟩)
noncomputable abbrev s__law_cell : Stmt := top 21
noncomputable abbrev s__law_drawn : Stmt := top 22
noncomputable abbrev s__law_scene : Stmt := top 23
noncomputable abbrev s__law_odd : Stmt := top 27
noncomputable abbrev s__law_spoilt : Stmt := top 28
noncomputable abbrev s_is_marks : Stmt := top 17
noncomputable abbrev s_is_name : Stmt := top 16
noncomputable abbrev s_is_whole : Stmt := top 15
noncomputable abbrev s_is_box : Stmt := top 18
noncomputable abbrev s_is_scene : Stmt := top 19
noncomputable abbrev s__law_is_number : Stmt := top 29
noncomputable abbrev s__law_is_box : Stmt := top 30
noncomputable abbrev s__law_is_scene : Stmt := top 31
noncomputable abbrev s__law_each : Stmt := top 32
noncomputable abbrev s_law : Stmt := top 33
structure Adr where
  _law_cell : Addr
  d__law_cell : FuncData
  _law_drawn : Addr
  d__law_drawn : FuncData
  _law_scene : Addr
  d__law_scene : FuncData
  _law_odd : Addr
  d__law_odd : FuncData
  _law_spoilt : Addr
  d__law_spoilt : FuncData
  is_marks : Addr
  d_is_marks : FuncData
  is_name : Addr
  d_is_name : FuncData
  is_whole : Addr
  d_is_whole : FuncData
  is_box : Addr
  d_is_box : FuncData
  is_scene : Addr
  d_is_scene : FuncData
  _law_is_number : Addr
  d__law_is_number : FuncData
  _law_is_box : Addr
  d__law_is_box : FuncData
  _law_is_scene : Addr
  d__law_is_scene : FuncData
  _law_each : Addr
  d__law_each : FuncData
  law : Addr
  d_law : FuncData
  t_ALL_MARKS : Tok
  t_AROUND : Tok
  t_FARTHEST : Tok
  t_HEIGHT : Tok
  t_LARGEST : Tok
  t_LEFT : Tok
  t_LETTERS : Tok
  t_LONGEST_NAME : Tok
  t_MARKS : Tok
  t_MOST_BOXES : Tok
  t_NAME : Tok
  t_PARTS : Tok
  t_TOP : Tok
  t_WIDTH : Tok
structure Tx (K : PySem.W.Frag) (mg : Str → Option Value) (t : Adr) : Prop where
  F__law_cell : Fun K "_law_cell" "_law_cell" s__law_cell t._law_cell t.d__law_cell
  m__law_cell : mg "_law_cell" = some (.ref t._law_cell)
  b__law_cell : Binds K t.d__law_cell ["_law_script", "_law_k"] []
  F__law_drawn : Fun K "_law_drawn" "_law_drawn" s__law_drawn t._law_drawn t.d__law_drawn
  m__law_drawn : mg "_law_drawn" = some (.ref t._law_drawn)
  b__law_drawn : Binds K t.d__law_drawn ["_law_script", "_law_k", "_law_many"] []
  F__law_scene : Fun K "_law_scene" "_law_scene" s__law_scene t._law_scene t.d__law_scene
  m__law_scene : mg "_law_scene" = some (.ref t._law_scene)
  b__law_scene : Binds K t.d__law_scene ["_law_script", "_law_at"] []
  F__law_odd : Fun K "_law_odd" "_law_odd" s__law_odd t._law_odd t.d__law_odd
  m__law_odd : mg "_law_odd" = some (.ref t._law_odd)
  b__law_odd : Binds K t.d__law_odd ["_law_number"] []
  F__law_spoilt : Fun K "_law_spoilt" "_law_spoilt" s__law_spoilt t._law_spoilt t.d__law_spoilt
  m__law_spoilt : mg "_law_spoilt" = some (.ref t._law_spoilt)
  b__law_spoilt : Binds K t.d__law_spoilt ["_law_thing", "_law_number", "_law_deep"] []
  F_is_marks : Fun K "is_marks" "is_marks" s_is_marks t.is_marks t.d_is_marks
  m_is_marks : mg "is_marks" = some (.ref t.is_marks)
  b_is_marks : Binds K t.d_is_marks ["thing"] []
  F_is_name : Fun K "is_name" "is_name" s_is_name t.is_name t.d_is_name
  m_is_name : mg "is_name" = some (.ref t.is_name)
  b_is_name : Binds K t.d_is_name ["thing"] []
  F_is_whole : Fun K "is_whole" "is_whole" s_is_whole t.is_whole t.d_is_whole
  m_is_whole : mg "is_whole" = some (.ref t.is_whole)
  b_is_whole : Binds K t.d_is_whole ["thing", "least", "most"] []
  F_is_box : Fun K "is_box" "is_box" s_is_box t.is_box t.d_is_box
  m_is_box : mg "is_box" = some (.ref t.is_box)
  b_is_box : Binds K t.d_is_box ["thing"] []
  F_is_scene : Fun K "is_scene" "is_scene" s_is_scene t.is_scene t.d_is_scene
  m_is_scene : mg "is_scene" = some (.ref t.is_scene)
  b_is_scene : Binds K t.d_is_scene ["thing"] []
  F__law_is_number : Fun K "_law_is_number" "_law_is_number" s__law_is_number t._law_is_number t.d__law_is_number
  m__law_is_number : mg "_law_is_number" = some (.ref t._law_is_number)
  b__law_is_number : Binds K t.d__law_is_number ["_law_thing", "_law_low", "_law_high"] []
  F__law_is_box : Fun K "_law_is_box" "_law_is_box" s__law_is_box t._law_is_box t.d__law_is_box
  m__law_is_box : mg "_law_is_box" = some (.ref t._law_is_box)
  b__law_is_box : Binds K t.d__law_is_box ["_law_box_here", "_law_names"] []
  F__law_is_scene : Fun K "_law_is_scene" "_law_is_scene" s__law_is_scene t._law_is_scene t.d__law_is_scene
  m__law_is_scene : mg "_law_is_scene" = some (.ref t._law_is_scene)
  b__law_is_scene : Binds K t.d__law_is_scene ["_law_thing"] []
  F__law_each : Fun K "_law_each" "_law_each" s__law_each t._law_each t.d__law_each
  m__law_each : mg "_law_each" = some (.ref t._law_each)
  b__law_each : Binds K t.d__law_each ["_law_thing"] []
  F_law : Fun K "law" "law" s_law t.law t.d_law
  m_law : mg "law" = some (.ref t.law)
  b_law : Binds K t.d_law ["_law_script"] []
  c_ALL_MARKS : mg "ALL_MARKS" = some (.str "cfhl" t.t_ALL_MARKS)
  c_AROUND : mg "AROUND" = some (.int (1) t.t_AROUND)
  c_FARTHEST : mg "FARTHEST" = some (.int (20) t.t_FARTHEST)
  c_HEIGHT : mg "HEIGHT" = some (.int (5) t.t_HEIGHT)
  c_LARGEST : mg "LARGEST" = some (.int (20) t.t_LARGEST)
  c_LEFT : mg "LEFT" = some (.int (2) t.t_LEFT)
  c_LETTERS : mg "LETTERS" = some (.str "abcdefghijklmnopqrstuvwxyz" t.t_LETTERS)
  c_LONGEST_NAME : mg "LONGEST_NAME" = some (.int (3) t.t_LONGEST_NAME)
  c_MARKS : mg "MARKS" = some (.int (6) t.t_MARKS)
  c_MOST_BOXES : mg "MOST_BOXES" = some (.int (12) t.t_MOST_BOXES)
  c_NAME : mg "NAME" = some (.int (0) t.t_NAME)
  c_PARTS : mg "PARTS" = some (.int (7) t.t_PARTS)
  c_TOP : mg "TOP" = some (.int (3) t.t_TOP)
  c_WIDTH : mg "WIDTH" = some (.int (4) t.t_WIDTH)
  z_all : mg "all" = none
  z_bool : mg "bool" = none
  z_enumerate : mg "enumerate" = none
  z_int : mg "int" = none
  z_isinstance : mg "isinstance" = none
  z_len : mg "len" = none
  z_list : mg "list" = none
  z_range : mg "range" = none
  z_str : mg "str" = none
  z_tuple : mg "tuple" = none
section
variable {Pr : Program} {w : World} {K : PySem.W.Frag} {mg : Str → Option Value} {base : Heap} {t : Adr}
noncomputable abbrev N__law_cell : List Str := ["_law_script", "_law_k"]
theorem sc__law_cell : FnScope ["_law_script", "_law_k"] ["_law_script", "_law_k"] (defScope s__law_cell) := ⟨rfl, rfl, rfl, by decide +kernel, rfl, by decide +kernel, by decide +kernel⟩
noncomputable def g__law_cell  : En → Option Out :=
  (sSeq (sIf (bT (l2 pEq (eV 0) (oE (fun η => (aN η).bind gL)))) (sRet (l2 pMul (eC (.int 7)) (eV 1))) sNx)
    (sRet (l2 pAdd (l2 pIx (eV 0) (l2 pMod (eV 1) (lA pLen (aC (eV 0) aN)))) (l2 pMul (eC (.int 6553)) (l2 pFdiv (eV 1) (lA pLen (aC (eV 0) aN)))))))
set_option maxHeartbeats 4000000 in
theorem ok__law_cell {k : Nat} (tx : Tx K mg t)  : FnOk Pr w K mg base CX0 (k + 1) t._law_cell t.d__law_cell ["_law_script", "_law_k"] (spP K (runF 2 2 (g__law_cell))) :=
  fnP tx.F__law_cell sc__law_cell fun _ _ _ _ _ _ _ hr =>
    (@Ss.cons _ _ _ _ _ _ (@S.ifS _ _ _ _ _ _ _ _ _ (T.eq hr (E.v 0) (EO.toE (EO.lst A.nil))) (@Ss.one _ _ _ _ (S.ret (E.mul E.int (E.v 1)))) Ss.nil)
    (@Ss.one _ _ _ _ (S.ret (E.add (E.at (E.v 0) (E.mod (E.v 1) (E.len tx.z_len (A.cons (E.v 0) A.nil)))) (E.mul E.int (E.fdiv (E.v 1) (E.len tx.z_len (A.cons (E.v 0) A.nil))))))))
noncomputable abbrev N__law_drawn : List Str := ["_law_script", "_law_k", "_law_many", "_law_cell_here"]
theorem sc__law_drawn : FnScope ["_law_script", "_law_k", "_law_many", "_law_cell_here"] ["_law_script", "_law_k", "_law_many"] (defScope s__law_drawn) := ⟨rfl, rfl, rfl, by decide +kernel, rfl, by decide +kernel, by decide +kernel⟩
noncomputable def g__law_drawn (fn__law_cell : List PyData → Option PyData) : En → Option Out :=
  (sSeq (sSet 3 (l2 pMod (l2 pAdd (l2 pMul (l2 pMod (lA fn__law_cell (aC (eV 0) (aC (eV 1) aN))) (eC (.int 2147483563))) (eC (.int 69069))) (l2 pMul (eC (.int 104723)) (l2 pAdd (eV 1) (eC (.int 1))))) (eC (.int 2147483563))))
    (sSeq (sSet 3 (l2 pMod (l2 pAdd (l2 pMul (eV 3) (eV 3)) (l2 pFdiv (eV 3) (eC (.int 3)))) (eC (.int 2147483399))))
    (sRet (l2 pMod (l2 pFdiv (l2 pMod (l2 pAdd (l2 pMul (eV 3) (eV 3)) (l2 pFdiv (eV 3) (eC (.int 7)))) (eC (.int 2147483647))) (eC (.int 11))) (eV 2)))))
set_option maxHeartbeats 4000000 in
theorem ok__law_drawn {k : Nat} (tx : Tx K mg t) {k__law_cell : Nat} {fn__law_cell : List PyData → Option PyData} (G__law_cell : FnOk Pr w K mg base CX0 k__law_cell t._law_cell t.d__law_cell ["_law_script", "_law_k"] (spP K fn__law_cell)) (hk__law_cell : k__law_cell ≤ k) : FnOk Pr w K mg base CX0 (k + 1) t._law_drawn t.d__law_drawn ["_law_script", "_law_k", "_law_many"] (spP K (runF 3 4 (g__law_drawn fn__law_cell))) :=
  fnP tx.F__law_drawn sc__law_drawn fun _ _ _ _ _ _ _ hr =>
    (@Ss.cons _ _ _ _ _ _ (S.set 3 sc__law_drawn.nd (E.mod (E.add (E.mul (E.mod (E.call G__law_cell hr (by omega) tx.m__law_cell tx.F__law_cell.kp tx.b__law_cell (A.cons (E.v 0) (A.cons (E.v 1) A.nil))) E.int) E.int) (E.mul E.int (E.add (E.v 1) E.int))) E.int))
    (@Ss.cons _ _ _ _ _ _ (S.set 3 sc__law_drawn.nd (E.mod (E.add (E.mul (E.v 3) (E.v 3)) (E.fdiv (E.v 3) E.int)) E.int))
    (@Ss.one _ _ _ _ (S.ret (E.mod (E.fdiv (E.mod (E.add (E.mul (E.v 3) (E.v 3)) (E.fdiv (E.v 3) E.int)) E.int) E.int) (E.v 2))))))
noncomputable abbrev N__law_scene : List Str := ["_law_script", "_law_at", "_law_found", "_law_turn", "_law_k", "_law_here", "_law_around", "_law_places", "_law_sizes", "_law_marks", "_law_j", "_law_sign", "_law_name"]
theorem sc__law_scene : FnScope ["_law_script", "_law_at", "_law_found", "_law_turn", "_law_k", "_law_here", "_law_around", "_law_places", "_law_sizes", "_law_marks", "_law_j", "_law_sign", "_law_name"] ["_law_script", "_law_at"] (defScope s__law_scene) := ⟨rfl, rfl, rfl, by decide +kernel, rfl, by decide +kernel, by decide +kernel⟩
noncomputable def g__law_scene (fn__law_drawn : List PyData → Option PyData) : En → Option Out :=
  (sSeq (sSet 2 (lA (fun ds => if ds.length ≤ sizeLine then some (.tuple ds) else none) aN))
    (sSeq (sSet 3 (lA fn__law_drawn (aC (eV 0) (aC (l2 pAdd (eV 1) (eC (.int 1))) (aC (eC (.int 8)) aN)))))
    (sSeq (sFor (fun η => ((aC (lA fn__law_drawn (aC (eV 0) (aC (eV 1) (aC (eC (.int 8)) aN)))) aN) η).bind rng1) (tgN 4)
    (sSeq (sSet 5 (l2 pAdd (l2 pAdd (eV 1) (eC (.int 3))) (l2 pMul (eC (.int 9)) (eV 4))))
    (sSeq (sSet 6 (l2 pIx (l2 pAdd (oE (fun η => ((aC (eC (.str "")) aN) η).bind gL)) (oE (sComp [none] (lI asTu (eV 2)) (tgN 0) tTrue (l2 pIx (eV 0) (eC (.int 0)))))) (lA fn__law_drawn (aC (eV 0) (aC (eV 5) (aC (l2 pAdd (eV 4) (eC (.int 1))) aN))))))
    (sSeq (sSetO 7 (sComp [none, some 0, some 5] (fun η => ((aC (eC (.int 2)) aN) η).bind rng1) (tgN 0) tTrue (l2 pSub (lA fn__law_drawn (aC (eV 1) (aC (l2 pAdd (l2 pAdd (eV 2) (eC (.int 1))) (eV 0)) (aC (eC (.int 9)) aN)))) (eC (.int 3)))))
    (fun η => (sSeq (sSetO 8 (sComp [none, some 0, some 5] (fun η => ((aC (eC (.int 2)) aN) η).bind rng1) (tgN 0) tTrue (lA fn__law_drawn (aC (eV 1) (aC (l2 pAdd (l2 pAdd (eV 2) (eC (.int 3))) (eV 0)) (aC (eC (.int 9)) aN))))))
    (fun η => (sSeq (sSet 9 (eC (.str "")))
    (sSeq (sFor (fun η => ((aC (eC (.str "cfhl")) aN) η).bind enS) (tgT (tgCons (tgN 10) (tgCons (tgN 11) tgNil)))
    (sIf (bT (l2 pEq (lA fn__law_drawn (aC (eV 0) (aC (l2 pAdd (l2 pAdd (eV 5) (eC (.int 5))) (eV 10)) (aC (l2 pIx (oE (fun η => ((aC (eC (.int 4)) (aC (eC (.int 2)) (aC (eC (.int 9)) (aC (eC (.int 6)) aN)))) η).bind gL)) (eV 10)) aN)))) (eC (.int 0)))) (sSet 9 (l2 pAdd (eV 9) (eV 11))) sNx))
    (sSeq (sSet 12 (l2 pIx (eC (.str "dbgahcfe")) (l2 pMod (l2 pAdd (eV 4) (eV 3)) (eC (.int 8)))))
    (sSet 2 (l2 pAdd (eV 2) (lA (fun ds => if ds.length ≤ sizeLine then some (.tuple ds) else none) (aC (l2 pAdd (l2 pAdd (lA (fun ds => if ds.length ≤ sizeLine then some (.tuple ds) else none) (aC (eV 12) (aC (eV 6) aN))) (lA pTup (aC (l2 pAdd (eV 7) (eV 8)) aN))) (lA (fun ds => if ds.length ≤ sizeLine then some (.tuple ds) else none) (aC (eV 9) aN))) aN))))))) (frz 8 η))) (frz 7 η))))))
    (sRet (eV 2)))))
set_option maxHeartbeats 4000000 in
theorem ok__law_scene {k : Nat} (tx : Tx K mg t) {k__law_drawn : Nat} {fn__law_drawn : List PyData → Option PyData} (G__law_drawn : FnOk Pr w K mg base CX0 k__law_drawn t._law_drawn t.d__law_drawn ["_law_script", "_law_k", "_law_many"] (spP K fn__law_drawn)) (hk__law_drawn : k__law_drawn ≤ k) : FnOk Pr w K mg base CX0 (k + 1) t._law_scene t.d__law_scene ["_law_script", "_law_at"] (spP K (runF 2 13 (g__law_scene fn__law_drawn))) :=
  fnP tx.F__law_scene sc__law_scene fun _ _ _ _ _ _ _ hr =>
    (@Ss.cons _ _ _ _ _ _ (S.set 2 sc__law_scene.nd (E.tup A.nil))
    (@Ss.cons _ _ _ _ _ _ (S.set 3 sc__law_scene.nd (E.call G__law_drawn hr (by omega) tx.m__law_drawn tx.F__law_drawn.kp tx.b__law_drawn (A.cons (E.v 0) (A.cons (E.add (E.v 1) E.int) (A.cons E.int A.nil)))))
    (@Ss.cons _ _ _ _ _ _ (@S.for _ _ _ _ _ _ _ _ _ _ _ PassesOwn.never rfl (I.rng1 tx.z_range (A.cons (E.call G__law_drawn hr (by omega) tx.m__law_drawn tx.F__law_drawn.kp tx.b__law_drawn (A.cons (E.v 0) (A.cons (E.v 1) (A.cons E.int A.nil)))) A.nil)) (pg_name (i := 4) sc__law_scene.nd rfl (by first | exact Or.inl rfl | exact Or.inr rfl) ) (TgP.name (i := 4))
    (@Ss.cons _ _ _ _ _ _ (S.set 5 sc__law_scene.nd (E.add (E.add (E.v 1) E.int) (E.mul E.int (E.v 4))))
    (@Ss.cons _ _ _ _ _ _ (S.set 6 sc__law_scene.nd (E.at (E.add (EO.toE (EO.lst (A.cons E.str A.nil))) (EO.toE (EO.comp (N' := ["_law_box_here"]) (mp := [none]) rfl (CompSc.of' N__law_scene (defScope s__law_scene) rfl rfl (by decide +kernel)) (TgP.name (i := 0)) (by decide) (I.tup (E.v 2)) (fun _ _ _ => ⟨(pg_name (i := 0) (show (["_law_box_here"] : List Str).Nodup by decide +kernel) rfl (Or.inl rfl) (.inr rfl)), Ts.nil, (E.at (E.v 0) E.int)⟩)))) (E.call G__law_drawn hr (by omega) tx.m__law_drawn tx.F__law_drawn.kp tx.b__law_drawn (A.cons (E.v 0) (A.cons (E.v 5) (A.cons (E.add (E.v 4) E.int) A.nil))))))
    (@Ss.cons _ _ _ _ _ _ (S.setC 7 (N' := ["_law_j", "_law_script", "_law_here"]) (mp := [none, some 0, some 5]) rfl sc__law_scene.nd (CompSc.of' N__law_scene (defScope s__law_scene) rfl rfl (by decide +kernel)) (TgP.name (i := 0)) (by decide) (I.rng1 tx.z_range (A.cons E.int A.nil)) (fun _ _ _ => ⟨(pg_name (i := 0) (show (["_law_j", "_law_script", "_law_here"] : List Str).Nodup by decide +kernel) rfl (Or.inl rfl) (.inr rfl)), Ts.nil, (E.sub (E.call G__law_drawn hr (by omega) tx.m__law_drawn tx.F__law_drawn.kp tx.b__law_drawn (A.cons (E.v 1) (A.cons (E.add (E.add (E.v 2) E.int) (E.v 0)) (A.cons E.int A.nil)))) E.int)⟩))
    (@Ss.frz _ _ _ _ 7 (@Ss.cons _ _ _ _ _ _ (S.setC 8 (N' := ["_law_j", "_law_script", "_law_here"]) (mp := [none, some 0, some 5]) rfl sc__law_scene.nd (CompSc.of' N__law_scene (defScope s__law_scene) rfl rfl (by decide +kernel)) (TgP.name (i := 0)) (by decide) (I.rng1 tx.z_range (A.cons E.int A.nil)) (fun _ _ _ => ⟨(pg_name (i := 0) (show (["_law_j", "_law_script", "_law_here"] : List Str).Nodup by decide +kernel) rfl (Or.inl rfl) (.inr rfl)), Ts.nil, (E.call G__law_drawn hr (by omega) tx.m__law_drawn tx.F__law_drawn.kp tx.b__law_drawn (A.cons (E.v 1) (A.cons (E.add (E.add (E.v 2) E.int) (E.v 0)) (A.cons E.int A.nil))))⟩))
    (@Ss.frz _ _ _ _ 8 (@Ss.cons _ _ _ _ _ _ (S.set 9 sc__law_scene.nd E.str)
    (@Ss.cons _ _ _ _ _ _ (@S.for _ _ _ _ _ _ _ _ _ _ _ PassesOwn.never rfl (I.enum rfl tx.z_enumerate (A.cons E.str A.nil)) (pg_tup (n := 2) rfl (pgs_cons (pg_name (i := 10) sc__law_scene.nd rfl (by first | exact Or.inl rfl | exact Or.inr rfl) ) (pgs_cons (pg_name (i := 11) sc__law_scene.nd rfl (by first | exact Or.inl rfl | exact Or.inr rfl) ) pgs_nil))) (TgP.tup (n := 2) (TgsP.cons (TgP.name (i := 10)) (TgsP.cons (TgP.name (i := 11)) TgsP.nil)) (tg_len2))
    (@Ss.one _ _ _ _ (@S.ifS _ _ _ _ _ _ _ _ _ (T.eq hr (E.call G__law_drawn hr (by omega) tx.m__law_drawn tx.F__law_drawn.kp tx.b__law_drawn (A.cons (E.v 0) (A.cons (E.add (E.add (E.v 5) E.int) (E.v 10)) (A.cons (E.at (EO.toE (EO.lst (A.cons E.int (A.cons E.int (A.cons E.int (A.cons E.int A.nil)))))) (E.v 10)) A.nil)))) E.int) (@Ss.one _ _ _ _ (S.set 9 sc__law_scene.nd (E.add (E.v 9) (E.v 11)))) Ss.nil)) (fun _ => rfl))
    (@Ss.cons _ _ _ _ _ _ (S.set 12 sc__law_scene.nd (E.at E.str (E.mod (E.add (E.v 4) (E.v 3)) E.int)))
    (@Ss.one _ _ _ _ (S.set 2 sc__law_scene.nd (E.add (E.v 2) (E.tup (A.cons (E.add (E.add (E.tup (A.cons (E.v 12) (A.cons (E.v 6) A.nil))) (E.tuple tx.z_tuple (A.cons (E.add (E.v 7) (E.v 8)) A.nil))) (E.tup (A.cons (E.v 9) A.nil))) A.nil)))))))))))))) (fun _ => rfl))
    (@Ss.one _ _ _ _ (S.ret (E.v 2))))))
noncomputable abbrev N__law_odd : List Str := ["_law_number", "_law_some"]
theorem sc__law_odd : FnScope ["_law_number", "_law_some"] ["_law_number"] (defScope s__law_odd) := ⟨rfl, rfl, rfl, by decide +kernel, rfl, by decide +kernel, by decide +kernel⟩
noncomputable def g__law_odd  : En → Option Out :=
  (sSeq (sSet 1 (oE (fun η => ((aC (l1 pNeg (eC (.int 1))) (aC (eC (.int 0)) (aC (eC (.int 1)) (aC (eC (.int 20)) (aC (eC (.int 21)) (aC (l1 pNeg (eC (.int 20))) (aC (l1 pNeg (eC (.int 21))) (aC (eC (.bool true)) (aC (eC .none) (aC (eC (.str "")) (aC (eC (.str "a")) (aC (eC (.str "abcd")) (aC (eC (.str "A")) (aC (eC (.str "cf")) (aC (eC (.str "fc")) (aC (eC (.str "cc")) (aC (eC (.str "x")) (aC (lA (fun ds => if ds.length ≤ sizeLine then some (.tuple ds) else none) aN) (aC (oE (fun η => (aN η).bind gL)) aN))))))))))))))))))) η).bind gL)))
    (sRet (l2 pIx (l2 pAdd (eV 1) (oE (fun η => ((aC (lA (fun ds => if ds.length ≤ sizeLine then some (.tuple ds) else none) (aC (eC (.str "a")) (aC (eC (.str "")) (aC (eC (.int 0)) (aC (eC (.int 0)) (aC (eC (.int 1)) (aC (eC (.int 1)) (aC (eC (.str "")) aN)))))))) aN) η).bind gL))) (l2 pMod (eV 0) (eC (.int 20))))))
set_option maxHeartbeats 4000000 in
theorem ok__law_odd {k : Nat} (tx : Tx K mg t)  : FnOk Pr w K mg base CX0 (k + 1) t._law_odd t.d__law_odd ["_law_number"] (spP K (runF 1 2 (g__law_odd))) :=
  fnP tx.F__law_odd sc__law_odd fun _ _ _ _ _ _ _ hr =>
    (@Ss.cons _ _ _ _ _ _ (S.set 1 sc__law_odd.nd (EO.toE (EO.lst (A.cons (E.neg E.int) (A.cons E.int (A.cons E.int (A.cons E.int (A.cons E.int (A.cons (E.neg E.int) (A.cons (E.neg E.int) (A.cons E.bl (A.cons E.non (A.cons E.str (A.cons E.str (A.cons E.str (A.cons E.str (A.cons E.str (A.cons E.str (A.cons E.str (A.cons E.str (A.cons (E.tup A.nil) (A.cons (EO.toE (EO.lst A.nil)) A.nil))))))))))))))))))))))
    (@Ss.one _ _ _ _ (S.ret (E.at (E.add (E.v 1) (EO.toE (EO.lst (A.cons (E.tup (A.cons E.str (A.cons E.str (A.cons E.int (A.cons E.int (A.cons E.int (A.cons E.int (A.cons E.str A.nil)))))))) A.nil)))) (E.mod (E.v 0) E.int)))))
noncomputable abbrev N__law_spoilt : List Str := ["_law_thing", "_law_number", "_law_deep", "_law_at", "_law_part"]
theorem sc__law_spoilt : FnScope ["_law_thing", "_law_number", "_law_deep", "_law_at", "_law_part"] ["_law_thing", "_law_number", "_law_deep"] (defScope s__law_spoilt) := ⟨rfl, rfl, rfl, by decide +kernel, rfl, by decide +kernel, by decide +kernel⟩
noncomputable def g__law_spoilt (fn__law_spoilt : List PyData → Option PyData) (fn__law_odd : List PyData → Option PyData) : En → Option Out :=
  (sSeq (sIf (bAnd (bT (l2 pGt (eV 2) (eC (.int 0)))) (bAnd (bT (l1 (pIsin "tuple") (eV 0))) (bAnd (bT (l2 pGt (lA pLen (aC (eV 0) aN)) (eC (.int 0)))) (bT (l2 pGt (l2 pMod (eV 1) (eC (.int 7))) (eC (.int 0))))))) (sSeq (sSet 3 (l2 pMod (l2 pFdiv (eV 1) (eC (.int 7))) (lA pLen (aC (eV 0) aN))))
    (sSeq (sSet 4 (lA fn__law_spoilt (aC (l2 pIx (eV 0) (eV 3)) (aC (l2 pFdiv (eV 1) (eC (.int 91))) (aC (l2 pSub (eV 2) (eC (.int 1))) aN)))))
    (sRet (l2 pAdd (l2 pAdd (eSl (eV 0) pN (pS (eV 3))) (lA (fun ds => if ds.length ≤ sizeLine then some (.tuple ds) else none) (aC (eV 4) aN))) (eSl (eV 0) (pS (l2 pAdd (eV 3) (eC (.int 1)))) pN))))) sNx)
    (sSeq (sIf (bAnd (bT (l1 (pIsin "tuple") (eV 0))) (bAnd (bT (l2 pGt (lA pLen (aC (eV 0) aN)) (eC (.int 0)))) (bT (l2 pEq (l2 pMod (l2 pFdiv (eV 1) (eC (.int 7))) (eC (.int 2))) (eC (.int 0)))))) (sRet (l2 pIx (oE (fun η => ((aC (lA pListT (aC (eV 0) aN)) (aC (eSl (eV 0) pN (pS (l1 pNeg (eC (.int 1))))) (aC (l2 pAdd (eV 0) (eSl (eV 0) (pS (l1 pNeg (eC (.int 1)))) pN)) (aC (eSl (eV 0) (pS (eC (.int 1))) pN) (aC (l2 pRvT (eV 0) (l1 pNeg (eC (.int 1)))) (aC (l2 pTw (eV 0) (eC (.int 2))) aN)))))) η).bind gL)) (l2 pMod (l2 pFdiv (eV 1) (eC (.int 14))) (eC (.int 6))))) sNx)
    (sSeq (sIf (bAnd (bT (l1 (pIsin "int") (eV 0))) (bT (l2 pEq (l2 pMod (l2 pFdiv (eV 1) (eC (.int 7))) (eC (.int 2))) (eC (.int 0))))) (sRet (l2 pIx (oE (fun η => ((aC (lA pStr (aC (eV 0) aN)) (aC (l2 pSub (eC (.int 0)) (eV 0)) (aC (l2 pAdd (eV 0) (eC (.int 1))) (aC (l2 pEq (eV 0) (eC (.int 1))) (aC (l2 pSub (eV 0) (eC (.int 30))) (aC (l2 pAdd (eV 0) (eC (.int 30))) aN)))))) η).bind gL)) (l2 pMod (l2 pFdiv (eV 1) (eC (.int 14))) (eC (.int 6))))) sNx)
    (sRet (lA fn__law_odd (aC (l2 pFdiv (eV 1) (eC (.int 7))) aN))))))
set_option maxHeartbeats 4000000 in
theorem ok__law_spoilt {k : Nat} (tx : Tx K mg t) {k__law_spoilt : Nat} {fn__law_spoilt : List PyData → Option PyData} (G__law_spoilt : FnOk Pr w K mg base CX0 k__law_spoilt t._law_spoilt t.d__law_spoilt ["_law_thing", "_law_number", "_law_deep"] (spP K fn__law_spoilt)) (hk__law_spoilt : k__law_spoilt ≤ k) {k__law_odd : Nat} {fn__law_odd : List PyData → Option PyData} (G__law_odd : FnOk Pr w K mg base CX0 k__law_odd t._law_odd t.d__law_odd ["_law_number"] (spP K fn__law_odd)) (hk__law_odd : k__law_odd ≤ k) : FnOk Pr w K mg base CX0 (k + 1) t._law_spoilt t.d__law_spoilt ["_law_thing", "_law_number", "_law_deep"] (spP K (runF 3 5 (g__law_spoilt fn__law_spoilt fn__law_odd))) :=
  fnP tx.F__law_spoilt sc__law_spoilt fun _ _ _ _ _ _ _ hr =>
    (@Ss.cons _ _ _ _ _ _ (@S.ifS _ _ _ _ _ _ _ _ _ (TW.t (TW.and (T.gt (E.v 2) E.int) (TW.and (T.val (E.isin kit_tuple (by decide +kernel) tx.z_isinstance tx.z_tuple (E.v 0))) (TW.and (T.gt (E.len tx.z_len (A.cons (E.v 0) A.nil)) E.int) (TW.and1 (T.gt (E.mod (E.v 1) E.int) E.int)))))) (@Ss.cons _ _ _ _ _ _ (S.set 3 sc__law_spoilt.nd (E.mod (E.fdiv (E.v 1) E.int) (E.len tx.z_len (A.cons (E.v 0) A.nil))))
    (@Ss.cons _ _ _ _ _ _ (S.set 4 sc__law_spoilt.nd (E.call G__law_spoilt hr (by omega) tx.m__law_spoilt tx.F__law_spoilt.kp tx.b__law_spoilt (A.cons (E.at (E.v 0) (E.v 3)) (A.cons (E.fdiv (E.v 1) E.int) (A.cons (E.sub (E.v 2) E.int) A.nil)))))
    (@Ss.one _ _ _ _ (S.ret (E.add (E.add (E.sl (E.v 0) P.none (P.some (E.v 3))) (E.tup (A.cons (E.v 4) A.nil))) (E.sl (E.v 0) (P.some (E.add (E.v 3) E.int)) P.none)))))) Ss.nil)
    (@Ss.cons _ _ _ _ _ _ (@S.ifS _ _ _ _ _ _ _ _ _ (TW.t (TW.and (T.val (E.isin kit_tuple (by decide +kernel) tx.z_isinstance tx.z_tuple (E.v 0))) (TW.and (T.gt (E.len tx.z_len (A.cons (E.v 0) A.nil)) E.int) (TW.and1 (T.eq hr (E.mod (E.fdiv (E.v 1) E.int) E.int) E.int))))) (@Ss.one _ _ _ _ (S.ret (E.at (EO.toE (EO.lst (A.cons (E.listT tx.z_list (A.cons (E.v 0) A.nil)) (A.cons (E.sl (E.v 0) P.none (P.some (E.neg E.int))) (A.cons (E.add (E.v 0) (E.sl (E.v 0) (P.some (E.neg E.int)) P.none)) (A.cons (E.sl (E.v 0) (P.some E.int) P.none) (A.cons (E.slRevT (E.v 0) (E.neg E.int)) (A.cons (E.mulT (E.v 0) E.int) A.nil)))))))) (E.mod (E.fdiv (E.v 1) E.int) E.int)))) Ss.nil)
    (@Ss.cons _ _ _ _ _ _ (@S.ifS _ _ _ _ _ _ _ _ _ (TW.t (TW.and (T.val (E.isin kit_int (by decide +kernel) tx.z_isinstance tx.z_int (E.v 0))) (TW.and1 (T.eq hr (E.mod (E.fdiv (E.v 1) E.int) E.int) E.int)))) (@Ss.one _ _ _ _ (S.ret (E.at (EO.toE (EO.lst (A.cons (E.toStr tx.z_str (A.cons (E.v 0) A.nil)) (A.cons (E.sub E.int (E.v 0)) (A.cons (E.add (E.v 0) E.int) (A.cons (E.eq hr (E.v 0) E.int) (A.cons (E.sub (E.v 0) E.int) (A.cons (E.add (E.v 0) E.int) A.nil)))))))) (E.mod (E.fdiv (E.v 1) E.int) E.int)))) Ss.nil)
    (@Ss.one _ _ _ _ (S.ret (E.call G__law_odd hr (by omega) tx.m__law_odd tx.F__law_odd.kp tx.b__law_odd (A.cons (E.fdiv (E.v 1) E.int) A.nil)))))))
noncomputable abbrev N_is_marks : List Str := ["thing"]
theorem sc_is_marks : FnScope ["thing"] ["thing"] (defScope s_is_marks) := ⟨rfl, rfl, rfl, by decide +kernel, rfl, by decide +kernel, by decide +kernel⟩
noncomputable def g_is_marks  : En → Option Out :=
  (sSeq (sIf (bNot (bT (l1 (pIsin "str") (eV 0)))) (sRet (eC (.bool false))) sNx)
    (sRet (l2 pEq (eV 0) (l2 pJoin (eC (.str "")) (oE (sComp [none, some 0] (lI asSg (eC (.str "cfhl"))) (tgN 0) (bT (l2 (pIn false) (eV 0) (eV 1))) (eV 0)))))))
set_option maxHeartbeats 4000000 in
theorem ok_is_marks {k : Nat} (tx : Tx K mg t)  : FnOk Pr w K mg base CX0 (k + 1) t.is_marks t.d_is_marks ["thing"] (spP K (runF 1 1 (g_is_marks))) :=
  fnP tx.F_is_marks sc_is_marks fun _ _ _ _ _ _ _ hr =>
    (@Ss.cons _ _ _ _ _ _ (@S.ifS _ _ _ _ _ _ _ _ _ (T.not (T.val (E.isin kit_str (by decide +kernel) tx.z_isinstance tx.z_str (E.v 0)))) (@Ss.one _ _ _ _ (S.ret E.bl)) Ss.nil)
    (@Ss.one _ _ _ _ (S.ret (E.eq hr (E.v 0) (E.join E.str (EO.toE (EO.comp (N' := ["mark", "thing"]) (mp := [none, some 0]) rfl (CompSc.of' N_is_marks (defScope s_is_marks) rfl rfl (by decide +kernel)) (TgP.name (i := 0)) (by decide) (I.str (E.globS tx.c_ALL_MARKS)) (fun _ _ _ => ⟨(pg_name (i := 0) (show (["mark", "thing"] : List Str).Nodup by decide +kernel) rfl (Or.inl rfl) (.inr rfl)), (Ts.one (T.in (E.v 0) (E.v 1))), (E.v 0)⟩))))))))
noncomputable abbrev N_is_name : List Str := ["thing"]
theorem sc_is_name : FnScope ["thing"] ["thing"] (defScope s_is_name) := ⟨rfl, rfl, rfl, by decide +kernel, rfl, by decide +kernel, by decide +kernel⟩
noncomputable def g_is_name  : En → Option Out :=
  (sSeq (sIf (bOr (bNot (bT (l1 (pIsin "str") (eV 0)))) (bNot (bT (lch pLe pLe (eC (.int 1)) (lA pLen (aC (eV 0) aN)) (eC (.int 3)))))) (sRet (eC (.bool false))) sNx)
    (sRet (lA pAll (aC (oE (sComp [none] (lI asSg (eV 0)) (tgN 0) tTrue (l2 (pIn false) (eV 0) (eC (.str "abcdefghijklmnopqrstuvwxyz"))))) aN))))
set_option maxHeartbeats 4000000 in
theorem ok_is_name {k : Nat} (tx : Tx K mg t)  : FnOk Pr w K mg base CX0 (k + 1) t.is_name t.d_is_name ["thing"] (spP K (runF 1 1 (g_is_name))) :=
  fnP tx.F_is_name sc_is_name fun _ _ _ _ _ _ _ hr =>
    (@Ss.cons _ _ _ _ _ _ (@S.ifS _ _ _ _ _ _ _ _ _ (TW.t (TW.or (T.not (T.val (E.isin kit_str (by decide +kernel) tx.z_isinstance tx.z_str (E.v 0)))) (TW.or1 (T.not (T.chain op_le (ad_I0 fun _ _ _ => rel_bl) op_le (ad_I0 fun _ _ _ => rel_bl) E.int (E.len tx.z_len (A.cons (E.v 0) A.nil)) (E.globI tx.c_LONGEST_NAME)))))) (@Ss.one _ _ _ _ (S.ret E.bl)) Ss.nil)
    (@Ss.one _ _ _ _ (S.ret (E.all rfl tx.z_all (A.cons (EO.toE (EO.comp (N' := ["sign"]) (mp := [none]) rfl (CompSc.of' N_is_name (defScope s_is_name) rfl rfl (by decide +kernel)) (TgP.name (i := 0)) (by decide) (I.str (E.v 0)) (fun _ _ _ => ⟨(pg_name (i := 0) (show (["sign"] : List Str).Nodup by decide +kernel) rfl (Or.inl rfl) (.inr rfl)), Ts.nil, (E.in (E.v 0) (E.globS tx.c_LETTERS))⟩))) A.nil)))))
noncomputable abbrev N_is_whole : List Str := ["thing", "least", "most"]
theorem sc_is_whole : FnScope ["thing", "least", "most"] ["thing", "least", "most"] (defScope s_is_whole) := ⟨rfl, rfl, rfl, by decide +kernel, rfl, by decide +kernel, by decide +kernel⟩
noncomputable def g_is_whole  : En → Option Out :=
  (sSeq (sIf (bOr (bNot (bT (l1 (pIsin "int") (eV 0)))) (bT (l1 (pIsin "bool") (eV 0)))) (sRet (eC (.bool false))) sNx)
    (sRet (lch pLe pLe (eV 1) (eV 0) (eV 2))))
set_option maxHeartbeats 4000000 in
theorem ok_is_whole {k : Nat} (tx : Tx K mg t)  : FnOk Pr w K mg base CX0 (k + 1) t.is_whole t.d_is_whole ["thing", "least", "most"] (spP K (runF 3 3 (g_is_whole))) :=
  fnP tx.F_is_whole sc_is_whole fun _ _ _ _ _ _ _ hr =>
    (@Ss.cons _ _ _ _ _ _ (@S.ifS _ _ _ _ _ _ _ _ _ (TW.t (TW.or (T.not (T.val (E.isin kit_int (by decide +kernel) tx.z_isinstance tx.z_int (E.v 0)))) (TW.or1 (T.val (E.isin kit_bool (by decide +kernel) tx.z_isinstance tx.z_bool (E.v 0)))))) (@Ss.one _ _ _ _ (S.ret E.bl)) Ss.nil)
    (@Ss.one _ _ _ _ (S.ret (E.chain op_le (ad_I0 fun _ _ _ => rel_bl) op_le (ad_I0 fun _ _ _ => rel_bl) (E.v 1) (E.v 0) (E.v 2)))))
noncomputable abbrev N_is_box : List Str := ["thing", "is_placed"]
theorem sc_is_box : FnScope ["thing", "is_placed"] ["thing"] (defScope s_is_box) := ⟨rfl, rfl, rfl, by decide +kernel, rfl, by decide +kernel, by decide +kernel⟩
noncomputable def g_is_box (fn_is_marks : List PyData → Option PyData) (fn_is_name : List PyData → Option PyData) (fn_is_whole : List PyData → Option PyData) : En → Option Out :=
  (sSeq (sIf (bOr (bNot (bT (l1 (pIsin "tuple") (eV 0)))) (bT (l2 pNe (lA pLen (aC (eV 0) aN)) (eC (.int 7))))) (sRet (eC (.bool false))) sNx)
    (sSeq (sIf (bOr (bNot (bT (lA fn_is_name (aC (l2 pIx (eV 0) (eC (.int 0))) aN)))) (bNot (bT (lA fn_is_marks (aC (l2 pIx (eV 0) (eC (.int 6))) aN))))) (sRet (eC (.bool false))) sNx)
    (sSeq (sSet 1 (lA pAll (aC (oE (sComp [none, some 0] (lI asTu (lA (fun ds => if ds.length ≤ sizeLine then some (.tuple ds) else none) (aC (eC (.int 2)) (aC (eC (.int 3)) aN)))) (tgN 0) tTrue (lA fn_is_whole (aC (l2 pIx (eV 1) (eV 0)) (aC (l1 pNeg (eC (.int 20))) (aC (eC (.int 20)) aN)))))) aN)))
    (sRet (vAnd (eV 1) (lA pAll (aC (oE (sComp [none, some 0] (lI asTu (lA (fun ds => if ds.length ≤ sizeLine then some (.tuple ds) else none) (aC (eC (.int 4)) (aC (eC (.int 5)) aN)))) (tgN 0) tTrue (lA fn_is_whole (aC (l2 pIx (eV 1) (eV 0)) (aC (eC (.int 0)) (aC (eC (.int 20)) aN)))))) aN)))))))
set_option maxHeartbeats 4000000 in
theorem ok_is_box {k : Nat} (tx : Tx K mg t) {k_is_marks : Nat} {fn_is_marks : List PyData → Option PyData} (G_is_marks : FnOk Pr w K mg base CX0 k_is_marks t.is_marks t.d_is_marks ["thing"] (spP K fn_is_marks)) (hk_is_marks : k_is_marks ≤ k) {k_is_name : Nat} {fn_is_name : List PyData → Option PyData} (G_is_name : FnOk Pr w K mg base CX0 k_is_name t.is_name t.d_is_name ["thing"] (spP K fn_is_name)) (hk_is_name : k_is_name ≤ k) {k_is_whole : Nat} {fn_is_whole : List PyData → Option PyData} (G_is_whole : FnOk Pr w K mg base CX0 k_is_whole t.is_whole t.d_is_whole ["thing", "least", "most"] (spP K fn_is_whole)) (hk_is_whole : k_is_whole ≤ k) : FnOk Pr w K mg base CX0 (k + 1) t.is_box t.d_is_box ["thing"] (spP K (runF 1 2 (g_is_box fn_is_marks fn_is_name fn_is_whole))) :=
  fnP tx.F_is_box sc_is_box fun _ _ _ _ _ _ _ hr =>
    (@Ss.cons _ _ _ _ _ _ (@S.ifS _ _ _ _ _ _ _ _ _ (TW.t (TW.or (T.not (T.val (E.isin kit_tuple (by decide +kernel) tx.z_isinstance tx.z_tuple (E.v 0)))) (TW.or1 (T.ne hr (E.len tx.z_len (A.cons (E.v 0) A.nil)) (E.globI tx.c_PARTS))))) (@Ss.one _ _ _ _ (S.ret E.bl)) Ss.nil)
    (@Ss.cons _ _ _ _ _ _ (@S.ifS _ _ _ _ _ _ _ _ _ (TW.t (TW.or (T.not (T.val (E.call G_is_name hr (by omega) tx.m_is_name tx.F_is_name.kp tx.b_is_name (A.cons (E.at (E.v 0) (E.globI tx.c_NAME)) A.nil)))) (TW.or1 (T.not (T.val (E.call G_is_marks hr (by omega) tx.m_is_marks tx.F_is_marks.kp tx.b_is_marks (A.cons (E.at (E.v 0) (E.globI tx.c_MARKS)) A.nil))))))) (@Ss.one _ _ _ _ (S.ret E.bl)) Ss.nil)
    (@Ss.cons _ _ _ _ _ _ (S.set 1 sc_is_box.nd (E.all rfl tx.z_all (A.cons (EO.toE (EO.comp (N' := ["part", "thing"]) (mp := [none, some 0]) rfl (CompSc.of' N_is_box (defScope s_is_box) rfl rfl (by decide +kernel)) (TgP.name (i := 0)) (by decide) (I.tup (E.tup (A.cons (E.globI tx.c_LEFT) (A.cons (E.globI tx.c_TOP) A.nil)))) (fun _ _ _ => ⟨(pg_name (i := 0) (show (["part", "thing"] : List Str).Nodup by decide +kernel) rfl (Or.inl rfl) (.inr rfl)), Ts.nil, (E.call G_is_whole hr (by omega) tx.m_is_whole tx.F_is_whole.kp tx.b_is_whole (A.cons (E.at (E.v 1) (E.v 0)) (A.cons (E.neg (E.globI tx.c_FARTHEST)) (A.cons (E.globI tx.c_FARTHEST) A.nil))))⟩))) A.nil)))
    (@Ss.one _ _ _ _ (S.ret (E.and (E.v 1) (E.one (E.all rfl tx.z_all (A.cons (EO.toE (EO.comp (N' := ["part", "thing"]) (mp := [none, some 0]) rfl (CompSc.of' N_is_box (defScope s_is_box) rfl rfl (by decide +kernel)) (TgP.name (i := 0)) (by decide) (I.tup (E.tup (A.cons (E.globI tx.c_WIDTH) (A.cons (E.globI tx.c_HEIGHT) A.nil)))) (fun _ _ _ => ⟨(pg_name (i := 0) (show (["part", "thing"] : List Str).Nodup by decide +kernel) rfl (Or.inl rfl) (.inr rfl)), Ts.nil, (E.call G_is_whole hr (by omega) tx.m_is_whole tx.F_is_whole.kp tx.b_is_whole (A.cons (E.at (E.v 1) (E.v 0)) (A.cons E.int (A.cons (E.globI tx.c_LARGEST) A.nil))))⟩))) A.nil)))))))))
noncomputable abbrev N_is_scene : List Str := ["thing", "ahead", "box"]
theorem sc_is_scene : FnScope ["thing", "ahead", "box"] ["thing"] (defScope s_is_scene) := ⟨rfl, rfl, rfl, by decide +kernel, rfl, by decide +kernel, by decide +kernel⟩
noncomputable def g_is_scene (fn_is_box : List PyData → Option PyData) : En → Option Out :=
  (sSeq (sIf (bOr (bNot (bT (l1 (pIsin "tuple") (eV 0)))) (bT (l2 pGt (lA pLen (aC (eV 0) aN)) (eC (.int 12))))) (sRet (eC (.bool false))) sNx)
    (sSeq (sSetO 1 (fun η => ((aC (eC (.str "")) aN) η).bind gL))
    (sSeq (sFor (lI asTu (eV 0)) (tgN 2)
    (sSeq (sIf (bOr (bNot (bT (lA fn_is_box (aC (eV 2) aN)))) (bOr (tInS false (l2 pIx (eV 2) (eC (.int 0))) 1) (tInS true (l2 pIx (eV 2) (eC (.int 1))) 1))) (sRet (eC (.bool false))) sNx)
    (sApp 1 (l2 pIx (eV 2) (eC (.int 0))))))
    (sRet (eC (.bool true))))))
set_option maxHeartbeats 4000000 in
theorem ok_is_scene {k : Nat} (tx : Tx K mg t) {k_is_box : Nat} {fn_is_box : List PyData → Option PyData} (G_is_box : FnOk Pr w K mg base CX0 k_is_box t.is_box t.d_is_box ["thing"] (spP K fn_is_box)) (hk_is_box : k_is_box ≤ k) : FnOk Pr w K mg base CX0 (k + 1) t.is_scene t.d_is_scene ["thing"] (spP K (runF 1 3 (g_is_scene fn_is_box))) :=
  fnP tx.F_is_scene sc_is_scene fun _ _ _ _ _ _ _ hr =>
    (@Ss.cons _ _ _ _ _ _ (@S.ifS _ _ _ _ _ _ _ _ _ (TW.t (TW.or (T.not (T.val (E.isin kit_tuple (by decide +kernel) tx.z_isinstance tx.z_tuple (E.v 0)))) (TW.or1 (T.gt (E.len tx.z_len (A.cons (E.v 0) A.nil)) (E.globI tx.c_MOST_BOXES))))) (@Ss.one _ _ _ _ (S.ret E.bl)) Ss.nil)
    (@Ss.cons _ _ _ _ _ _ (S.setO 1 sc_is_scene.nd (EO.lst (A.cons E.str A.nil)))
    (@Ss.cons _ _ _ _ _ _ (@S.for _ _ _ _ _ _ _ _ _ _ _ PassesOwn.never rfl (I.tup (E.v 0)) (pg_name (i := 2) sc_is_scene.nd rfl (by first | exact Or.inl rfl | exact Or.inr rfl) ) (TgP.name (i := 2))
    (@Ss.cons _ _ _ _ _ _ (@S.ifS _ _ _ _ _ _ _ _ _ (TW.t (TW.or (T.not (T.val (E.call G_is_box hr (by omega) tx.m_is_box tx.F_is_box.kp tx.b_is_box (A.cons (E.v 2) A.nil)))) (TW.or (T.inSO hr 1 (E.at (E.v 2) (E.globI tx.c_NAME))) (TW.or1 (T.notInSO hr 1 (E.at (E.v 2) (E.globI tx.c_AROUND))))))) (@Ss.one _ _ _ _ (S.ret E.bl)) Ss.nil)
    (@Ss.one _ _ _ _ (S.app 1 (E.at (E.v 2) (E.globI tx.c_NAME))))) (fun _ => rfl))
    (@Ss.one _ _ _ _ (S.ret E.bl)))))
noncomputable abbrev N__law_is_number : List Str := ["_law_thing", "_law_low", "_law_high"]
theorem sc__law_is_number : FnScope ["_law_thing", "_law_low", "_law_high"] ["_law_thing", "_law_low", "_law_high"] (defScope s__law_is_number) := ⟨rfl, rfl, rfl, by decide +kernel, rfl, by decide +kernel, by decide +kernel⟩
noncomputable def g__law_is_number  : En → Option Out :=
  (sRet (vAnd (l1 (pIsin "int") (eV 0)) (vAnd (vNot (l1 (pIsin "bool") (eV 0))) (lch pLe pLe (eV 1) (eV 0) (eV 2)))))
set_option maxHeartbeats 4000000 in
theorem ok__law_is_number {k : Nat} (tx : Tx K mg t)  : FnOk Pr w K mg base CX0 (k + 1) t._law_is_number t.d__law_is_number ["_law_thing", "_law_low", "_law_high"] (spP K (runF 3 3 (g__law_is_number))) :=
  fnP tx.F__law_is_number sc__law_is_number fun _ _ _ _ _ _ _ hr =>
    (@Ss.one _ _ _ _ (S.ret (E.and (E.isin kit_int (by decide +kernel) tx.z_isinstance tx.z_int (E.v 0)) (E.and (E.not (E.isin kit_bool (by decide +kernel) tx.z_isinstance tx.z_bool (E.v 0))) (E.one (E.chain op_le (ad_I0 fun _ _ _ => rel_bl) op_le (ad_I0 fun _ _ _ => rel_bl) (E.v 1) (E.v 0) (E.v 2)))))))
noncomputable abbrev N__law_is_box : List Str := ["_law_box_here", "_law_names", "_law_odd_here"]
theorem sc__law_is_box : FnScope ["_law_box_here", "_law_names", "_law_odd_here"] ["_law_box_here", "_law_names"] (defScope s__law_is_box) := ⟨rfl, rfl, rfl, by decide +kernel, rfl, by decide +kernel, by decide +kernel⟩
noncomputable def g__law_is_box (fn__law_is_number : List PyData → Option PyData) : En → Option Out :=
  (sSeq (sIf (bOr (bNot (bT (l1 (pIsin "tuple") (eV 0)))) (bT (l2 pNe (lA pLen (aC (eV 0) aN)) (eC (.int 7))))) (sRet (eC (.bool false))) sNx)
    (sSeq (sIf (bT (l2 pNe (oE (sComp [none] (lI asTu (l2 pAdd (eSl (eV 0) pN (pS (eC (.int 2)))) (eSl (eV 0) (pS (eC (.int 6))) pN))) (tgN 0) (bNot (bT (l1 (pIsin "str") (eV 0)))) (eV 0))) (oE (fun η => (aN η).bind gL)))) (sRet (eC (.bool false))) sNx)
    (sSeq (sSetO 2 (sComp [none] (lI asSg (l2 pIx (eV 0) (eC (.int 0)))) (tgN 0) (bT (l2 (pIn true) (eV 0) (eC (.str "abcdefghijklmnopqrstuvwxyz")))) (eV 0)))
    (fun η => (sSeq (sIf (bOr (bNot (bT (lch pLe pLe (eC (.int 1)) (lA pLen (aC (l2 pIx (eV 0) (eC (.int 0))) aN)) (eC (.int 3))))) (bT (l2 pNe (eV 2) (oE (fun η => (aN η).bind gL))))) (sRet (eC (.bool false))) sNx)
    (sSeq (sIf (bOr (bT (l2 (pIn false) (l2 pIx (eV 0) (eC (.int 0))) (eV 1))) (bAnd (bT (l2 pNe (l2 pIx (eV 0) (eC (.int 1))) (eC (.str "")))) (bT (l2 (pIn true) (l2 pIx (eV 0) (eC (.int 1))) (eV 1))))) (sRet (eC (.bool false))) sNx)
    (sSeq (sIf (bOr (bNot (bT (lA fn__law_is_number (aC (l2 pIx (eV 0) (eC (.int 2))) (aC (l1 pNeg (eC (.int 20))) (aC (eC (.int 20)) aN)))))) (bNot (bT (lA fn__law_is_number (aC (l2 pIx (eV 0) (eC (.int 3))) (aC (l1 pNeg (eC (.int 20))) (aC (eC (.int 20)) aN))))))) (sRet (eC (.bool false))) sNx)
    (sSeq (sIf (bOr (bNot (bT (lA fn__law_is_number (aC (l2 pIx (eV 0) (eC (.int 4))) (aC (eC (.int 0)) (aC (eC (.int 20)) aN)))))) (bNot (bT (lA fn__law_is_number (aC (l2 pIx (eV 0) (eC (.int 5))) (aC (eC (.int 0)) (aC (eC (.int 20)) aN))))))) (sRet (eC (.bool false))) sNx)
    (sRet (l2 pEq (l2 pJoin (eC (.str "")) (oE (sComp [none, some 0] (lI asSg (eC (.str "cfhl"))) (tgN 0) (bT (l2 (pIn false) (eV 0) (l2 pIx (eV 1) (eC (.int 6))))) (eV 0)))) (l2 pIx (eV 0) (eC (.int 6))))))))) (frz 2 η)))))
set_option maxHeartbeats 4000000 in
theorem ok__law_is_box {k : Nat} (tx : Tx K mg t) {k__law_is_number : Nat} {fn__law_is_number : List PyData → Option PyData} (G__law_is_number : FnOk Pr w K mg base CX0 k__law_is_number t._law_is_number t.d__law_is_number ["_law_thing", "_law_low", "_law_high"] (spP K fn__law_is_number)) (hk__law_is_number : k__law_is_number ≤ k) : FnOk Pr w K mg base CX0 (k + 1) t._law_is_box t.d__law_is_box ["_law_box_here", "_law_names"] (spP K (runF 2 3 (g__law_is_box fn__law_is_number))) :=
  fnP tx.F__law_is_box sc__law_is_box fun _ _ _ _ _ _ _ hr =>
    (@Ss.cons _ _ _ _ _ _ (@S.ifS _ _ _ _ _ _ _ _ _ (TW.t (TW.or (T.not (T.val (E.isin kit_tuple (by decide +kernel) tx.z_isinstance tx.z_tuple (E.v 0)))) (TW.or1 (T.ne hr (E.len tx.z_len (A.cons (E.v 0) A.nil)) E.int)))) (@Ss.one _ _ _ _ (S.ret E.bl)) Ss.nil)
    (@Ss.cons _ _ _ _ _ _ (@S.ifS _ _ _ _ _ _ _ _ _ (T.ne hr (EO.toE (EO.comp (N' := ["_law_part"]) (mp := [none]) rfl (CompSc.of' N__law_is_box (defScope s__law_is_box) rfl rfl (by decide +kernel)) (TgP.name (i := 0)) (by decide) (I.tup (E.add (E.sl (E.v 0) P.none (P.some E.int)) (E.sl (E.v 0) (P.some E.int) P.none))) (fun _ _ _ => ⟨(pg_name (i := 0) (show (["_law_part"] : List Str).Nodup by decide +kernel) rfl (Or.inl rfl) (.inr rfl)), (Ts.one (T.not (T.val (E.isin kit_str (by decide +kernel) tx.z_isinstance tx.z_str (E.v 0))))), (E.v 0)⟩))) (EO.toE (EO.lst A.nil))) (@Ss.one _ _ _ _ (S.ret E.bl)) Ss.nil)
    (@Ss.cons _ _ _ _ _ _ (S.setC 2 (N' := ["_law_sign"]) (mp := [none]) rfl sc__law_is_box.nd (CompSc.of' N__law_is_box (defScope s__law_is_box) rfl rfl (by decide +kernel)) (TgP.name (i := 0)) (by decide) (I.str (E.at (E.v 0) E.int)) (fun _ _ _ => ⟨(pg_name (i := 0) (show (["_law_sign"] : List Str).Nodup by decide +kernel) rfl (Or.inl rfl) (.inr rfl)), (Ts.one (T.notIn (E.v 0) E.str)), (E.v 0)⟩))
    (@Ss.frz _ _ _ _ 2 (@Ss.cons _ _ _ _ _ _ (@S.ifS _ _ _ _ _ _ _ _ _ (TW.t (TW.or (T.not (T.chain op_le (ad_I0 fun _ _ _ => rel_bl) op_le (ad_I0 fun _ _ _ => rel_bl) E.int (E.len tx.z_len (A.cons (E.at (E.v 0) E.int) A.nil)) E.int)) (TW.or1 (T.ne hr (E.v 2) (EO.toE (EO.lst A.nil)))))) (@Ss.one _ _ _ _ (S.ret E.bl)) Ss.nil)
    (@Ss.cons _ _ _ _ _ _ (@S.ifS _ _ _ _ _ _ _ _ _ (TW.t (TW.or (T.in (E.at (E.v 0) E.int) (E.v 1)) (TW.or1 (TW.t (TW.and (T.ne hr (E.at (E.v 0) E.int) E.str) (TW.and1 (T.notIn (E.at (E.v 0) E.int) (E.v 1)))))))) (@Ss.one _ _ _ _ (S.ret E.bl)) Ss.nil)
    (@Ss.cons _ _ _ _ _ _ (@S.ifS _ _ _ _ _ _ _ _ _ (TW.t (TW.or (T.not (T.val (E.call G__law_is_number hr (by omega) tx.m__law_is_number tx.F__law_is_number.kp tx.b__law_is_number (A.cons (E.at (E.v 0) E.int) (A.cons (E.neg E.int) (A.cons E.int A.nil)))))) (TW.or1 (T.not (T.val (E.call G__law_is_number hr (by omega) tx.m__law_is_number tx.F__law_is_number.kp tx.b__law_is_number (A.cons (E.at (E.v 0) E.int) (A.cons (E.neg E.int) (A.cons E.int A.nil))))))))) (@Ss.one _ _ _ _ (S.ret E.bl)) Ss.nil)
    (@Ss.cons _ _ _ _ _ _ (@S.ifS _ _ _ _ _ _ _ _ _ (TW.t (TW.or (T.not (T.val (E.call G__law_is_number hr (by omega) tx.m__law_is_number tx.F__law_is_number.kp tx.b__law_is_number (A.cons (E.at (E.v 0) E.int) (A.cons E.int (A.cons E.int A.nil)))))) (TW.or1 (T.not (T.val (E.call G__law_is_number hr (by omega) tx.m__law_is_number tx.F__law_is_number.kp tx.b__law_is_number (A.cons (E.at (E.v 0) E.int) (A.cons E.int (A.cons E.int A.nil))))))))) (@Ss.one _ _ _ _ (S.ret E.bl)) Ss.nil)
    (@Ss.one _ _ _ _ (S.ret (E.eq hr (E.join E.str (EO.toE (EO.comp (N' := ["_law_sign", "_law_box_here"]) (mp := [none, some 0]) rfl (CompSc.of' N__law_is_box (defScope s__law_is_box) rfl rfl (by decide +kernel)) (TgP.name (i := 0)) (by decide) (I.str E.str) (fun _ _ _ => ⟨(pg_name (i := 0) (show (["_law_sign", "_law_box_here"] : List Str).Nodup by decide +kernel) rfl (Or.inl rfl) (.inr rfl)), (Ts.one (T.in (E.v 0) (E.at (E.v 1) E.int))), (E.v 0)⟩)))) (E.at (E.v 0) E.int))))))))))))
noncomputable abbrev N__law_is_scene : List Str := ["_law_thing", "_law_names", "_law_box_here"]
theorem sc__law_is_scene : FnScope ["_law_thing", "_law_names", "_law_box_here"] ["_law_thing"] (defScope s__law_is_scene) := ⟨rfl, rfl, rfl, by decide +kernel, rfl, by decide +kernel, by decide +kernel⟩
noncomputable def g__law_is_scene (fn__law_is_box : List PyData → Option PyData) : En → Option Out :=
  (sSeq (sIf (bOr (bNot (bT (l1 (pIsin "tuple") (eV 0)))) (bT (l2 pGt (lA pLen (aC (eV 0) aN)) (eC (.int 12))))) (sRet (eC (.bool false))) sNx)
    (sSeq (sSetO 1 (fun η => (aN η).bind gL))
    (sSeq (sFor (lI asTu (eV 0)) (tgN 2)
    (sSeq (sIf (lendT 1 (bNot (bT (lA fn__law_is_box (aC (eV 2) (aC (eV 1) aN)))))) (sRet (eC (.bool false))) sNx)
    (sApp 1 (l2 pIx (eV 2) (eC (.int 0))))))
    (sRet (eC (.bool true))))))
set_option maxHeartbeats 4000000 in
theorem ok__law_is_scene {k : Nat} (tx : Tx K mg t) {k__law_is_box : Nat} {fn__law_is_box : List PyData → Option PyData} (G__law_is_box : FnOk Pr w K mg base CX0 k__law_is_box t._law_is_box t.d__law_is_box ["_law_box_here", "_law_names"] (spP K fn__law_is_box)) (hk__law_is_box : k__law_is_box ≤ k) : FnOk Pr w K mg base CX0 (k + 1) t._law_is_scene t.d__law_is_scene ["_law_thing"] (spP K (runF 1 3 (g__law_is_scene fn__law_is_box))) :=
  fnP tx.F__law_is_scene sc__law_is_scene fun _ _ _ _ _ _ _ hr =>
    (@Ss.cons _ _ _ _ _ _ (@S.ifS _ _ _ _ _ _ _ _ _ (TW.t (TW.or (T.not (T.val (E.isin kit_tuple (by decide +kernel) tx.z_isinstance tx.z_tuple (E.v 0)))) (TW.or1 (T.gt (E.len tx.z_len (A.cons (E.v 0) A.nil)) E.int)))) (@Ss.one _ _ _ _ (S.ret E.bl)) Ss.nil)
    (@Ss.cons _ _ _ _ _ _ (S.setO 1 sc__law_is_scene.nd (EO.lst A.nil))
    (@Ss.cons _ _ _ _ _ _ (@S.for _ _ _ _ _ _ _ _ _ _ _ PassesOwn.never rfl (I.tup (E.v 0)) (pg_name (i := 2) sc__law_is_scene.nd rfl (by first | exact Or.inl rfl | exact Or.inr rfl) ) (TgP.name (i := 2))
    (@Ss.cons _ _ _ _ _ _ (@S.ifS _ _ _ _ _ _ _ _ _ (T.lend 1 (T.not (T.val (E.call G__law_is_box hr (by omega) tx.m__law_is_box tx.F__law_is_box.kp tx.b__law_is_box (A.cons (E.v 2) (A.cons (E.v 1) A.nil)))))) (@Ss.one _ _ _ _ (S.ret E.bl)) Ss.nil)
    (@Ss.one _ _ _ _ (S.app 1 (E.at (E.v 2) E.int)))) (fun _ => rfl))
    (@Ss.one _ _ _ _ (S.ret E.bl)))))
noncomputable abbrev N__law_each : List Str := ["_law_thing", "_law_found", "_law_place"]
theorem sc__law_each : FnScope ["_law_thing", "_law_found", "_law_place"] ["_law_thing"] (defScope s__law_each) := ⟨rfl, rfl, rfl, by decide +kernel, rfl, by decide +kernel, by decide +kernel⟩
noncomputable def g__law_each (fn__law_each : List PyData → Option PyData) : En → Option Out :=
  (sSeq (sIf (bT (l1 (pIsin "int") (eV 0))) (sRet (oE (fun η => ((aC (eC .none) (aC (eC (.bool true)) (aC (l2 pSub (eV 0) (eC (.int 1))) (aC (l2 pAdd (eV 0) (eC (.int 1))) (aC (eC (.int 1000)) aN))))) η).bind gL))) sNx)
    (sSeq (sIf (bNot (bT (l1 (pIsin "tuple") (eV 0)))) (sRet (oE (fun η => ((aC (eC .none) (aC (eC (.str "")) (aC (eC (.str "A")) (aC (l2 pAdd (eV 0) (eV 0)) (aC (eC (.str "abcd")) aN))))) η).bind gL))) sNx)
    (sSeq (sSet 1 (oE (fun η => ((aC (eC .none) (aC (lA pListT (aC (eV 0) aN)) (aC (l2 pAdd (eV 0) (eSl (eV 0) (pS (l1 pNeg (eC (.int 1)))) pN)) (aC (eSl (eV 0) (pS (eC (.int 1))) pN) aN)))) η).bind gL)))
    (sSeq (sFor (fun η => ((aC (lA pLen (aC (eV 0) aN)) aN) η).bind rng1) (tgN 2)
    (sSet 1 (l2 pAdd (eV 1) (oE (sComp [none, some 0, some 2] (lI asL (lA fn__law_each (aC (l2 pIx (eV 0) (eV 2)) aN))) (tgN 0) tTrue (l2 pAdd (l2 pAdd (eSl (eV 1) pN (pS (eV 2))) (lA (fun ds => if ds.length ≤ sizeLine then some (.tuple ds) else none) (aC (eV 0) aN))) (eSl (eV 1) (pS (l2 pAdd (eV 2) (eC (.int 1)))) pN)))))))
    (sRet (eV 1))))))
set_option maxHeartbeats 4000000 in
theorem ok__law_each {k : Nat} (tx : Tx K mg t) {k__law_each : Nat} {fn__law_each : List PyData → Option PyData} (G__law_each : FnOk Pr w K mg base CX0 k__law_each t._law_each t.d__law_each ["_law_thing"] (spP K fn__law_each)) (hk__law_each : k__law_each ≤ k) : FnOk Pr w K mg base CX0 (k + 1) t._law_each t.d__law_each ["_law_thing"] (spP K (runF 1 3 (g__law_each fn__law_each))) :=
  fnP tx.F__law_each sc__law_each fun _ _ _ _ _ _ _ hr =>
    (@Ss.cons _ _ _ _ _ _ (@S.ifS _ _ _ _ _ _ _ _ _ (T.val (E.isin kit_int (by decide +kernel) tx.z_isinstance tx.z_int (E.v 0))) (@Ss.one _ _ _ _ (S.ret (EO.toE (EO.lst (A.cons E.non (A.cons E.bl (A.cons (E.sub (E.v 0) E.int) (A.cons (E.add (E.v 0) E.int) (A.cons E.int A.nil))))))))) Ss.nil)
    (@Ss.cons _ _ _ _ _ _ (@S.ifS _ _ _ _ _ _ _ _ _ (T.not (T.val (E.isin kit_tuple (by decide +kernel) tx.z_isinstance tx.z_tuple (E.v 0)))) (@Ss.one _ _ _ _ (S.ret (EO.toE (EO.lst (A.cons E.non (A.cons E.str (A.cons E.str (A.cons (E.add (E.v 0) (E.v 0)) (A.cons E.str A.nil))))))))) Ss.nil)
    (@Ss.cons _ _ _ _ _ _ (S.set 1 sc__law_each.nd (EO.toE (EO.lst (A.cons E.non (A.cons (E.listT tx.z_list (A.cons (E.v 0) A.nil)) (A.cons (E.add (E.v 0) (E.sl (E.v 0) (P.some (E.neg E.int)) P.none)) (A.cons (E.sl (E.v 0) (P.some E.int) P.none) A.nil)))))))
    (@Ss.cons _ _ _ _ _ _ (@S.for _ _ _ _ _ _ _ _ _ _ _ PassesOwn.never rfl (I.rng1 tx.z_range (A.cons (E.len tx.z_len (A.cons (E.v 0) A.nil)) A.nil)) (pg_name (i := 2) sc__law_each.nd rfl (by first | exact Or.inl rfl | exact Or.inr rfl) ) (TgP.name (i := 2))
    (@Ss.one _ _ _ _ (S.set 1 sc__law_each.nd (E.add (E.v 1) (EO.toE (EO.comp (N' := ["_law_part", "_law_thing", "_law_place"]) (mp := [none, some 0, some 2]) rfl (CompSc.of' N__law_each (defScope s__law_each) rfl rfl (by decide +kernel)) (TgP.name (i := 0)) (by decide) (I.list (E.call G__law_each hr (by omega) tx.m__law_each tx.F__law_each.kp tx.b__law_each (A.cons (E.at (E.v 0) (E.v 2)) A.nil))) (fun _ _ _ => ⟨(pg_name (i := 0) (show (["_law_part", "_law_thing", "_law_place"] : List Str).Nodup by decide +kernel) rfl (Or.inl rfl) (.inr rfl)), Ts.nil, (E.add (E.add (E.sl (E.v 1) P.none (P.some (E.v 2))) (E.tup (A.cons (E.v 0) A.nil))) (E.sl (E.v 1) (P.some (E.add (E.v 2) E.int)) P.none))⟩)))))) (fun _ => rfl))
    (@Ss.one _ _ _ _ (S.ret (E.v 1)))))))
noncomputable abbrev N_law : List Str := ["_law_script", "_law_scene_here", "_law_spoilt_here", "_law_longer", "_law_thing", "_law_said", "_law_base"]
theorem sc_law : FnScope ["_law_script", "_law_scene_here", "_law_spoilt_here", "_law_longer", "_law_thing", "_law_said", "_law_base"] ["_law_script"] (defScope s_law) := ⟨rfl, rfl, rfl, by decide +kernel, rfl, by decide +kernel, by decide +kernel⟩
noncomputable def g_law (fn__law_scene : List PyData → Option PyData) (fn__law_drawn : List PyData → Option PyData) (fn__law_spoilt : List PyData → Option PyData) (fn_is_scene : List PyData → Option PyData) (fn__law_is_scene : List PyData → Option PyData) (fn__law_each : List PyData → Option PyData) : En → Option Out :=
  (sSeq (sSet 1 (lA fn__law_scene (aC (eV 0) (aC (eC (.int 0)) aN))))
    (sSeq (sSet 2 (lA fn__law_spoilt (aC (eV 1) (aC (lA fn__law_drawn (aC (eV 0) (aC (eC (.int 100)) (aC (l2 pPow (eC (.int 10)) (eC (.int 6))) aN)))) (aC (lA fn__law_drawn (aC (eV 0) (aC (eC (.int 101)) (aC (eC (.int 3)) aN)))) aN)))))
    (sSeq (sSet 3 (l2 pAdd (eV 1) (lA pTup (aC (oE (sComp [none] (fun η => ((aC (lA fn__law_drawn (aC (eV 0) (aC (eC (.int 102)) (aC (eC (.int 14)) aN)))) aN) η).bind rng1) (tgN 0) tTrue (lA (fun ds => if ds.length ≤ sizeLine then some (.tuple ds) else none) (aC (l2 pAdd (eC (.str "k")) (l2 pIx (eC (.str "abcdefghijklm")) (eV 0))) (aC (eC (.str "")) (aC (eV 0) (aC (eC (.int 0)) (aC (eC (.int 1)) (aC (eV 0) (aC (eC (.str "")) aN)))))))))) aN))))
    (sSeq (sFor (lI asTu (lA (fun ds => if ds.length ≤ sizeLine then some (.tuple ds) else none) (aC (eV 1) (aC (eV 2) (aC (eV 3) (aC (lA pListT (aC (eV 1) aN)) (aC (l2 pRvT (eV 1) (l1 pNeg (eC (.int 1)))) (aC (l2 pTw (eV 1) (eC (.int 2))) (aC (eC (.tuple [(.tuple [(.str "a"), (.str "a"), (.int 0), (.int 0), (.int 1), (.int 1), (.str "")])])) (aC (eC .none) aN)))))))))) (tgN 4)
    (sSeq (sSet 5 (lA fn_is_scene (aC (eV 4) aN)))
    (sIf (bOr (bNot (bT (l1 (pIsin "bool") (eV 5)))) (bT (l2 pNe (eV 5) (lA fn__law_is_scene (aC (eV 4) aN))))) (sRet (eC (.bool false))) sNx)))
    (sSeq (sSet 6 (eC (.tuple [(.tuple [(.str "a"), (.str ""), (.int (-20)), (.int 20), (.int 0), (.int 20), (.str "c")]), (.tuple [(.str "b"), (.str "a"), (.int 0), (.int 0), (.int 1), (.int 1), (.str "fh")])])))
    (sRet (l2 pEq (oE (sComp [none] (lI asL (l2 pAdd (oE (fun η => ((aC (eV 6) aN) η).bind gL)) (lA fn__law_each (aC (eV 6) aN)))) (tgN 0) (bT (l2 pNe (lA fn_is_scene (aC (eV 0) aN)) (lA fn__law_is_scene (aC (eV 0) aN)))) (eV 0))) (oE (fun η => (aN η).bind gL)))))))))
set_option maxHeartbeats 4000000 in
theorem ok_law {k : Nat} (tx : Tx K mg t) {k__law_scene : Nat} {fn__law_scene : List PyData → Option PyData} (G__law_scene : FnOk Pr w K mg base CX0 k__law_scene t._law_scene t.d__law_scene ["_law_script", "_law_at"] (spP K fn__law_scene)) (hk__law_scene : k__law_scene ≤ k) {k__law_drawn : Nat} {fn__law_drawn : List PyData → Option PyData} (G__law_drawn : FnOk Pr w K mg base CX0 k__law_drawn t._law_drawn t.d__law_drawn ["_law_script", "_law_k", "_law_many"] (spP K fn__law_drawn)) (hk__law_drawn : k__law_drawn ≤ k) {k__law_spoilt : Nat} {fn__law_spoilt : List PyData → Option PyData} (G__law_spoilt : FnOk Pr w K mg base CX0 k__law_spoilt t._law_spoilt t.d__law_spoilt ["_law_thing", "_law_number", "_law_deep"] (spP K fn__law_spoilt)) (hk__law_spoilt : k__law_spoilt ≤ k) {k_is_scene : Nat} {fn_is_scene : List PyData → Option PyData} (G_is_scene : FnOk Pr w K mg base CX0 k_is_scene t.is_scene t.d_is_scene ["thing"] (spP K fn_is_scene)) (hk_is_scene : k_is_scene ≤ k) {k__law_is_scene : Nat} {fn__law_is_scene : List PyData → Option PyData} (G__law_is_scene : FnOk Pr w K mg base CX0 k__law_is_scene t._law_is_scene t.d__law_is_scene ["_law_thing"] (spP K fn__law_is_scene)) (hk__law_is_scene : k__law_is_scene ≤ k) {k__law_each : Nat} {fn__law_each : List PyData → Option PyData} (G__law_each : FnOk Pr w K mg base CX0 k__law_each t._law_each t.d__law_each ["_law_thing"] (spP K fn__law_each)) (hk__law_each : k__law_each ≤ k) : FnOk Pr w K mg base CX0 (k + 1) t.law t.d_law ["_law_script"] (spP K (runF 1 7 (g_law fn__law_scene fn__law_drawn fn__law_spoilt fn_is_scene fn__law_is_scene fn__law_each))) :=
  fnP tx.F_law sc_law fun _ _ _ _ _ _ _ hr =>
    (@Ss.cons _ _ _ _ _ _ (S.set 1 sc_law.nd (E.call G__law_scene hr (by omega) tx.m__law_scene tx.F__law_scene.kp tx.b__law_scene (A.cons (E.v 0) (A.cons E.int A.nil))))
    (@Ss.cons _ _ _ _ _ _ (S.set 2 sc_law.nd (E.call G__law_spoilt hr (by omega) tx.m__law_spoilt tx.F__law_spoilt.kp tx.b__law_spoilt (A.cons (E.v 1) (A.cons (E.call G__law_drawn hr (by omega) tx.m__law_drawn tx.F__law_drawn.kp tx.b__law_drawn (A.cons (E.v 0) (A.cons E.int (A.cons (E.pow E.int E.int) A.nil)))) (A.cons (E.call G__law_drawn hr (by omega) tx.m__law_drawn tx.F__law_drawn.kp tx.b__law_drawn (A.cons (E.v 0) (A.cons E.int (A.cons E.int A.nil)))) A.nil)))))
    (@Ss.cons _ _ _ _ _ _ (S.set 3 sc_law.nd (E.add (E.v 1) (E.tuple tx.z_tuple (A.cons (EO.toE (EO.comp (N' := ["_law_k"]) (mp := [none]) rfl (CompSc.of' N_law (defScope s_law) rfl rfl (by decide +kernel)) (TgP.name (i := 0)) (by decide) (I.rng1 tx.z_range (A.cons (E.call G__law_drawn hr (by omega) tx.m__law_drawn tx.F__law_drawn.kp tx.b__law_drawn (A.cons (E.v 0) (A.cons E.int (A.cons E.int A.nil)))) A.nil)) (fun _ _ _ => ⟨(pg_name (i := 0) (show (["_law_k"] : List Str).Nodup by decide +kernel) rfl (Or.inl rfl) (.inr rfl)), Ts.nil, (E.tup (A.cons (E.add E.str (E.at E.str (E.v 0))) (A.cons E.str (A.cons (E.v 0) (A.cons E.int (A.cons E.int (A.cons (E.v 0) (A.cons E.str A.nil))))))))⟩))) A.nil))))
    (@Ss.cons _ _ _ _ _ _ (@S.for _ _ _ _ _ _ _ _ _ _ _ PassesOwn.never rfl (I.tup (E.tup (A.cons (E.v 1) (A.cons (E.v 2) (A.cons (E.v 3) (A.cons (E.listT tx.z_list (A.cons (E.v 1) A.nil)) (A.cons (E.slRevT (E.v 1) (E.neg E.int)) (A.cons (E.mulT (E.v 1) E.int) (A.cons (@E.cst _ _ _ _ (by kernel_rfl)) (A.cons E.non A.nil)))))))))) (pg_name (i := 4) sc_law.nd rfl (by first | exact Or.inl rfl | exact Or.inr rfl) ) (TgP.name (i := 4))
    (@Ss.cons _ _ _ _ _ _ (S.set 5 sc_law.nd (E.call G_is_scene hr (by omega) tx.m_is_scene tx.F_is_scene.kp tx.b_is_scene (A.cons (E.v 4) A.nil)))
    (@Ss.one _ _ _ _ (@S.ifS _ _ _ _ _ _ _ _ _ (TW.t (TW.or (T.not (T.val (E.isin kit_bool (by decide +kernel) tx.z_isinstance tx.z_bool (E.v 5)))) (TW.or1 (T.ne hr (E.v 5) (E.call G__law_is_scene hr (by omega) tx.m__law_is_scene tx.F__law_is_scene.kp tx.b__law_is_scene (A.cons (E.v 4) A.nil)))))) (@Ss.one _ _ _ _ (S.ret E.bl)) Ss.nil))) (fun _ => rfl))
    (@Ss.cons _ _ _ _ _ _ (@S.set _ _ _ _ _ _ 6 _ sc_law.nd (@E.cst _ _ _ _ (by kernel_rfl)) rfl (by first | exact Or.inl rfl | exact Or.inr rfl) rfl (by first | exact .inl rfl | exact .inr rfl))
    (@Ss.one _ _ _ _ (S.ret (E.eq hr (EO.toE (EO.comp (N' := ["_law_one"]) (mp := [none]) rfl (CompSc.of' N_law (defScope s_law) rfl rfl (by decide +kernel)) (TgP.name (i := 0)) (by decide) (I.list (E.add (EO.toE (EO.lst (A.cons (E.v 6) A.nil))) (E.call G__law_each hr (by omega) tx.m__law_each tx.F__law_each.kp tx.b__law_each (A.cons (E.v 6) A.nil)))) (fun _ _ _ => ⟨(pg_name (i := 0) (show (["_law_one"] : List Str).Nodup by decide +kernel) rfl (Or.inl rfl) (.inr rfl)), (Ts.one (T.ne hr (E.call G_is_scene hr (by omega) tx.m_is_scene tx.F_is_scene.kp tx.b_is_scene (A.cons (E.v 0) A.nil)) (E.call G__law_is_scene hr (by omega) tx.m__law_is_scene tx.F__law_is_scene.kp tx.b__law_is_scene (A.cons (E.v 0) A.nil)))), (E.v 0)⟩))) (EO.toE (EO.lst A.nil))))))))))
noncomputable def F__law_cell : List PyData → Option PyData := runF 2 2 (g__law_cell )
theorem G__law_cell (tx : Tx K mg t) : FnOk Pr w K mg base CX0 1 t._law_cell t.d__law_cell ["_law_script", "_law_k"] (spP K F__law_cell) := ok__law_cell (k := 0) tx 
noncomputable def F__law_drawn : List PyData → Option PyData := runF 3 4 (g__law_drawn F__law_cell)
theorem G__law_drawn (tx : Tx K mg t) : FnOk Pr w K mg base CX0 2 t._law_drawn t.d__law_drawn ["_law_script", "_law_k", "_law_many"] (spP K F__law_drawn) := ok__law_drawn (k := 1) tx (G__law_cell tx) (by omega)
noncomputable def F__law_scene : List PyData → Option PyData := runF 2 13 (g__law_scene F__law_drawn)
theorem G__law_scene (tx : Tx K mg t) : FnOk Pr w K mg base CX0 3 t._law_scene t.d__law_scene ["_law_script", "_law_at"] (spP K F__law_scene) := ok__law_scene (k := 2) tx (G__law_drawn tx) (by omega)
noncomputable def F__law_odd : List PyData → Option PyData := runF 1 2 (g__law_odd )
theorem G__law_odd (tx : Tx K mg t) : FnOk Pr w K mg base CX0 1 t._law_odd t.d__law_odd ["_law_number"] (spP K F__law_odd) := ok__law_odd (k := 0) tx 
noncomputable def F__law_spoilt : Nat → List PyData → Option PyData
  | 0 => fun _ => none
  | n + 1 => runF 3 5 (g__law_spoilt (F__law_spoilt n) F__law_odd)
theorem G__law_spoilt (tx : Tx K mg t) : ∀ n : Nat, FnOk Pr w K mg base CX0 (n + 1) t._law_spoilt t.d__law_spoilt ["_law_thing", "_law_number", "_law_deep"] (spP K (F__law_spoilt n))
  | 0 => fn0
  | n + 1 => (ok__law_spoilt (k := n + 1) tx (G__law_spoilt tx n) (by omega) (G__law_odd tx) (by omega)).mono (by omega)
noncomputable def F_is_marks : List PyData → Option PyData := runF 1 1 (g_is_marks )
theorem G_is_marks (tx : Tx K mg t) : FnOk Pr w K mg base CX0 1 t.is_marks t.d_is_marks ["thing"] (spP K F_is_marks) := ok_is_marks (k := 0) tx 
noncomputable def F_is_name : List PyData → Option PyData := runF 1 1 (g_is_name )
theorem G_is_name (tx : Tx K mg t) : FnOk Pr w K mg base CX0 1 t.is_name t.d_is_name ["thing"] (spP K F_is_name) := ok_is_name (k := 0) tx 
noncomputable def F_is_whole : List PyData → Option PyData := runF 3 3 (g_is_whole )
theorem G_is_whole (tx : Tx K mg t) : FnOk Pr w K mg base CX0 1 t.is_whole t.d_is_whole ["thing", "least", "most"] (spP K F_is_whole) := ok_is_whole (k := 0) tx 
noncomputable def F_is_box : List PyData → Option PyData := runF 1 2 (g_is_box F_is_marks F_is_name F_is_whole)
theorem G_is_box (tx : Tx K mg t) : FnOk Pr w K mg base CX0 2 t.is_box t.d_is_box ["thing"] (spP K F_is_box) := ok_is_box (k := 1) tx (G_is_marks tx) (by omega) (G_is_name tx) (by omega) (G_is_whole tx) (by omega)
noncomputable def F_is_scene : List PyData → Option PyData := runF 1 3 (g_is_scene F_is_box)
theorem G_is_scene (tx : Tx K mg t) : FnOk Pr w K mg base CX0 3 t.is_scene t.d_is_scene ["thing"] (spP K F_is_scene) := ok_is_scene (k := 2) tx (G_is_box tx) (by omega)
noncomputable def F__law_is_number : List PyData → Option PyData := runF 3 3 (g__law_is_number )
theorem G__law_is_number (tx : Tx K mg t) : FnOk Pr w K mg base CX0 1 t._law_is_number t.d__law_is_number ["_law_thing", "_law_low", "_law_high"] (spP K F__law_is_number) := ok__law_is_number (k := 0) tx 
noncomputable def F__law_is_box : List PyData → Option PyData := runF 2 3 (g__law_is_box F__law_is_number)
theorem G__law_is_box (tx : Tx K mg t) : FnOk Pr w K mg base CX0 2 t._law_is_box t.d__law_is_box ["_law_box_here", "_law_names"] (spP K F__law_is_box) := ok__law_is_box (k := 1) tx (G__law_is_number tx) (by omega)
noncomputable def F__law_is_scene : List PyData → Option PyData := runF 1 3 (g__law_is_scene F__law_is_box)
theorem G__law_is_scene (tx : Tx K mg t) : FnOk Pr w K mg base CX0 3 t._law_is_scene t.d__law_is_scene ["_law_thing"] (spP K F__law_is_scene) := ok__law_is_scene (k := 2) tx (G__law_is_box tx) (by omega)
noncomputable def F__law_each : Nat → List PyData → Option PyData
  | 0 => fun _ => none
  | n + 1 => runF 1 3 (g__law_each (F__law_each n))
theorem G__law_each (tx : Tx K mg t) : ∀ n : Nat, FnOk Pr w K mg base CX0 (n + 0) t._law_each t.d__law_each ["_law_thing"] (spP K (F__law_each n))
  | 0 => fn0
  | n + 1 => (ok__law_each (k := n + 0) tx (G__law_each tx n) (by omega)).mono (by omega)
noncomputable def F_law : List PyData → Option PyData := runF 1 7 (g_law F__law_scene F__law_drawn (F__law_spoilt 13) F_is_scene F__law_is_scene (F__law_each 13))
theorem G_law (tx : Tx K mg t) : FnOk Pr w K mg base CX0 15 t.law t.d_law ["_law_script"] (spP K F_law) := ok_law (k := 14) tx (G__law_scene tx) (by omega) (G__law_drawn tx) (by omega) (G__law_spoilt tx 13) (by omega) (G_is_scene tx) (by omega) (G__law_is_scene tx) (by omega) (G__law_each tx 13) (by omega)
end
theorem all_mk {l : PySem.W.OpenLaw} {w : World} {K : PySem.W.Frag} {h : Heap} {mg : Str → Option Value} {fa : Addr} (X : K.In h) (G : h.Ns mainGlobals mg) (hfa : mg "law" = some (.ref fa))
    {f__law_cell : Addr} {od__law_cell an__law_cell : Option Addr} {sl__law_cell : Array (Option Value)} {oc__law_cell kV__law_cell dc__law_cell pm__law_cell cd__law_cell ct__law_cell : Value}
    {f__law_drawn : Addr} {od__law_drawn an__law_drawn : Option Addr} {sl__law_drawn : Array (Option Value)} {oc__law_drawn kV__law_drawn dc__law_drawn pm__law_drawn cd__law_drawn ct__law_drawn : Value}
    {f__law_scene : Addr} {od__law_scene an__law_scene : Option Addr} {sl__law_scene : Array (Option Value)} {oc__law_scene kV__law_scene dc__law_scene pm__law_scene cd__law_scene ct__law_scene : Value}
    {f__law_odd : Addr} {od__law_odd an__law_odd : Option Addr} {sl__law_odd : Array (Option Value)} {oc__law_odd kV__law_odd dc__law_odd pm__law_odd cd__law_odd ct__law_odd : Value}
    {f__law_spoilt : Addr} {od__law_spoilt an__law_spoilt : Option Addr} {sl__law_spoilt : Array (Option Value)} {oc__law_spoilt kV__law_spoilt dc__law_spoilt pm__law_spoilt cd__law_spoilt ct__law_spoilt : Value}
    {f_is_marks : Addr} {od_is_marks an_is_marks : Option Addr} {sl_is_marks : Array (Option Value)} {oc_is_marks kV_is_marks dc_is_marks pm_is_marks cd_is_marks ct_is_marks : Value}
    {f_is_name : Addr} {od_is_name an_is_name : Option Addr} {sl_is_name : Array (Option Value)} {oc_is_name kV_is_name dc_is_name pm_is_name cd_is_name ct_is_name : Value}
    {f_is_whole : Addr} {od_is_whole an_is_whole : Option Addr} {sl_is_whole : Array (Option Value)} {oc_is_whole kV_is_whole dc_is_whole pm_is_whole cd_is_whole ct_is_whole : Value}
    {f_is_box : Addr} {od_is_box an_is_box : Option Addr} {sl_is_box : Array (Option Value)} {oc_is_box kV_is_box dc_is_box pm_is_box cd_is_box ct_is_box : Value}
    {f_is_scene : Addr} {od_is_scene an_is_scene : Option Addr} {sl_is_scene : Array (Option Value)} {oc_is_scene kV_is_scene dc_is_scene pm_is_scene cd_is_scene ct_is_scene : Value}
    {f__law_is_number : Addr} {od__law_is_number an__law_is_number : Option Addr} {sl__law_is_number : Array (Option Value)} {oc__law_is_number kV__law_is_number dc__law_is_number pm__law_is_number cd__law_is_number ct__law_is_number : Value}
    {f__law_is_box : Addr} {od__law_is_box an__law_is_box : Option Addr} {sl__law_is_box : Array (Option Value)} {oc__law_is_box kV__law_is_box dc__law_is_box pm__law_is_box cd__law_is_box ct__law_is_box : Value}
    {f__law_is_scene : Addr} {od__law_is_scene an__law_is_scene : Option Addr} {sl__law_is_scene : Array (Option Value)} {oc__law_is_scene kV__law_is_scene dc__law_is_scene pm__law_is_scene cd__law_is_scene ct__law_is_scene : Value}
    {f__law_each : Addr} {od__law_each an__law_each : Option Addr} {sl__law_each : Array (Option Value)} {oc__law_each kV__law_each dc__law_each pm__law_each cd__law_each ct__law_each : Value}
    {f_law : Addr} {od_law an_law : Option Addr} {sl_law : Array (Option Value)} {oc_law kV_law dc_law pm_law cd_law ct_law : Value}
    {t_ALL_MARKS : Tok}
    {t_AROUND : Tok}
    {t_FARTHEST : Tok}
    {t_HEIGHT : Tok}
    {t_LARGEST : Tok}
    {t_LEFT : Tok}
    {t_LETTERS : Tok}
    {t_LONGEST_NAME : Tok}
    {t_MARKS : Tok}
    {t_MOST_BOXES : Tok}
    {t_NAME : Tok}
    {t_PARTS : Tok}
    {t_TOP : Tok}
    {t_WIDTH : Tok}
    (a__law_cell : PySem.W.nsIn K mainGlobals "_law_cell" = some (some (.ref f__law_cell))) (l__law_cell : K.lookup f__law_cell = some ⟨oc__law_cell, od__law_cell, .func (PySem.W.fnOf "_law_cell" "_law_cell" (defArgs s__law_cell) (defBody s__law_cell) (defScope s__law_cell) .none kV__law_cell dc__law_cell pm__law_cell an__law_cell cd__law_cell ct__law_cell), sl__law_cell⟩) (c__law_cell : PySem.W.codeIn K cd__law_cell "_law_cell" = true) (k__law_cell : PySem.W.keepIn K (.ref f__law_cell) = true)
    (a__law_drawn : PySem.W.nsIn K mainGlobals "_law_drawn" = some (some (.ref f__law_drawn))) (l__law_drawn : K.lookup f__law_drawn = some ⟨oc__law_drawn, od__law_drawn, .func (PySem.W.fnOf "_law_drawn" "_law_drawn" (defArgs s__law_drawn) (defBody s__law_drawn) (defScope s__law_drawn) .none kV__law_drawn dc__law_drawn pm__law_drawn an__law_drawn cd__law_drawn ct__law_drawn), sl__law_drawn⟩) (c__law_drawn : PySem.W.codeIn K cd__law_drawn "_law_drawn" = true) (k__law_drawn : PySem.W.keepIn K (.ref f__law_drawn) = true)
    (a__law_scene : PySem.W.nsIn K mainGlobals "_law_scene" = some (some (.ref f__law_scene))) (l__law_scene : K.lookup f__law_scene = some ⟨oc__law_scene, od__law_scene, .func (PySem.W.fnOf "_law_scene" "_law_scene" (defArgs s__law_scene) (defBody s__law_scene) (defScope s__law_scene) .none kV__law_scene dc__law_scene pm__law_scene an__law_scene cd__law_scene ct__law_scene), sl__law_scene⟩) (c__law_scene : PySem.W.codeIn K cd__law_scene "_law_scene" = true) (k__law_scene : PySem.W.keepIn K (.ref f__law_scene) = true)
    (a__law_odd : PySem.W.nsIn K mainGlobals "_law_odd" = some (some (.ref f__law_odd))) (l__law_odd : K.lookup f__law_odd = some ⟨oc__law_odd, od__law_odd, .func (PySem.W.fnOf "_law_odd" "_law_odd" (defArgs s__law_odd) (defBody s__law_odd) (defScope s__law_odd) .none kV__law_odd dc__law_odd pm__law_odd an__law_odd cd__law_odd ct__law_odd), sl__law_odd⟩) (c__law_odd : PySem.W.codeIn K cd__law_odd "_law_odd" = true) (k__law_odd : PySem.W.keepIn K (.ref f__law_odd) = true)
    (a__law_spoilt : PySem.W.nsIn K mainGlobals "_law_spoilt" = some (some (.ref f__law_spoilt))) (l__law_spoilt : K.lookup f__law_spoilt = some ⟨oc__law_spoilt, od__law_spoilt, .func (PySem.W.fnOf "_law_spoilt" "_law_spoilt" (defArgs s__law_spoilt) (defBody s__law_spoilt) (defScope s__law_spoilt) .none kV__law_spoilt dc__law_spoilt pm__law_spoilt an__law_spoilt cd__law_spoilt ct__law_spoilt), sl__law_spoilt⟩) (c__law_spoilt : PySem.W.codeIn K cd__law_spoilt "_law_spoilt" = true) (k__law_spoilt : PySem.W.keepIn K (.ref f__law_spoilt) = true)
    (a_is_marks : PySem.W.nsIn K mainGlobals "is_marks" = some (some (.ref f_is_marks))) (l_is_marks : K.lookup f_is_marks = some ⟨oc_is_marks, od_is_marks, .func (PySem.W.fnOf "is_marks" "is_marks" (defArgs s_is_marks) (defBody s_is_marks) (defScope s_is_marks) .none kV_is_marks dc_is_marks pm_is_marks an_is_marks cd_is_marks ct_is_marks), sl_is_marks⟩) (c_is_marks : PySem.W.codeIn K cd_is_marks "is_marks" = true) (k_is_marks : PySem.W.keepIn K (.ref f_is_marks) = true)
    (a_is_name : PySem.W.nsIn K mainGlobals "is_name" = some (some (.ref f_is_name))) (l_is_name : K.lookup f_is_name = some ⟨oc_is_name, od_is_name, .func (PySem.W.fnOf "is_name" "is_name" (defArgs s_is_name) (defBody s_is_name) (defScope s_is_name) .none kV_is_name dc_is_name pm_is_name an_is_name cd_is_name ct_is_name), sl_is_name⟩) (c_is_name : PySem.W.codeIn K cd_is_name "is_name" = true) (k_is_name : PySem.W.keepIn K (.ref f_is_name) = true)
    (a_is_whole : PySem.W.nsIn K mainGlobals "is_whole" = some (some (.ref f_is_whole))) (l_is_whole : K.lookup f_is_whole = some ⟨oc_is_whole, od_is_whole, .func (PySem.W.fnOf "is_whole" "is_whole" (defArgs s_is_whole) (defBody s_is_whole) (defScope s_is_whole) .none kV_is_whole dc_is_whole pm_is_whole an_is_whole cd_is_whole ct_is_whole), sl_is_whole⟩) (c_is_whole : PySem.W.codeIn K cd_is_whole "is_whole" = true) (k_is_whole : PySem.W.keepIn K (.ref f_is_whole) = true)
    (a_is_box : PySem.W.nsIn K mainGlobals "is_box" = some (some (.ref f_is_box))) (l_is_box : K.lookup f_is_box = some ⟨oc_is_box, od_is_box, .func (PySem.W.fnOf "is_box" "is_box" (defArgs s_is_box) (defBody s_is_box) (defScope s_is_box) .none kV_is_box dc_is_box pm_is_box an_is_box cd_is_box ct_is_box), sl_is_box⟩) (c_is_box : PySem.W.codeIn K cd_is_box "is_box" = true) (k_is_box : PySem.W.keepIn K (.ref f_is_box) = true)
    (a_is_scene : PySem.W.nsIn K mainGlobals "is_scene" = some (some (.ref f_is_scene))) (l_is_scene : K.lookup f_is_scene = some ⟨oc_is_scene, od_is_scene, .func (PySem.W.fnOf "is_scene" "is_scene" (defArgs s_is_scene) (defBody s_is_scene) (defScope s_is_scene) .none kV_is_scene dc_is_scene pm_is_scene an_is_scene cd_is_scene ct_is_scene), sl_is_scene⟩) (c_is_scene : PySem.W.codeIn K cd_is_scene "is_scene" = true) (k_is_scene : PySem.W.keepIn K (.ref f_is_scene) = true)
    (a__law_is_number : PySem.W.nsIn K mainGlobals "_law_is_number" = some (some (.ref f__law_is_number))) (l__law_is_number : K.lookup f__law_is_number = some ⟨oc__law_is_number, od__law_is_number, .func (PySem.W.fnOf "_law_is_number" "_law_is_number" (defArgs s__law_is_number) (defBody s__law_is_number) (defScope s__law_is_number) .none kV__law_is_number dc__law_is_number pm__law_is_number an__law_is_number cd__law_is_number ct__law_is_number), sl__law_is_number⟩) (c__law_is_number : PySem.W.codeIn K cd__law_is_number "_law_is_number" = true) (k__law_is_number : PySem.W.keepIn K (.ref f__law_is_number) = true)
    (a__law_is_box : PySem.W.nsIn K mainGlobals "_law_is_box" = some (some (.ref f__law_is_box))) (l__law_is_box : K.lookup f__law_is_box = some ⟨oc__law_is_box, od__law_is_box, .func (PySem.W.fnOf "_law_is_box" "_law_is_box" (defArgs s__law_is_box) (defBody s__law_is_box) (defScope s__law_is_box) .none kV__law_is_box dc__law_is_box pm__law_is_box an__law_is_box cd__law_is_box ct__law_is_box), sl__law_is_box⟩) (c__law_is_box : PySem.W.codeIn K cd__law_is_box "_law_is_box" = true) (k__law_is_box : PySem.W.keepIn K (.ref f__law_is_box) = true)
    (a__law_is_scene : PySem.W.nsIn K mainGlobals "_law_is_scene" = some (some (.ref f__law_is_scene))) (l__law_is_scene : K.lookup f__law_is_scene = some ⟨oc__law_is_scene, od__law_is_scene, .func (PySem.W.fnOf "_law_is_scene" "_law_is_scene" (defArgs s__law_is_scene) (defBody s__law_is_scene) (defScope s__law_is_scene) .none kV__law_is_scene dc__law_is_scene pm__law_is_scene an__law_is_scene cd__law_is_scene ct__law_is_scene), sl__law_is_scene⟩) (c__law_is_scene : PySem.W.codeIn K cd__law_is_scene "_law_is_scene" = true) (k__law_is_scene : PySem.W.keepIn K (.ref f__law_is_scene) = true)
    (a__law_each : PySem.W.nsIn K mainGlobals "_law_each" = some (some (.ref f__law_each))) (l__law_each : K.lookup f__law_each = some ⟨oc__law_each, od__law_each, .func (PySem.W.fnOf "_law_each" "_law_each" (defArgs s__law_each) (defBody s__law_each) (defScope s__law_each) .none kV__law_each dc__law_each pm__law_each an__law_each cd__law_each ct__law_each), sl__law_each⟩) (c__law_each : PySem.W.codeIn K cd__law_each "_law_each" = true) (k__law_each : PySem.W.keepIn K (.ref f__law_each) = true)
    (a_law : PySem.W.nsIn K mainGlobals "law" = some (some (.ref f_law))) (l_law : K.lookup f_law = some ⟨oc_law, od_law, .func (PySem.W.fnOf "law" "law" (defArgs s_law) (defBody s_law) (defScope s_law) .none kV_law dc_law pm_law an_law cd_law ct_law), sl_law⟩) (c_law : PySem.W.codeIn K cd_law "law" = true) (k_law : PySem.W.keepIn K (.ref f_law) = true)
    (c_ALL_MARKS : PySem.W.nsIn K mainGlobals "ALL_MARKS" = some (some (.str "cfhl" t_ALL_MARKS)))
    (c_AROUND : PySem.W.nsIn K mainGlobals "AROUND" = some (some (.int (1) t_AROUND)))
    (c_FARTHEST : PySem.W.nsIn K mainGlobals "FARTHEST" = some (some (.int (20) t_FARTHEST)))
    (c_HEIGHT : PySem.W.nsIn K mainGlobals "HEIGHT" = some (some (.int (5) t_HEIGHT)))
    (c_LARGEST : PySem.W.nsIn K mainGlobals "LARGEST" = some (some (.int (20) t_LARGEST)))
    (c_LEFT : PySem.W.nsIn K mainGlobals "LEFT" = some (some (.int (2) t_LEFT)))
    (c_LETTERS : PySem.W.nsIn K mainGlobals "LETTERS" = some (some (.str "abcdefghijklmnopqrstuvwxyz" t_LETTERS)))
    (c_LONGEST_NAME : PySem.W.nsIn K mainGlobals "LONGEST_NAME" = some (some (.int (3) t_LONGEST_NAME)))
    (c_MARKS : PySem.W.nsIn K mainGlobals "MARKS" = some (some (.int (6) t_MARKS)))
    (c_MOST_BOXES : PySem.W.nsIn K mainGlobals "MOST_BOXES" = some (some (.int (12) t_MOST_BOXES)))
    (c_NAME : PySem.W.nsIn K mainGlobals "NAME" = some (some (.int (0) t_NAME)))
    (c_PARTS : PySem.W.nsIn K mainGlobals "PARTS" = some (some (.int (7) t_PARTS)))
    (c_TOP : PySem.W.nsIn K mainGlobals "TOP" = some (some (.int (3) t_TOP)))
    (c_WIDTH : PySem.W.nsIn K mainGlobals "WIDTH" = some (some (.int (4) t_WIDTH)))
    (z_all : PySem.W.nsIn K mainGlobals "all" = some none)
    (z_bool : PySem.W.nsIn K mainGlobals "bool" = some none)
    (z_enumerate : PySem.W.nsIn K mainGlobals "enumerate" = some none)
    (z_int : PySem.W.nsIn K mainGlobals "int" = some none)
    (z_isinstance : PySem.W.nsIn K mainGlobals "isinstance" = some none)
    (z_len : PySem.W.nsIn K mainGlobals "len" = some none)
    (z_list : PySem.W.nsIn K mainGlobals "list" = some none)
    (z_range : PySem.W.nsIn K mainGlobals "range" = some none)
    (z_str : PySem.W.nsIn K mainGlobals "str" = some none)
    (z_tuple : PySem.W.nsIn K mainGlobals "tuple" = some none)
    : ∃ fd : FuncData, (∀ (s : Shared) (v : Value), BindsTo s fd ⟨[v], []⟩ [("_law_script", v)]) ∧ ∀ base : Heap, K.In base → base.Ns mainGlobals mg → FnOk l.prog w K mg base CX0 15 fa fd ["_law_script"] (spP K F_law) := by
  have e := hfa.symm.trans (PySem.W.mg_of X G a_law)
  cases e
  have F__law_cell := fun_mk (st := s__law_cell) l__law_cell c__law_cell k__law_cell
  have F__law_drawn := fun_mk (st := s__law_drawn) l__law_drawn c__law_drawn k__law_drawn
  have F__law_scene := fun_mk (st := s__law_scene) l__law_scene c__law_scene k__law_scene
  have F__law_odd := fun_mk (st := s__law_odd) l__law_odd c__law_odd k__law_odd
  have F__law_spoilt := fun_mk (st := s__law_spoilt) l__law_spoilt c__law_spoilt k__law_spoilt
  have F_is_marks := fun_mk (st := s_is_marks) l_is_marks c_is_marks k_is_marks
  have F_is_name := fun_mk (st := s_is_name) l_is_name c_is_name k_is_name
  have F_is_whole := fun_mk (st := s_is_whole) l_is_whole c_is_whole k_is_whole
  have F_is_box := fun_mk (st := s_is_box) l_is_box c_is_box k_is_box
  have F_is_scene := fun_mk (st := s_is_scene) l_is_scene c_is_scene k_is_scene
  have F__law_is_number := fun_mk (st := s__law_is_number) l__law_is_number c__law_is_number k__law_is_number
  have F__law_is_box := fun_mk (st := s__law_is_box) l__law_is_box c__law_is_box k__law_is_box
  have F__law_is_scene := fun_mk (st := s__law_is_scene) l__law_is_scene c__law_is_scene k__law_is_scene
  have F__law_each := fun_mk (st := s__law_each) l__law_each c__law_each k__law_each
  have F_law := fun_mk (st := s_law) l_law c_law k_law
  have b__law_cell := F__law_cell.binds (ps := ["_law_script", "_law_k"]) fun _ _ _ _ _ _ us hl => match us, hl with | [_, _], _ => rfl
  have b__law_drawn := F__law_drawn.binds (ps := ["_law_script", "_law_k", "_law_many"]) fun _ _ _ _ _ _ us hl => match us, hl with | [_, _, _], _ => rfl
  have b__law_scene := F__law_scene.binds (ps := ["_law_script", "_law_at"]) fun _ _ _ _ _ _ us hl => match us, hl with | [_, _], _ => rfl
  have b__law_odd := F__law_odd.binds (ps := ["_law_number"]) fun _ _ _ _ _ _ us hl => match us, hl with | [_], _ => rfl
  have b__law_spoilt := F__law_spoilt.binds (ps := ["_law_thing", "_law_number", "_law_deep"]) fun _ _ _ _ _ _ us hl => match us, hl with | [_, _, _], _ => rfl
  have b_is_marks := F_is_marks.binds (ps := ["thing"]) fun _ _ _ _ _ _ us hl => match us, hl with | [_], _ => rfl
  have b_is_name := F_is_name.binds (ps := ["thing"]) fun _ _ _ _ _ _ us hl => match us, hl with | [_], _ => rfl
  have b_is_whole := F_is_whole.binds (ps := ["thing", "least", "most"]) fun _ _ _ _ _ _ us hl => match us, hl with | [_, _, _], _ => rfl
  have b_is_box := F_is_box.binds (ps := ["thing"]) fun _ _ _ _ _ _ us hl => match us, hl with | [_], _ => rfl
  have b_is_scene := F_is_scene.binds (ps := ["thing"]) fun _ _ _ _ _ _ us hl => match us, hl with | [_], _ => rfl
  have b__law_is_number := F__law_is_number.binds (ps := ["_law_thing", "_law_low", "_law_high"]) fun _ _ _ _ _ _ us hl => match us, hl with | [_, _, _], _ => rfl
  have b__law_is_box := F__law_is_box.binds (ps := ["_law_box_here", "_law_names"]) fun _ _ _ _ _ _ us hl => match us, hl with | [_, _], _ => rfl
  have b__law_is_scene := F__law_is_scene.binds (ps := ["_law_thing"]) fun _ _ _ _ _ _ us hl => match us, hl with | [_], _ => rfl
  have b__law_each := F__law_each.binds (ps := ["_law_thing"]) fun _ _ _ _ _ _ us hl => match us, hl with | [_], _ => rfl
  have b_law := F_law.binds (ps := ["_law_script"]) fun _ _ _ _ _ _ us hl => match us, hl with | [_], _ => rfl
  have tx : Tx K mg ⟨_, _, _, _, _, _, _, _, _, _, _, _, _, _, _, _, _, _, _, _, _, _, _, _, _, _, _, _, _, _, t_ALL_MARKS, t_AROUND, t_FARTHEST, t_HEIGHT, t_LARGEST, t_LEFT, t_LETTERS, t_LONGEST_NAME, t_MARKS, t_MOST_BOXES, t_NAME, t_PARTS, t_TOP, t_WIDTH⟩ := ⟨F__law_cell, PySem.W.mg_of X G a__law_cell, b__law_cell, F__law_drawn, PySem.W.mg_of X G a__law_drawn, b__law_drawn, F__law_scene, PySem.W.mg_of X G a__law_scene, b__law_scene, F__law_odd, PySem.W.mg_of X G a__law_odd, b__law_odd, F__law_spoilt, PySem.W.mg_of X G a__law_spoilt, b__law_spoilt, F_is_marks, PySem.W.mg_of X G a_is_marks, b_is_marks, F_is_name, PySem.W.mg_of X G a_is_name, b_is_name, F_is_whole, PySem.W.mg_of X G a_is_whole, b_is_whole, F_is_box, PySem.W.mg_of X G a_is_box, b_is_box, F_is_scene, PySem.W.mg_of X G a_is_scene, b_is_scene, F__law_is_number, PySem.W.mg_of X G a__law_is_number, b__law_is_number, F__law_is_box, PySem.W.mg_of X G a__law_is_box, b__law_is_box, F__law_is_scene, PySem.W.mg_of X G a__law_is_scene, b__law_is_scene, F__law_each, PySem.W.mg_of X G a__law_each, b__law_each, F_law, PySem.W.mg_of X G a_law, b_law, PySem.W.mg_of X G c_ALL_MARKS, PySem.W.mg_of X G c_AROUND, PySem.W.mg_of X G c_FARTHEST, PySem.W.mg_of X G c_HEIGHT, PySem.W.mg_of X G c_LARGEST, PySem.W.mg_of X G c_LEFT, PySem.W.mg_of X G c_LETTERS, PySem.W.mg_of X G c_LONGEST_NAME, PySem.W.mg_of X G c_MARKS, PySem.W.mg_of X G c_MOST_BOXES, PySem.W.mg_of X G c_NAME, PySem.W.mg_of X G c_PARTS, PySem.W.mg_of X G c_TOP, PySem.W.mg_of X G c_WIDTH, PySem.W.mg_none_of X G z_all, PySem.W.mg_none_of X G z_bool, PySem.W.mg_none_of X G z_enumerate, PySem.W.mg_none_of X G z_int, PySem.W.mg_none_of X G z_isinstance, PySem.W.mg_none_of X G z_len, PySem.W.mg_none_of X G z_list, PySem.W.mg_none_of X G z_range, PySem.W.mg_none_of X G z_str, PySem.W.mg_none_of X G z_tuple⟩
  exact ⟨_, fun s v => .of_eq rfl, fun base _ _ => G_law tx⟩
theorem walk (main : ∀ ns : List Int, ns.length ≤ 63 → F_law [.list (ns.map PyData.int)] = some (.bool true)) {l : PySem.W.OpenLaw} {q : Program} {loose : List Str} {XP : (Str → Option Value) → Heap → Prop} {YP : World → Heap → Prop} {d : DefRec} {K : Params → PySem.W.Frag} (hn : l.most = some 63) (hdf : d.params.defaults = [])
    (hY : ∀ (w : World) (h : Heap), YP w h → (K w.params).In h)
    (F : ∀ (w : World) (mg : Str → Option Value) (fa : Addr) (h : Heap), (K w.params).In h → h.Ns mainGlobals mg → mg d.name = some (.ref fa) →
      ∃ fd : FuncData, (∀ (s : Shared) (u : Value), BindsTo s fd ⟨[u], []⟩ [("_law_script", u)]) ∧ ∀ base : Heap, (K w.params).In base → base.Ns mainGlobals mg → FnOk l.prog w (K w.params) mg base CX0 15 fa fd ["_law_script"] (spP (K w.params) F_law)) :
    PySem.W.WalkO q loose XP YP l.row.toRowW d [] (fun f vs => PySem.call f vs) :=
  L2.walk_of (n := 63) (k := 15) (x := "_law_script") (CX := fun _ => CX0) (sp := fun w => spP (K w.params) F_law) hn (by decide) hdf ⟨rfl, by decide, by decide⟩ hY F
    (fun _ H a ns hl _ hS => ⟨H, [.list (ns.map PyData.int)], .bool true, .refl _, .cons (rel_lst hS (RelL.ints ns)) .nil, main ns hl, fun _ _ _ _ r => r.bl⟩) fun _ _ _ _ _ z => z
end K01
namespace K01
noncomputable def chN (st : List (Nat × Nat)) (q : Nat) : List Nat := (st.filter fun x => decide (x.2 = q)).map (·.1)
noncomputable def parN : List (Nat × Nat) → Nat → Option Nat
  | [], _ => none
  | x :: r, q => if x.1 = q then some x.2 else parN r q
noncomputable def catN (f : Nat → Option (List Nat)) : List Nat → Option (List Nat)
  | [] => some []
  | x :: r => (f x).bind fun a => (catN f r).bind fun b => some (a ++ b)
noncomputable def pthN (st : List (Nat × Nat)) : Nat → Nat → Option (List Nat)
  | 0, _ => none
  | n + 1, q => (parN st q).bind fun p => if p = 0 then some [q] else (pthN st n p).bind fun l => if l.length + 1 ≤ 3000000 then some (l ++ [q]) else none
noncomputable def blwN (st : List (Nat × Nat)) : Nat → Nat → Option (List Nat)
  | 0, _ => none
  | n + 1, q => (parN st q).bind fun _ => (catN (blwN st n) (chN st q)).bind fun r => if r.length + 1 ≤ 3000000 then some (q :: r) else none
noncomputable def pntN (st : List (Nat × Nat)) : Option (List Nat) := (catN (blwN st 13) (chN st 0)).bind fun r => if r.length ≤ 3000000 then some r else none
noncomputable def stF (ps : List Nat) : List (Nat × Nat) := (List.range ps.length).map fun i => (i + 1, ps.getD i 0)
noncomputable def par (ps : List Nat) (q : Nat) : Nat := ps.getD (q - 1) 0
structure PsOk (ps : List Nat) : Prop where
  len : ps.length ≤ 7
  par : ∀ i, ps.getD i 0 ≤ i
noncomputable def pF (ps : List Nat) : Nat → Nat → List Nat
  | 0, _ => []
  | n + 1, q => if q = 0 then [] else pF ps n (par ps q) ++ [q]
noncomputable def P (ps : List Nat) (q : Nat) : List Nat := pF ps q q
noncomputable def blF (st : List (Nat × Nat)) : Nat → Nat → List Nat
  | 0, _ => []
  | n + 1, q => q :: (chN st q).flatMap (blF st n)
noncomputable def kids (st : List (Nat × Nat)) (n a : Nat) : List Nat := (chN st a).flatMap (blF st n)
noncomputable abbrev Ar := Int × Int × Int × Int
noncomputable abbrev Row := Nat × Ar × List Ar
structure Geo where
  L : Nat → Int
  T : Nat → Int
  W : Nat → Int
  H : Nat → Int
  c : Nat → Bool
  h : Nat → Bool
  l : Nat → Bool
noncomputable def Geo.at (g : Geo) (l t : Int) (x : Nat) : Ar := (l + g.L x, t + g.T x, l + g.L x + g.W x, t + g.T x + g.H x)
noncomputable def spF (g : Geo) (st : List (Nat × Nat)) : Nat → Nat → Int → Int → List Ar → List Row
  | 0, _, _, _, _ => []
  | n + 1, a, l, t, cu => (chN st a).flatMap fun x => if g.h x = true then [] else (x, g.at l t x, cu ++ [g.at l t x]) :: spF g st n x (l + g.L x) (t + g.T x) (cu ++ if g.c x = true then [g.at l t x] else [])
section
variable (g : Geo) (ps : List Nat)
noncomputable def Geo.sL (q : Nat) : Int := ((P ps q).map g.L).sum
noncomputable def Geo.sT (q : Nat) : Int := ((P ps q).map g.T).sum
noncomputable def Geo.area (q : Nat) : Ar := (g.sL ps q, g.sT ps q, g.sL ps q + g.W q, g.sT ps q + g.H q)
noncomputable def Geo.cuts (a : Nat) : List Ar := ((P ps a).filter g.c).map (g.area ps)
noncomputable def Geo.shown (q : Nat) : Bool := (P ps q).all fun x => !g.h x
noncomputable def Geo.row (x : Nat) : Row := (x, g.area ps x, g.cuts ps (par ps x) ++ [g.area ps x])
end
noncomputable def hasP (a : Ar) (x y : Int) : Bool := decide (a.1 ≤ x) && decide (x < a.2.2.1) && (decide (a.2.1 ≤ y) && decide (y < a.2.2.2))
noncomputable def ovl (a b : Ar) : Ar := (max a.1 b.1, max a.2.1 b.2.1, min a.2.2.1 b.2.2.1, min a.2.2.2 b.2.2.2)
noncomputable def wndL (g : Geo) (ps : List Nat) : List Nat → Ar → Ar
  | [], w => w
  | s :: r, w => wndL g ps r (if g.c s = true then ovl w (g.area ps s) else w)
noncomputable def Geo.wnd (g : Geo) (ps : List Nat) (q : Nat) : Ar := wndL g ps (P ps q) (g.area ps q)
noncomputable def Geo.tch (g : Geo) (ps : List Nat) (x y : Int) (q : Nat) : Bool := (g.row ps q).2.2.all fun a => hasP a x y
noncomputable def Geo.hits (g : Geo) (ps : List Nat) (x y : Int) : List Nat := (((kids (stF ps) 13 0).reverse.filter (g.shown ps)).filter fun q => !g.l q).filter (g.tch ps x y)
noncomputable def cutN (st : List (Nat × Nat)) (q : Nat) : Option (List (Nat × Nat)) := (blwN st 13 q).bind fun g => some (st.filter fun x => !decide (x.1 ∈ g))
noncomputable def raiN (st : List (Nat × Nat)) (q : Nat) : Option (List (Nat × Nat)) := (blwN st 13 q).bind fun g => some (st.filter (fun x => !decide (x.1 ∈ g)) ++ st.filter fun x => decide (x.1 ∈ g))
noncomputable def okPath (ps : List Nat) (st' : List (Nat × Nat)) (gone : List Nat) : Bool := (List.range ps.length).all fun i => decide (i + 1 ∈ gone) || (decide (pthN st' 13 (i + 1) = some (P ps (i + 1))) && (decide (parN st' (i + 1) = some (par ps (i + 1))) && (P ps (i + 1)).all fun x => !decide (x ∈ gone)))
noncomputable def pntF (ps : List Nat) : List Nat := kids (stF ps) 13 0
noncomputable def okSt09 (ps : List Nat) (st' : List (Nat × Nat)) (pnt' inner gone : List Nat) (q : Nat) : Bool := decide (st'.length ≤ 12) && (decide (pntN st' = some pnt') && (decide (blwN st' 13 q = some inner) && (okPath ps st' gone && inner.all fun x => !decide (x ∈ gone))))
noncomputable def allPs : Nat → List (List Nat)
  | 0 => [[]]
  | n + 1 => (allPs n).flatMap fun ps => (List.range (n + 1)).map fun p => ps ++ [p]
noncomputable abbrev In (ps : List Nat) (q : Nat) : Prop := 1 ≤ q ∧ q ≤ ps.length
noncomputable def tkL (g : Geo) (ps pnt : List Nat) : List Nat := (pnt.reverse.filter (g.shown ps)).filter fun q => !g.l q
noncomputable def hitL (g : Geo) (ps pnt : List Nat) (x y : Int) : List Nat := (tkL g ps pnt).filter (g.tch ps x y)
end K01
namespace K01
open PySem L2 L2.PU
theorem cGo_map {ι : Type} {t : En → PyData → Option En} {p : En → Option Bool} {f : En → Option PyData} {η : En} (D : ι → PyData) (P : ι → Bool) (Y : ι → PyData) :
    ∀ xs : List ι, (∀ x ∈ xs, ∃ η1, t η (D x) = some η1 ∧ p η1 = some (P x) ∧ (P x = true → f η1 = some (Y x))) → cGo t p f η (xs.map D) = some ((xs.filter P).map Y)
  | [], _ => rfl
  | x :: r, h => by
    obtain ⟨η1, h1, h2, h3⟩ := h x List.mem_cons_self
    have ih := cGo_map D P Y r fun y hy => h y (List.mem_cons_of_mem _ hy)
    rw [List.map_cons]
    unfold cGo
    rw [h1, Option.bind_some, h2, Option.bind_some, ih, List.filter_cons]
    cases hP : P x with
    | false => rfl
    | true => rw [if_pos rfl, h3 hP]; rfl
structure Sc where
  st : List (Nat × Nat)
  nm : Nat → Str
  L : Nat → Int
  T : Nat → Int
  W : Nat → Int
  H : Nat → Int
  mr : Nat → Str
structure Sc.Ok (c : Sc) : Prop where
  inj : ∀ a b, c.nm a = c.nm b → a = b
  top : c.nm 0 = ""
  ok : ∀ a, PyData.strOk (c.nm a) = true
  okm : ∀ a, PyData.strOk (c.mr a) = true
  len : c.st.length ≤ 12
noncomputable def Sc.box (c : Sc) (x : Nat × Nat) : PyData := .tuple [.str (c.nm x.1), .str (c.nm x.2), .int (c.L x.1), .int (c.T x.1), .int (c.W x.1), .int (c.H x.1), .str (c.mr x.1)]
noncomputable def Sc.d (c : Sc) : PyData := .tuple (c.st.map c.box)
noncomputable def Sc.s (c : Sc) (q : Nat) : PyData := .str (c.nm q)
noncomputable def Sc.S (c : Sc) (l : List Nat) : PyData := .list (l.map c.s)
theorem shaped_str {a : Str} (h : PyData.strOk a = true) : SeqAt.shaped (.str a) = true := by
  simp [SeqAt.shaped, PyData.canLay0, PyData.depth, h]
theorem str_dec (a b : Str) : (a == b) = decide (a = b) := rfl
theorem pEq_str {a b : Str} (ha : PyData.strOk a = true) (hb : PyData.strOk b = true) : pEq (.str a) (.str b) = some (.bool (decide (a = b))) := by
  unfold pEq
  rw [if_pos ⟨shaped_str ha, shaped_str hb⟩]
  simp [PyData.eqv, str_dec]
end K01
namespace K01
open PySem L2 L2.PU
theorem big {n : Nat} (h : n ≤ 3000000) : n ≤ sizeLine := Nat.le_trans h (by show 3000000 ≤ 2 ^ 24; decide)
end K01
namespace K01
open PySem L2 L2.PU
noncomputable def Sd (ns : List Int) : PyData := .list (ns.map PyData.int)
theorem can_ints : ∀ ns : List Int, PyData.canLayAll0 (ns.map PyData.int) = true
  | [] => rfl
  | _ :: r => by
    have ih := can_ints r
    simpa [PyData.canLayAll0, PyData.canLay0] using ih
theorem dep_ints : ∀ ns : List Int, PyData.depthAll (ns.map PyData.int) = 0
  | [] => rfl
  | _ :: r => by
    have ih := dep_ints r
    simpa [PyData.depthAll, PyData.depth] using ih
theorem shaped_ints (ns : List Int) : SeqAt.shaped (.list (ns.map PyData.int)) = true := by
  simp [SeqAt.shaped, PyData.canLay0, PyData.depth, can_ints, dep_ints]
theorem shaped_int (i : Int) : SeqAt.shaped (.int i) = true := by simp [SeqAt.shaped, PyData.canLay0, PyData.depth]
theorem pEq_int (i j : Int) : pEq (.int i) (.int j) = some (.bool (i == j)) := by
  unfold pEq
  rw [if_pos ⟨shaped_int i, shaped_int j⟩]
  simp [PyData.eqv]
theorem l2_of {o : PyData → PyData → Option PyData} {f g : En → Option PyData} {η : En} {x y z : PyData} (hf : f η = some x) (hg : g η = some y) (ho : o x y = some z) : l2 o f g η = some z := by
  unfold l2
  rw [hf, Option.bind_some, hg, Option.bind_some, ho]
theorem pMul_ok {i j : Int} (h : CMul i j) : pMul (.int i) (.int j) = some (.int (i * j)) := if_pos h
theorem pMod_ok {i j : Int} (h : 0 < j) : pMod (.int i) (.int j) = some (.int (i % j)) := if_pos h
theorem pFdiv_ok {i j : Int} (h : CDiv i j) : pFdiv (.int i) (.int j) = some (.int (i / j)) := if_pos h
theorem mulL {i j : Int} (h1 : -(2 ^ 64) < i) (h2 : i < 2 ^ 64) : CMul i j := Or.inl ⟨h1, h2⟩
theorem mulR {i j : Int} (h1 : -(2 ^ 64) < j) (h2 : j < 2 ^ 64) : CMul i j := Or.inr ⟨h1, h2⟩
section
variable {ns : List Int}
theorem cell_ok (hn : ns.length ≤ 63) {k : Int} (hk : 0 ≤ k) : ∃ v : Int, F__law_cell [Sd ns, .int k] = some (.int v) := by
  unfold F__law_cell runF
  rw [if_pos (by rfl)]
  have et : (bT (l2 pEq (eV 0) (oE (fun η => (aN η).bind gL)))) [.val (Sd ns), .val (.int k)] = some (decide (ns = [])) := by
    show Option.bind (pEq (Sd ns) (.list [])) asB = _
    unfold pEq
    rw [if_pos ⟨shaped_ints ns, by rfl⟩]
    cases ns <;> simp [Sd, PyData.eqv, PyData.eqvAll, asB]
  show ∃ v, Option.bind (g__law_cell [.val (Sd ns), .val (.int k)]) _ = _
  unfold g__law_cell sSeq sIf
  rw [et, Option.bind_some]
  by_cases h0 : ns = []
  · rw [if_pos (by simpa using h0)]
    refine ⟨7 * k, ?_⟩
    have : l2 pMul (eC (.int 7)) (eV 1) [.val (Sd ns), .val (.int k)] = some (.int (7 * k)) := l2_of rfl rfl (pMul_ok (mulL (by decide) (by decide)))
    unfold sRet
    rw [this]; rfl
  · rw [if_neg (by simpa using h0)]
    have hp : 0 < ns.length := by cases ns with | nil => exact absurd rfl h0 | cons => simp
    have hlen : lA pLen (aC (eV 0) aN) [.val (Sd ns), .val (.int k)] = some (.int (ns.length : Int)) := by
      show some (PyData.int ((ns.map PyData.int).length : Int)) = _
      rw [List.length_map]
    have hm : l2 pMod (eV 1) (lA pLen (aC (eV 0) aN)) [.val (Sd ns), .val (.int k)] = some (.int (k % (ns.length : Int))) := l2_of rfl hlen (pMod_ok (by omega))
    have hd : l2 pFdiv (eV 1) (lA pLen (aC (eV 0) aN)) [.val (Sd ns), .val (.int k)] = some (.int (k / (ns.length : Int))) := l2_of rfl hlen (pFdiv_ok ⟨by omega, by omega⟩)
    obtain ⟨j, hj⟩ : ∃ j : Nat, k % (ns.length : Int) = (j : Int) := ⟨(k % (ns.length : Int)).toNat, by have := Int.emod_nonneg k (show (ns.length : Int) ≠ 0 by omega); omega⟩
    have hjl : j < ns.length := by have := Int.emod_lt_of_pos k (show (0 : Int) < ns.length by omega); omega
    refine ⟨ns[j] + 6553 * (k / (ns.length : Int)), ?_⟩
    have hx : l2 pIx (eV 0) (l2 pMod (eV 1) (lA pLen (aC (eV 0) aN))) [.val (Sd ns), .val (.int k)] = some (.int ns[j]) := by
      refine l2_of rfl hm ?_
      rw [hj]
      show atI (ns.map PyData.int) (j : Int) = _
      exact atI_nat (by rw [List.getElem?_map, List.getElem?_eq_getElem hjl]; rfl)
    have hy : l2 pMul (eC (.int 6553)) (l2 pFdiv (eV 1) (lA pLen (aC (eV 0) aN))) [.val (Sd ns), .val (.int k)] = some (.int (6553 * (k / (ns.length : Int)))) := l2_of rfl hd (pMul_ok (mulL (by decide) (by decide)))
    have hz := l2_of (o := pAdd) hx hy rfl
    show Option.bind (sRet _ [.val (Sd ns), .val (.int k)]) _ = _
    unfold sRet
    rw [hz]
    rfl
theorem drawn_ok (hn : ns.length ≤ 63) {k m : Int} (hk : 0 ≤ k) (hm : 0 < m) : ∃ r : Nat, (r : Int) < m ∧ F__law_drawn [Sd ns, .int k, .int m] = some (.int r) := by
  obtain ⟨v, hv⟩ := cell_ok hn hk
  unfold F__law_drawn runF
  rw [if_pos (by rfl)]
  have hc : lA F__law_cell (aC (eV 0) (aC (eV 1) aN)) [.val (Sd ns), .val (.int k), .val (.int m), .un] = some (.int v) := hv
  have x1 : l2 pMod (l2 pAdd (l2 pMul (l2 pMod (lA F__law_cell (aC (eV 0) (aC (eV 1) aN))) (eC (.int 2147483563))) (eC (.int 69069))) (l2 pMul (eC (.int 104723)) (l2 pAdd (eV 1) (eC (.int 1))))) (eC (.int 2147483563)) [.val (Sd ns), .val (.int k), .val (.int m), .un] = some (.int ((v % 2147483563 * 69069 + 104723 * (k + 1)) % 2147483563)) :=
    l2_of (l2_of (l2_of (l2_of hc rfl (pMod_ok (by decide))) rfl (pMul_ok (mulR (by decide) (by decide)))) (l2_of rfl (l2_of rfl rfl rfl) (pMul_ok (mulL (by decide) (by decide)))) rfl) rfl (pMod_ok (by decide))
  generalize hx : (v % 2147483563 * 69069 + 104723 * (k + 1)) % 2147483563 = x at x1
  have bx : 0 ≤ x ∧ x < 2147483563 := by rw [← hx]; exact ⟨Int.emod_nonneg _ (by decide), Int.emod_lt_of_pos _ (by decide)⟩
  have x2 : l2 pMod (l2 pAdd (l2 pMul (eV 3) (eV 3)) (l2 pFdiv (eV 3) (eC (.int 3)))) (eC (.int 2147483399)) [.val (Sd ns), .val (.int k), .val (.int m), .val (.int x)] = some (.int ((x * x + x / 3) % 2147483399)) :=
    l2_of (l2_of (l2_of rfl rfl (pMul_ok (mulL (by omega) (by omega)))) (l2_of rfl rfl (pFdiv_ok ⟨by decide, by decide⟩)) rfl) rfl (pMod_ok (by decide))
  generalize hy : (x * x + x / 3) % 2147483399 = y at x2
  have byy : 0 ≤ y ∧ y < 2147483399 := by rw [← hy]; exact ⟨Int.emod_nonneg _ (by decide), Int.emod_lt_of_pos _ (by decide)⟩
  have x3 : l2 pMod (l2 pFdiv (l2 pMod (l2 pAdd (l2 pMul (eV 3) (eV 3)) (l2 pFdiv (eV 3) (eC (.int 7)))) (eC (.int 2147483647))) (eC (.int 11))) (eV 2) [.val (Sd ns), .val (.int k), .val (.int m), .val (.int y)] = some (.int ((y * y + y / 7) % 2147483647 / 11 % m)) :=
    l2_of (l2_of (l2_of (l2_of (l2_of rfl rfl (pMul_ok (mulL (by omega) (by omega)))) (l2_of rfl rfl (pFdiv_ok ⟨by decide, by decide⟩)) rfl) rfl (pMod_ok (by decide))) rfl (pFdiv_ok ⟨by decide, by decide⟩)) rfl (pMod_ok hm)
  refine ⟨((y * y + y / 7) % 2147483647 / 11 % m).toNat, ?_, ?_⟩
  · have h1 := Int.emod_nonneg ((y * y + y / 7) % 2147483647 / 11) (show m ≠ 0 by omega)
    have h2 := Int.emod_lt_of_pos ((y * y + y / 7) % 2147483647 / 11) hm
    omega
  · have h1 := Int.emod_nonneg ((y * y + y / 7) % 2147483647 / 11) (show m ≠ 0 by omega)
    have e : (((y * y + y / 7) % 2147483647 / 11 % m).toNat : Int) = (y * y + y / 7) % 2147483647 / 11 % m := by omega
    rw [e]
    show Option.bind (g__law_drawn F__law_cell [.val (Sd ns), .val (.int k), .val (.int m), .un]) _ = _
    unfold g__law_drawn sSeq sSet sRet
    rw [x1, Option.bind_some, Option.bind_some]
    show Option.bind (Option.bind (Option.bind (l2 pMod _ _ [.val (Sd ns), .val (.int k), .val (.int m), .val (.int x)]) _) _) _ = _
    rw [x2, Option.bind_some, Option.bind_some]
    show Option.bind (Option.bind (l2 pMod _ _ [.val (Sd ns), .val (.int k), .val (.int m), .val (.int y)]) _) _ = _
    rw [x3]
    rfl
end
end K01
namespace K01
open PySem L2 L2.PU
theorem seq_of {f g : En → Option Out} {η η1 : En} {r : Option Out} (h1 : f η = some (.nx η1)) (h2 : g η1 = r) : sSeq f g η = r := by
  unfold sSeq
  rw [h1]; exact h2
theorem set_of {i : Nat} {f : En → Option PyData} {η : En} {d : PyData} (h : f η = some d) : sSet i f η = some (.nx (η.set i (.val d))) := by
  unfold sSet
  rw [h]; rfl
theorem setO_of {i : Nat} {f : En → Option (List PyData)} {η : En} {d : List PyData} (h : f η = some d) : sSetO i f η = some (.nx (η.set i (.own d))) := by
  unfold sSetO
  rw [h]; rfl
theorem lA_of {o : List PyData → Option PyData} {fs : En → Option (List PyData)} {η : En} {ds : List PyData} {d : PyData} (h1 : fs η = some ds) (h2 : o ds = some d) : lA o fs η = some d := by
  unfold lA
  rw [h1]; exact h2
theorem aC_of {f : En → Option PyData} {g : En → Option (List PyData)} {η : En} {d : PyData} {ds : List PyData} (h1 : f η = some d) (h2 : g η = some ds) : aC f g η = some (d :: ds) := by
  unfold aC
  rw [h1, Option.bind_some, h2]; rfl
theorem if_of {c : En → Option Bool} {f g : En → Option Out} {η : En} {b : Bool} (h : c η = some b) : sIf c f g η = if b = true then f η else g η := by
  unfold sIf
  rw [h]; rfl
theorem bT_of {f : En → Option PyData} {η : En} {b : Bool} (h : f η = some (.bool b)) : bT f η = some b := by
  unfold bT
  rw [h]; rfl
theorem for_of {it : En → Option (List PyData)} {t : En → PyData → Option En} {body : En → Option Out} {η : En} {ds : List PyData} {r : Option Out} (h : it η = some ds) (h2 : sGo t body ds η = r) : sFor it t body η = r := by
  unfold sFor
  rw [h]; exact h2
theorem rng1_ok {j : Int} (h1 : -(2 ^ 62) ≤ j) (h2 : j < 2 ^ 62) : rng1 [.int j] = some (rngL 0 j.toNat) := if_pos ⟨h1, h2⟩
theorem sGo_rng {t : En → PyData → Option En} {body : En → Option Out} (Inv : Nat → En → Prop) (n : Nat)
    (st : ∀ k η, k < n → Inv k η → ∃ η1 η2, t η (.int (0 + (k : Nat))) = some η1 ∧ body η1 = some (.nx η2) ∧ Inv (k + 1) η2) {η : En} (h0 : Inv 0 η) : ∃ η', sGo t body (rngL 0 n) η = some (.nx η') ∧ Inv n η' := by
  have key : ∀ (m k : Nat) (η : En), k + m = n → Inv k η → ∃ η', sGo t body ((List.range' k m).map fun (k : Nat) => PyData.int (0 + (k : Nat))) η = some (.nx η') ∧ Inv n η' := by
    intro m
    induction m with
    | zero => intro k η e h; exact ⟨η, rfl, by rw [← e]; exact h⟩
    | succ m ih =>
      intro k η e h
      obtain ⟨η1, η2, h1, h2, h3⟩ := st k η (by omega) h
      obtain ⟨η', e1, e2⟩ := ih (k + 1) η2 (by omega) h3
      refine ⟨η', ?_, e2⟩
      rw [List.range'_succ, List.map_cons]
      unfold sGo
      rw [h1, Option.bind_some, h2, Option.bind_some]
      exact e1
  unfold rngL
  rw [List.range_eq_range']
  exact key n 0 η (by omega) h0
theorem sGo_all {ι : Type} {t : En → PyData → Option En} {body : En → Option Out} (D : ι → PyData) (Inv : List ι → En → Prop) (all : List ι)
    (st : ∀ done x rest η, all = done ++ x :: rest → Inv done η → ∃ η1 η2, t η (D x) = some η1 ∧ body η1 = some (.nx η2) ∧ Inv (done ++ [x]) η2) {η : En} (h0 : Inv [] η) : ∃ η', sGo t body (all.map D) η = some (.nx η') ∧ Inv all η' := by
  have key : ∀ (rest done : List ι) (η : En), all = done ++ rest → Inv done η → ∃ η', sGo t body (rest.map D) η = some (.nx η') ∧ Inv all η' := by
    intro rest
    induction rest with
    | nil => intro done η e h; exact ⟨η, rfl, by rw [e, List.append_nil]; exact h⟩
    | cons x r ih =>
      intro done η e h
      obtain ⟨η1, η2, h1, h2, h3⟩ := st done x r η e h
      obtain ⟨η', e1, e2⟩ := ih (done ++ [x]) η2 (by rw [e]; simp) h3
      refine ⟨η', ?_, e2⟩
      rw [List.map_cons]
      unfold sGo
      rw [h1, Option.bind_some, h2, Option.bind_some]
      exact e1
  exact key all [] η rfl h0
noncomputable def let8 : List Nat := [100, 98, 103, 97, 104, 99, 102, 101]
noncomputable def nmT (t : Nat) : Nat → Str
  | 0 => ""
  | j + 1 => if j < 8 then ⟨#[let8.getD ((j + t) % 8) 0]⟩ else ⟨(List.replicate (j + 1) 97).toArray⟩
theorem let8_inj : ∀ x : Fin 8, ∀ y : Fin 8, let8.getD x.val 0 = let8.getD y.val 0 → x = y := by decide
theorem nmT_lo {t j : Nat} (h : j < 8) : nmT t (j + 1) = ⟨#[let8.getD ((j + t) % 8) 0]⟩ := if_pos h
theorem nmT_hi {t j : Nat} (h : ¬ j < 8) : nmT t (j + 1) = ⟨(List.replicate (j + 1) 97).toArray⟩ := if_neg h
theorem empty_size : ("" : Str).cps.size = 0 := by decide
theorem nmT_inj (t : Nat) : ∀ a b, nmT t a = nmT t b → a = b := by
  have sz : ∀ a, (nmT t a).cps.size = if a = 0 then 0 else if a - 1 < 8 then 1 else a := fun a => by
    cases a with
    | zero => exact empty_size
    | succ j =>
      by_cases h : j < 8
      · rw [nmT_lo h]; simp [h]
      · rw [nmT_hi h]; simp [h]
  intro a b e
  have s1 := sz a
  have s2 := sz b
  rw [e, s2] at s1
  cases a with
  | zero =>
    cases b with
    | zero => rfl
    | succ k =>
      simp at s1
      split at s1 <;> omega
  | succ j =>
    cases b with
    | zero =>
      simp at s1
      split at s1 <;> omega
    | succ k =>
      by_cases hj : j < 8
      · by_cases hk : k < 8
        · rw [nmT_lo hj, nmT_lo hk] at e
          have e1 : (#[let8.getD ((j + t) % 8) 0] : Array Nat) = #[let8.getD ((k + t) % 8) 0] := by injection e
          have e2 : let8.getD ((j + t) % 8) 0 = let8.getD ((k + t) % 8) 0 := by simpa using e1
          have e3 := let8_inj ⟨(j + t) % 8, Nat.mod_lt _ (by decide)⟩ ⟨(k + t) % 8, Nat.mod_lt _ (by decide)⟩ e2
          have e4 : (j + t) % 8 = (k + t) % 8 := by injection e3
          omega
        · simp [hj, hk] at s1; omega
      · by_cases hk : k < 8
        · simp [hj, hk] at s1; omega
        · simp [hj, hk] at s1; omega
theorem let8_lt : ∀ x : Fin 8, let8.getD x.val 0 < 0x110000 := by decide
theorem nmT_ok (t : Nat) : ∀ a, PyData.strOk (nmT t a) = true := fun a => by
  cases a with
  | zero => exact (by decide +kernel : PyData.strOk ("" : Str) = true)
  | succ j =>
    by_cases h : j < 8
    · rw [nmT_lo h]
      have := let8_lt ⟨(j + t) % 8, Nat.mod_lt _ (by decide)⟩
      simp only [List.getD_eq_getElem?_getD] at this
      simp [PyData.strOk, this]
    · rw [nmT_hi h]
      unfold PyData.strOk
      rw [Array.all_eq_true]
      intro i hi
      simp
structure Dr where
  ps : List Nat
  nm : Nat → Str
  L : Nat → Int
  T : Nat → Int
  W : Nat → Int
  H : Nat → Int
  mr : Nat → Str
noncomputable def bd (l t w h : Int) : Prop := (-3 ≤ l ∧ l ≤ 5) ∧ (-3 ≤ t ∧ t ≤ 5) ∧ (0 ≤ w ∧ w ≤ 8) ∧ (0 ≤ h ∧ h ≤ 8)
noncomputable def mkS : List Bool → Str
  | [] => ""
  | b :: r => mkS r ++ (if b then (⟨#[[99, 102, 104, 108].getD r.length 0]⟩ : Str) else ("" : Str))
noncomputable def mkOk (m : Str) : Prop := ∃ bs : List Bool, bs.length = 4 ∧ m = mkS bs
structure Dr.Ok (c : Dr) : Prop where
  inj : ∀ a b, c.nm a = c.nm b → a = b
  top : c.nm 0 = ""
  ok : ∀ a, PyData.strOk (c.nm a) = true
  okm : ∀ a, PyData.strOk (c.mr a) = true
  len : c.ps.length ≤ 12
  par : ∀ i, c.ps.getD i 0 ≤ i
  bds : ∀ i, bd (c.L i) (c.T i) (c.W i) (c.H i)
  mks : ∀ i, mkOk (c.mr i)
noncomputable def Dr.box (c : Dr) (i : Nat) : PyData := .tuple [.str (c.nm (i + 1)), .str (c.nm (c.ps.getD i 0)), .int (c.L i), .int (c.T i), .int (c.W i), .int (c.H i), .str (c.mr i)]
noncomputable def Dr.d (c : Dr) : PyData := .tuple ((List.range c.ps.length).map c.box)
noncomputable def Dr.s (c : Dr) (q : Nat) : PyData := .str (c.nm q)
noncomputable def Dr.more (c : Dr) (p : Nat) (l t w h : Int) (m : Str) : Dr :=
  { ps := c.ps ++ [p], nm := c.nm, L := fun i => if i = c.ps.length then l else c.L i, T := fun i => if i = c.ps.length then t else c.T i, W := fun i => if i = c.ps.length then w else c.W i,
    H := fun i => if i = c.ps.length then h else c.H i, mr := fun i => if i = c.ps.length then m else c.mr i }
theorem Dr.more_d (c : Dr) (p : Nat) (l t w h : Int) (m : Str) : (c.more p l t w h m).d = .tuple ((List.range c.ps.length).map c.box ++ [.tuple [.str (c.nm (c.ps.length + 1)), .str (c.nm p), .int l, .int t, .int w, .int h, .str m]]) := by
  unfold Dr.d
  have e : (c.more p l t w h m).ps.length = c.ps.length + 1 := by unfold Dr.more; simp
  rw [e, List.range_succ, List.map_append]
  congr 2
  · refine List.map_congr_left fun i hi => ?_
    have hlt := List.mem_range.mp hi
    have hne : i ≠ c.ps.length := Nat.ne_of_lt hlt
    have hps : (c.ps ++ [p])[i]? = c.ps[i]? := List.getElem?_append_left hlt
    unfold Dr.box Dr.more
    simp only [hne, if_false, List.getD_eq_getElem?_getD, hps]
  · unfold Dr.box Dr.more
    simp
theorem Dr.more_ok {c : Dr} (h : c.Ok) (hl : c.ps.length < 12) {p : Nat} (hp : p ≤ c.ps.length) (l t w g : Int) {m : Str} (hm : PyData.strOk m = true) (hb : bd l t w g) (hk : mkOk m) : (c.more p l t w g m).Ok where
  inj := h.inj
  top := h.top
  ok := h.ok
  okm := fun i => by
    unfold Dr.more
    dsimp only
    split
    · exact hm
    · exact h.okm i
  len := by unfold Dr.more; simp; omega
  par := fun i => by
    unfold Dr.more
    dsimp only
    rw [List.getD_eq_getElem?_getD]
    by_cases hi : i < c.ps.length
    · rw [List.getElem?_append_left hi, ← List.getD_eq_getElem?_getD]
      exact h.par i
    · by_cases he : i = c.ps.length
      · subst he
        rw [List.getElem?_append_right (Nat.le_refl _)]
        simpa using hp
      · rw [List.getElem?_eq_none (by simp; omega)]
        exact Nat.zero_le _
  bds := fun i => by
    unfold Dr.more
    dsimp only
    by_cases e : i = c.ps.length
    · rw [if_pos e, if_pos e, if_pos e, if_pos e]; exact hb
    · rw [if_neg e, if_neg e, if_neg e, if_neg e]; exact h.bds i
  mks := fun i => by
    unfold Dr.more
    dsimp only
    split
    · exact hk
    · exact h.mks i
end K01
namespace K01
open PySem L2 L2.PU
noncomputable def sg4 : Nat → Str := fun j => ⟨#[[99, 102, 104, 108].getD j 0]⟩
theorem cfhl : enS [.str "cfhl"] = some ([0, 1, 2, 3].map fun (j : Nat) => PyData.tuple [.int (j : Nat), .str (sg4 j)]) := by
  have e : ("cfhl" : Str).cps.toList = [99, 102, 104, 108] := by decide +kernel
  unfold enS
  dsimp only
  unfold signD
  rw [e]
  rfl
theorem dbg : ("dbgahcfe" : Str).cps.toList = let8 := by decide +kernel
theorem dbg_len : ("dbgahcfe" : Str).length ≤ sizeLine := by decide +kernel
theorem strOk_app {a b : Str} (ha : PyData.strOk a = true) (hb : PyData.strOk b = true) : PyData.strOk (a ++ b) = true := by
  unfold PyData.strOk at ha hb ⊢
  show (a.cps ++ b.cps).all _ = true
  rw [Array.all_append, ha, hb]; rfl
theorem len_app (a b : Str) : (a ++ b).length = a.length + b.length := by
  show (a.cps ++ b.cps).size = _
  rw [Array.size_append]; rfl
theorem sg4_ok (j : Nat) (h : j ∈ [0, 1, 2, 3]) : PyData.strOk (sg4 j) = true := by
  simp at h
  rcases h with rfl | rfl | rfl | rfl <;> decide +kernel
theorem mkS_false (bs : List Bool) : mkS bs = mkS (false :: bs) := by
  show mkS bs = mkS bs ++ ("" : Str)
  apply str_ext
  show _ = ((mkS bs).cps ++ ("" : Str).cps).toList
  have : ("" : Str).cps = #[] := by decide +kernel
  rw [this]; simp
theorem sg4_len (j : Nat) : (sg4 j).length = 1 := rfl
section
variable {ns : List Int} (hn : ns.length ≤ 63)
include hn
theorem marks_ok {x1 x2 x3 x4 x6 x7 x8 : Sl} {hh : Int} (h0 : 0 ≤ hh) (s10 s11 s12 : Sl) : ∃ (m : Str) (u v : Sl), (PyData.strOk m = true ∧ mkOk m) ∧
    sFor (fun η => ((aC (eC (.str "cfhl")) aN) η).bind enS) (tgT (tgCons (tgN 10) (tgCons (tgN 11) tgNil)))
    (sIf (bT (l2 pEq (lA F__law_drawn (aC (eV 0) (aC (l2 pAdd (l2 pAdd (eV 5) (eC (.int 5))) (eV 10)) (aC (l2 pIx (oE (fun η => ((aC (eC (.int 4)) (aC (eC (.int 2)) (aC (eC (.int 9)) (aC (eC (.int 6)) aN)))) η).bind gL)) (eV 10)) aN)))) (eC (.int 0)))) (sSet 9 (l2 pAdd (eV 9) (eV 11))) sNx)
      [.val (Sd ns), x1, x2, x3, x4, .val (.int hh), x6, x7, x8, .val (.str ""), s10, s11, s12] = some (.nx [.val (Sd ns), x1, x2, x3, x4, .val (.int hh), x6, x7, x8, .val (.str m), u, v, s12]) := by
  have inv := sGo_all (t := tgT (tgCons (tgN 10) (tgCons (tgN 11) tgNil)))
    (body := (sIf (bT (l2 pEq (lA F__law_drawn (aC (eV 0) (aC (l2 pAdd (l2 pAdd (eV 5) (eC (.int 5))) (eV 10)) (aC (l2 pIx (oE (fun η => ((aC (eC (.int 4)) (aC (eC (.int 2)) (aC (eC (.int 9)) (aC (eC (.int 6)) aN)))) η).bind gL)) (eV 10)) aN)))) (eC (.int 0)))) (sSet 9 (l2 pAdd (eV 9) (eV 11))) sNx))
    (fun (j : Nat) => PyData.tuple [.int (j : Nat), .str (sg4 j)])
    (fun done η => ∃ (m : Str) (u v : Sl), (PyData.strOk m = true ∧ ∃ bs : List Bool, bs.length = done.length ∧ m = mkS bs) ∧ m.length ≤ done.length ∧ η = [.val (Sd ns), x1, x2, x3, x4, .val (.int hh), x6, x7, x8, .val (.str m), u, v, s12])
    [0, 1, 2, 3] ?_ (η := [.val (Sd ns), x1, x2, x3, x4, .val (.int hh), x6, x7, x8, .val (.str ""), s10, s11, s12]) ⟨"", s10, s11, ⟨by decide +kernel, [], rfl, rfl⟩, by decide +kernel, rfl⟩
  · obtain ⟨η', e1, m, u, v, hm, _, rfl⟩ := inv
    refine ⟨m, u, v, ⟨hm.1, hm.2⟩, for_of (ds := [0, 1, 2, 3].map fun (j : Nat) => PyData.tuple [.int (j : Nat), .str (sg4 j)]) cfhl e1⟩
  · rintro done j rest η hall ⟨m, u, v, hm, hml, rfl⟩
    have hj : j ∈ [0, 1, 2, 3] := by rw [hall]; simp
    have hdl : done.length ≤ 3 := by
      have := congrArg List.length hall
      simp at this
      omega
    have hjd : j = done.length := by
      match done, hall, hdl with
      | [], hall, _ => simp at hall; simp [hall.1]
      | [_], hall, _ => simp at hall; simp [hall.2.1]
      | [_, _], hall, _ => simp at hall; simp [hall.2.2.1]
      | [_, _, _], hall, _ => simp at hall; simp [hall.2.2.2.1]
    obtain ⟨hm, bs, hbs, hmm⟩ := hm
    have hmod : ∃ q : Int, 0 < q ∧ l2 pIx (oE (fun η => ((aC (eC (.int 4)) (aC (eC (.int 2)) (aC (eC (.int 9)) (aC (eC (.int 6)) aN)))) η).bind gL)) (eV 10) [.val (Sd ns), x1, x2, x3, x4, .val (.int hh), x6, x7, x8, .val (.str m), .val (.int (j : Nat)), .val (.str (sg4 j)), s12] = some (.int q) := by
      have eo : oE (fun η => ((aC (eC (.int 4)) (aC (eC (.int 2)) (aC (eC (.int 9)) (aC (eC (.int 6)) aN)))) η).bind gL) [.val (Sd ns), x1, x2, x3, x4, .val (.int hh), x6, x7, x8, .val (.str m), .val (.int (j : Nat)), .val (.str (sg4 j)), s12] = some (.list [.int 4, .int 2, .int 9, .int 6]) := by
        have : gL [.int 4, .int 2, .int 9, .int 6] = some [.int 4, .int 2, .int 9, .int 6] := if_pos (by show 4 ≤ sizeLine; decide)
        show Option.bind (gL [.int 4, .int 2, .int 9, .int 6]) _ = _
        rw [this]; rfl
      simp at hj
      rcases hj with rfl | rfl | rfl | rfl
      · exact ⟨4, by decide, l2_of eo rfl rfl⟩
      · exact ⟨2, by decide, l2_of eo rfl rfl⟩
      · exact ⟨9, by decide, l2_of eo rfl rfl⟩
      · exact ⟨6, by decide, l2_of eo rfl rfl⟩
    obtain ⟨q, hq, eq⟩ := hmod
    obtain ⟨r, hr, er⟩ := drawn_ok hn (k := hh + 5 + (j : Nat)) (m := q) (by omega) hq
    have eb : bT (l2 pEq (lA F__law_drawn (aC (eV 0) (aC (l2 pAdd (l2 pAdd (eV 5) (eC (.int 5))) (eV 10)) (aC (l2 pIx (oE (fun η => ((aC (eC (.int 4)) (aC (eC (.int 2)) (aC (eC (.int 9)) (aC (eC (.int 6)) aN)))) η).bind gL)) (eV 10)) aN)))) (eC (.int 0)))
        [.val (Sd ns), x1, x2, x3, x4, .val (.int hh), x6, x7, x8, .val (.str m), .val (.int (j : Nat)), .val (.str (sg4 j)), s12] = some ((r : Int) == 0) :=
      bT_of (l2_of (lA_of (aC_of rfl (aC_of (l2_of (l2_of rfl rfl rfl) rfl rfl) (aC_of eq rfl))) er) rfl (pEq_int _ _))
    refine ⟨[.val (Sd ns), x1, x2, x3, x4, .val (.int hh), x6, x7, x8, .val (.str m), .val (.int (j : Nat)), .val (.str (sg4 j)), s12], ?_⟩
    by_cases h0 : (r : Int) == 0
    · refine ⟨[.val (Sd ns), x1, x2, x3, x4, .val (.int hh), x6, x7, x8, .val (.str (m ++ sg4 j)), .val (.int (j : Nat)), .val (.str (sg4 j)), s12], rfl, ?_, m ++ sg4 j, _, _, ⟨strOk_app hm (sg4_ok j hj), true :: bs, by simp [hbs], by rw [hmm, hjd, ← hbs]; rfl⟩, ?_, rfl⟩
      · rw [if_of eb, if_pos h0]
        refine set_of (d := .str (m ++ sg4 j)) (l2_of rfl rfl ?_)
        show (if m.length + (sg4 j).length ≤ sizeLine then some (PyData.str (m ++ sg4 j)) else none) = _
        rw [if_pos (by rw [sg4_len]; exact big (by omega))]
      · rw [len_app, sg4_len, List.length_append]
        simpa using hml
    · refine ⟨[.val (Sd ns), x1, x2, x3, x4, .val (.int hh), x6, x7, x8, .val (.str m), .val (.int (j : Nat)), .val (.str (sg4 j)), s12], rfl, ?_, m, _, _, ⟨hm, false :: bs, by simp [hbs], by rw [hmm]; exact mkS_false bs⟩, ?_, rfl⟩
      · rw [if_of eb, if_neg h0]; rfl
      · rw [List.length_append]; simp; omega
end
end K01
namespace K01
open PySem L2 L2.PU
noncomputable def tup1 : List PyData → Option PyData := fun ds => if ds.length ≤ sizeLine then some (.tuple ds) else none
theorem tup1_ok {ds : List PyData} (h : ds.length ≤ 3000000) : (if ds.length ≤ sizeLine then some (PyData.tuple ds) else none) = some (.tuple ds) := if_pos (big h)
theorem gL_ok {ds : List PyData} (h : ds.length ≤ 3000000) : gL ds = some ds := if_pos (big h)
theorem addL {a b : List PyData} (h : a.length + b.length ≤ 3000000) : pAdd (.list a) (.list b) = some (.list (a ++ b)) := if_pos (big h)
theorem addT {a b : List PyData} (h : a.length + b.length ≤ 3000000) : pAdd (.tuple a) (.tuple b) = some (.tuple (a ++ b)) := if_pos (big h)
theorem oE_of {f : En → Option (List PyData)} {η : En} {ds : List PyData} (h : f η = some ds) : oE f η = some (.list ds) := by
  unfold oE
  rw [h]; rfl
theorem comp_eq {mp : List (Option Nat)} {fi : En → Option (List PyData)} {t : En → PyData → Option En} {p : En → Option Bool} {f : En → Option PyData} {η : En} {ds : List PyData} {r : Option (List PyData)} (h1 : fi η = some ds) (hz : ds.length ≤ 3000000) (h2 : cGo t p f (inEn mp η) ds = r) : sComp mp fi t p f η = r := by
  unfold sComp
  rw [h1, Option.bind_some, if_pos (big hz)]
  exact h2
noncomputable def sBody (fn__law_drawn : List PyData → Option PyData) : En → Option Out :=
  (sSeq (sSet 5 (l2 pAdd (l2 pAdd (eV 1) (eC (.int 3))) (l2 pMul (eC (.int 9)) (eV 4))))
    (sSeq (sSet 6 (l2 pIx (l2 pAdd (oE (fun η => ((aC (eC (.str "")) aN) η).bind gL)) (oE (sComp [none] (lI asTu (eV 2)) (tgN 0) tTrue (l2 pIx (eV 0) (eC (.int 0)))))) (lA fn__law_drawn (aC (eV 0) (aC (eV 5) (aC (l2 pAdd (eV 4) (eC (.int 1))) aN))))))
    (sSeq (sSetO 7 (sComp [none, some 0, some 5] (fun η => ((aC (eC (.int 2)) aN) η).bind rng1) (tgN 0) tTrue (l2 pSub (lA fn__law_drawn (aC (eV 1) (aC (l2 pAdd (l2 pAdd (eV 2) (eC (.int 1))) (eV 0)) (aC (eC (.int 9)) aN)))) (eC (.int 3)))))
    (fun η => (sSeq (sSetO 8 (sComp [none, some 0, some 5] (fun η => ((aC (eC (.int 2)) aN) η).bind rng1) (tgN 0) tTrue (lA fn__law_drawn (aC (eV 1) (aC (l2 pAdd (l2 pAdd (eV 2) (eC (.int 3))) (eV 0)) (aC (eC (.int 9)) aN))))))
    (fun η => (sSeq (sSet 9 (eC (.str "")))
    (sSeq (sFor (fun η => ((aC (eC (.str "cfhl")) aN) η).bind enS) (tgT (tgCons (tgN 10) (tgCons (tgN 11) tgNil)))
    (sIf (bT (l2 pEq (lA fn__law_drawn (aC (eV 0) (aC (l2 pAdd (l2 pAdd (eV 5) (eC (.int 5))) (eV 10)) (aC (l2 pIx (oE (fun η => ((aC (eC (.int 4)) (aC (eC (.int 2)) (aC (eC (.int 9)) (aC (eC (.int 6)) aN)))) η).bind gL)) (eV 10)) aN)))) (eC (.int 0)))) (sSet 9 (l2 pAdd (eV 9) (eV 11))) sNx))
    (sSeq (sSet 12 (l2 pIx (eC (.str "dbgahcfe")) (l2 pMod (l2 pAdd (eV 4) (eV 3)) (eC (.int 8)))))
    (sSet 2 (l2 pAdd (eV 2) (lA (fun ds => if ds.length ≤ sizeLine then some (.tuple ds) else none) (aC (l2 pAdd (l2 pAdd (lA (fun ds => if ds.length ≤ sizeLine then some (.tuple ds) else none) (aC (eV 12) (aC (eV 6) aN))) (lA pTup (aC (l2 pAdd (eV 7) (eV 8)) aN))) (lA (fun ds => if ds.length ≤ sizeLine then some (.tuple ds) else none) (aC (eV 9) aN))) aN))))))) (frz 8 η))) (frz 7 η)))))
section
variable {ns : List Int} (hn : ns.length ≤ 63)
include hn
theorem two_ok {f : En → Option PyData} {η : En} {mp : List (Option Nat)} (lo hi : Int) (h : ∀ k : Nat, k < 2 → ∃ y, (lo ≤ y ∧ y ≤ hi) ∧ f ((inEn mp η).set 0 (.val (.int (0 + (k : Nat))))) = some (.int y)) : ∃ a b : Int, ((lo ≤ a ∧ a ≤ hi) ∧ (lo ≤ b ∧ b ≤ hi)) ∧ sComp mp (fun η => ((aC (eC (.int 2)) aN) η).bind rng1) (tgN 0) tTrue f η = some [.int a, .int b] := by
  obtain ⟨a, ha, ea⟩ := h 0 (by decide)
  obtain ⟨b, hb, eb⟩ := h 1 (by decide)
  refine ⟨a, b, ⟨ha, hb⟩, comp_eq (ds := rngL 0 2) (rng1_ok (j := 2) (by decide) (by decide)) (by decide) ?_⟩
  have := cGo_map (t := tgN 0) (p := tTrue) (f := f) (η := inEn mp η) (fun (k : Nat) => PyData.int (0 + (k : Nat))) (fun _ => true) (fun k => .int (if k = 0 then a else b)) (List.range 2) fun k hk => by
    refine ⟨_, rfl, rfl, fun _ => ?_⟩
    have hk := List.mem_range.mp hk
    rcases (show k = 0 ∨ k = 1 by omega) with rfl | rfl
    · exact ea
    · exact eb
  exact this
theorem scene_ok : ∃ (c : Dr) (tn : Nat), c.Ok ∧ c.nm = nmT tn ∧ c.ps.length ≤ 7 ∧ F__law_scene [Sd ns, .int 0] = some c.d := by
  obtain ⟨tn, htn, et⟩ := drawn_ok hn (k := 0 + 1) (m := 8) (by decide) (by decide)
  obtain ⟨n, hnn, en⟩ := drawn_ok hn (k := 0) (m := 8) (by decide) (by decide)
  have main := sGo_rng (t := tgN 4) (body := sBody F__law_drawn) (fun k η => ∃ (c : Dr) (s4 s5 s6 s7 s8 s9 s10 s11 s12 : Sl), c.Ok ∧ c.nm = nmT tn ∧ c.ps.length = k ∧ η = [.val (Sd ns), .val (.int 0), .val c.d, .val (.int tn), s4, s5, s6, s7, s8, s9, s10, s11, s12]) n ?st
    (η := [.val (Sd ns), .val (.int 0), .val (.tuple []), .val (.int tn), .un, .un, .un, .un, .un, .un, .un, .un, .un]) ⟨⟨[], nmT tn, fun _ => 0, fun _ => 0, fun _ => 0, fun _ => 0, fun _ => ""⟩, .un, .un, .un, .un, .un, .un, .un, .un, .un,
      ⟨nmT_inj tn, rfl, nmT_ok tn, fun _ => nmT_ok 0 0, by simp, fun _ => by simp, fun _ => by show bd 0 0 0 0; unfold bd; decide, fun _ => ⟨[false, false, false, false], rfl, by show ("" : Str) = mkS [false, false, false, false]; decide +kernel⟩⟩, rfl, rfl, rfl⟩
  case st =>
    rintro k η hk ⟨c, s4, s5, s6, s7, s8, s9, s10, s11, s12, hc, hnm, hlen, rfl⟩
    have hk7 : k < 7 := by omega
    refine ⟨[.val (Sd ns), .val (.int 0), .val c.d, .val (.int tn), .val (.int (0 + (k : Nat))), s5, s6, s7, s8, s9, s10, s11, s12], ?_⟩
    have hh : l2 pAdd (l2 pAdd (eV 1) (eC (.int 3))) (l2 pMul (eC (.int 9)) (eV 4)) [.val (Sd ns), .val (.int 0), .val c.d, .val (.int tn), .val (.int (0 + (k : Nat))), s5, s6, s7, s8, s9, s10, s11, s12] = some (.int (0 + 3 + 9 * (0 + (k : Nat)))) :=
      l2_of (l2_of rfl rfl rfl) (l2_of rfl rfl (pMul_ok (mulL (by decide) (by decide)))) rfl
    generalize hhe : (0 + 3 + 9 * (0 + (k : Nat)) : Int) = hr at hh
    have hr0 : 0 ≤ hr := by omega
    obtain ⟨p, hp, ep⟩ := drawn_ok hn (k := hr) (m := 0 + (k : Nat) + 1) hr0 (by omega)
    have hp' : p ≤ k := by omega
    have ea : l2 pIx (l2 pAdd (oE (fun η => ((aC (eC (.str "")) aN) η).bind gL)) (oE (sComp [none] (lI asTu (eV 2)) (tgN 0) tTrue (l2 pIx (eV 0) (eC (.int 0)))))) (lA F__law_drawn (aC (eV 0) (aC (eV 5) (aC (l2 pAdd (eV 4) (eC (.int 1))) aN))))
        [.val (Sd ns), .val (.int 0), .val c.d, .val (.int tn), .val (.int (0 + (k : Nat))), .val (.int hr), s6, s7, s8, s9, s10, s11, s12] = some (c.s p) := by
      have e1 : oE (fun η => ((aC (eC (.str "")) aN) η).bind gL) [.val (Sd ns), .val (.int 0), .val c.d, .val (.int tn), .val (.int (0 + (k : Nat))), .val (.int hr), s6, s7, s8, s9, s10, s11, s12] = some (.list [c.s 0]) := by
        refine oE_of ?_
        show gL [.str ""] = _
        rw [gL_ok (by decide)]
        unfold Dr.s
        rw [hc.top]
      have e2 : oE (sComp [none] (lI asTu (eV 2)) (tgN 0) tTrue (l2 pIx (eV 0) (eC (.int 0)))) [.val (Sd ns), .val (.int 0), .val c.d, .val (.int tn), .val (.int (0 + (k : Nat))), .val (.int hr), s6, s7, s8, s9, s10, s11, s12] = some (.list ((List.range k).map fun i => c.s (i + 1))) := by
        refine oE_of (comp_eq (ds := (List.range c.ps.length).map c.box) rfl (by rw [List.length_map, List.length_range]; omega) ?_)
        rw [hlen]
        have := cGo_map (t := tgN 0) (p := tTrue) (f := l2 pIx (eV 0) (eC (.int 0))) (η := [.un]) c.box (fun _ => true) (fun i => c.s (i + 1)) (List.range k) fun i _ => ⟨_, rfl, rfl, fun _ => rfl⟩
        rw [show (List.range k).filter (fun _ => true) = List.range k by simp] at this
        exact this
      refine l2_of (l2_of e1 e2 (addL (by simp; omega))) (lA_of (aC_of rfl (aC_of rfl (aC_of (l2_of rfl rfl rfl) rfl))) ep) ?_
      show atI ([c.s 0] ++ (List.range k).map fun i => c.s (i + 1)) (p : Int) = _
      refine atI_nat ?_
      cases p with
      | zero => rfl
      | succ j =>
        show ((List.range k).map fun i => c.s (i + 1))[j]? = _
        rw [List.getElem?_map, List.getElem?_range (by omega)]
        rfl
    obtain ⟨pa, pb, hbp, epl⟩ := two_ok hn (-3) 5 (mp := [none, some 0, some 5]) (f := l2 pSub (lA F__law_drawn (aC (eV 1) (aC (l2 pAdd (l2 pAdd (eV 2) (eC (.int 1))) (eV 0)) (aC (eC (.int 9)) aN)))) (eC (.int 3)))
      (η := [.val (Sd ns), .val (.int 0), .val c.d, .val (.int tn), .val (.int (0 + (k : Nat))), .val (.int hr), .val (c.s p), s7, s8, s9, s10, s11, s12]) fun j hj => by
        obtain ⟨r, hr9, er⟩ := drawn_ok hn (k := hr + 1 + (0 + (j : Nat))) (m := 9) (by omega) (by decide)
        exact ⟨(r : Int) - 3, by omega, l2_of (lA_of (aC_of rfl (aC_of (l2_of (l2_of rfl rfl rfl) rfl rfl) (aC_of rfl rfl))) er) rfl rfl⟩
    obtain ⟨sa, sb, hbs, esz⟩ := two_ok hn 0 8 (mp := [none, some 0, some 5]) (f := lA F__law_drawn (aC (eV 1) (aC (l2 pAdd (l2 pAdd (eV 2) (eC (.int 3))) (eV 0)) (aC (eC (.int 9)) aN))))
      (η := [.val (Sd ns), .val (.int 0), .val c.d, .val (.int tn), .val (.int (0 + (k : Nat))), .val (.int hr), .val (c.s p), .val (.list [.int pa, .int pb]), s8, s9, s10, s11, s12]) fun j hj => by
        obtain ⟨r, hr9, er⟩ := drawn_ok hn (k := hr + 3 + (0 + (j : Nat))) (m := 9) (by omega) (by decide)
        exact ⟨(r : Int), by omega, lA_of (aC_of rfl (aC_of (l2_of (l2_of rfl rfl rfl) rfl rfl) (aC_of rfl rfl))) er⟩
    obtain ⟨m, u, v, hm, em⟩ := marks_ok hn (x1 := .val (.int 0)) (x2 := .val c.d) (x3 := .val (.int tn)) (x4 := .val (.int (0 + (k : Nat)))) (x6 := .val (c.s p)) (x7 := .val (.list [.int pa, .int pb])) (x8 := .val (.list [.int sa, .int sb])) hr0 s10 s11 s12
    have enm : l2 pIx (eC (.str "dbgahcfe")) (l2 pMod (l2 pAdd (eV 4) (eV 3)) (eC (.int 8))) [.val (Sd ns), .val (.int 0), .val c.d, .val (.int tn), .val (.int (0 + (k : Nat))), .val (.int hr), .val (c.s p), .val (.list [.int pa, .int pb]), .val (.list [.int sa, .int sb]), .val (.str m), u, v, s12] = some (c.s (k + 1)) := by
      refine l2_of rfl (l2_of (l2_of rfl rfl rfl) rfl (pMod_ok (by decide))) ?_
      show (if ("dbgahcfe" : Str).length ≤ sizeLine then (atI ("dbgahcfe" : Str).cps.toList ((0 + (k : Nat) + (tn : Int)) % 8)).bind _ else none) = _
      rw [if_pos dbg_len, dbg]
      have e8 : ((0 + (k : Nat) + (tn : Int)) % 8 : Int) = (((k + tn) % 8 : Nat) : Int) := by omega
      have hlt : (k + tn) % 8 < 8 := Nat.mod_lt _ (by decide)
      rw [e8, atI_nat (v := let8.getD ((k + tn) % 8) 0) (by rw [List.getD_eq_getElem?_getD, List.getElem?_eq_getElem (show (k + tn) % 8 < let8.length from hlt)]; rfl)]
      unfold Dr.s
      rw [hnm, nmT_lo (by omega)]
      rfl
    have hcd : c.d = .tuple ((List.range c.ps.length).map c.box) := rfl
    have efin : l2 pAdd (eV 2) (lA (fun ds => if ds.length ≤ sizeLine then some (.tuple ds) else none) (aC (l2 pAdd (l2 pAdd (lA (fun ds => if ds.length ≤ sizeLine then some (.tuple ds) else none) (aC (eV 12) (aC (eV 6) aN))) (lA pTup (aC (l2 pAdd (eV 7) (eV 8)) aN))) (lA (fun ds => if ds.length ≤ sizeLine then some (.tuple ds) else none) (aC (eV 9) aN))) aN))
        [.val (Sd ns), .val (.int 0), .val c.d, .val (.int tn), .val (.int (0 + (k : Nat))), .val (.int hr), .val (c.s p), .val (.list [.int pa, .int pb]), .val (.list [.int sa, .int sb]), .val (.str m), u, v, .val (c.s (k + 1))] = some (c.more p pa pb sa sb m).d := by
      rw [Dr.more_d]
      refine l2_of (x := c.d) rfl (lA_of (aC_of (l2_of (l2_of (lA_of (aC_of rfl (aC_of rfl rfl)) (tup1_ok (by simp))) (lA_of (aC_of (l2_of rfl rfl (addL (by simp))) rfl) rfl) (addT (by simp))) (lA_of (aC_of rfl rfl) (tup1_ok (by simp))) (addT (by simp))) rfl) (tup1_ok (by simp))) ?_
      rw [hcd]
      refine (addT (by simp; omega)).trans ?_
      rw [hlen]
      rfl
    refine ⟨[.val (Sd ns), .val (.int 0), .val (c.more p pa pb sa sb m).d, .val (.int tn), .val (.int (0 + (k : Nat))), .val (.int hr), .val (c.s p), .val (.list [.int pa, .int pb]), .val (.list [.int sa, .int sb]), .val (.str m), u, v, .val (c.s (k + 1))], rfl, ?_,
      c.more p pa pb sa sb m, _, _, _, _, _, _, _, _, _, Dr.more_ok hc (by omega) (by omega) pa pb sa sb hm.1 ⟨hbp.1, hbp.2, hbs.1, hbs.2⟩ hm.2, hnm, by simp [Dr.more, hlen], rfl⟩
    refine seq_of (set_of hh) (seq_of (set_of ea) (seq_of (setO_of epl) ?_))
    refine seq_of (setO_of esz) ?_
    refine seq_of (set_of rfl) (seq_of em (seq_of (set_of enm) (set_of efin)))
  obtain ⟨η', e1, c, s4, s5, s6, s7, s8, s9, s10, s11, s12, hc, hnm, hlen, rfl⟩ := main
  refine ⟨c, tn, hc, hnm, by omega, ?_⟩
  unfold F__law_scene runF
  rw [if_pos (by rfl)]
  show Option.bind (g__law_scene F__law_drawn [.val (Sd ns), .val (.int 0), .un, .un, .un, .un, .un, .un, .un, .un, .un, .un, .un]) _ = _
  have e2 : g__law_scene F__law_drawn [.val (Sd ns), .val (.int 0), .un, .un, .un, .un, .un, .un, .un, .un, .un, .un, .un] = some (.rt c.d) := by
    refine seq_of (set_of (lA_of rfl (tup1_ok (by decide)))) (seq_of (set_of (lA_of (aC_of rfl (aC_of (l2_of rfl rfl rfl) (aC_of rfl rfl))) et)) (seq_of (for_of ?_ e1) rfl))
    show Option.bind (aC (lA F__law_drawn _) aN _) rng1 = _
    rw [aC_of (lA_of (aC_of rfl (aC_of rfl (aC_of rfl rfl))) en) rfl]
    rw [Option.bind_some, rng1_ok (by omega) (by omega), Int.toNat_natCast]
  rw [e2]; rfl
end
end K01
namespace K01
open PySem L2 L2.PU
theorem ifF {c : En → Option Bool} {f g : En → Option Out} {η : En} (h : c η = some false) : sIf c f g η = g η := by
  rw [if_of h]; rfl
theorem eSl_of {f : En → Option PyData} {fl fh : En → Option (Option Int)} {η : En} {x d : PyData} {l h : Option Int} (h1 : f η = some x) (h2 : fl η = some l) (h3 : fh η = some h) (h4 : pSl x l h = some d) : eSl f fl fh η = some d := by
  unfold eSl
  rw [h1, Option.bind_some, h2, Option.bind_some, h3]; exact h4
theorem pS_of {f : En → Option PyData} {η : En} {i : Int} (h : f η = some (.int i)) : pS f η = some (some i) := by
  unfold pS
  rw [h]; rfl
theorem lI_of {k : PyData → Option (List PyData)} {f : En → Option PyData} {η : En} {d : PyData} {ds : List PyData} (h : f η = some d) (h2 : k d = some ds) : lI k f η = some ds := by
  unfold lI
  rw [h]; exact h2
end K01
namespace K01
open PySem L2 L2.PU
theorem bind_of {α β : Type} {o : Option α} {k : α → Option β} {x : α} {r : Option β} (h : o = some x) (h2 : k x = r) : o.bind k = r := by
  rw [h]; exact h2
theorem l1_of {o : PyData → Option PyData} {f : En → Option PyData} {η : En} {x d : PyData} (h1 : f η = some x) (h2 : o x = some d) : l1 o f η = some d := by
  unfold l1
  rw [h1]; exact h2
theorem pNe_self {d : PyData} (h : SeqAt.shaped d = true) : pNe d d = some (.bool false) := by
  unfold pNe
  rw [if_pos ⟨h, h⟩, SeqAt.eqv_refl d (SeqAt.canLay_of_shaped h)]; rfl
theorem ifN {c : En → Option Bool} {f : En → Option Out} {η : En} (h : c η = some false) : sIf c f sNx η = some (.nx η) := by
  rw [ifF h]; rfl
theorem bNot_of {f : En → Option Bool} {η : En} {b : Bool} (h : f η = some b) : bNot f η = some (!b) := by
  unfold bNot
  rw [h]; rfl
theorem bAnd_of {f g : En → Option Bool} {η : En} {a b : Bool} (h1 : f η = some a) (h2 : g η = some b) : bAnd f g η = some (a && b) := by
  unfold bAnd
  rw [h1]
  cases a with
  | false => rfl
  | true => exact h2
theorem vNot_of {f : En → Option PyData} {η : En} {b : Bool} (h : f η = some (.bool b)) : vNot f η = some (.bool (!b)) := by
  unfold vNot
  rw [h]; rfl
theorem vAnd_of {f g : En → Option PyData} {η : En} {a b : Bool} (h1 : f η = some (.bool a)) (h2 : g η = some (.bool b)) : vAnd f g η = some (.bool (a && b)) := by
  unfold vAnd
  rw [h1]
  cases a with
  | false => rfl
  | true => exact h2
theorem run_of {n m : Nat} {g : En → Option Out} {ds : List PyData} {d : PyData} (hl : ds.length = n) (h : g (ds.map Sl.val ++ List.replicate (m - n) .un) = some (.rt d)) : runF n m g ds = some d := by
  unfold runF
  rw [if_pos hl, h]; rfl
theorem ret_of {f : En → Option PyData} {η : En} {d : PyData} (h : f η = some d) : sRet f η = some (.rt d) := by
  unfold sRet
  rw [h]; rfl
theorem cGo_mapT {ι : Type} {t : En → PyData → Option En} {f : En → Option PyData} {η : En} (D : ι → PyData) (Y : ι → PyData) (xs : List ι) (h : ∀ x ∈ xs, ∃ η1, t η (D x) = some η1 ∧ f η1 = some (Y x)) : cGo t tTrue f η (xs.map D) = some (xs.map Y) := by
  have := cGo_map (t := t) (p := tTrue) (f := f) (η := η) D (fun _ => true) Y xs fun x hx => by
    obtain ⟨η1, h1, h2⟩ := h x hx
    exact ⟨η1, h1, rfl, fun _ => h2⟩
  rw [show xs.filter (fun _ => true) = xs by simp] at this
  exact this
noncomputable def inM (s m : Str) : Bool := !(Builtin.Str.occurrences m s 0 m.length 1).isEmpty
theorem pIn_m (neg : Bool) (s m : Str) : pIn neg (.str s) (.str m) = some (.bool (if neg then !inM s m else inM s m)) := rfl
end K01
namespace K01
open PySem L2 L2.PU
noncomputable def Dr.sc (c : Dr) : Sc := ⟨stF c.ps, c.nm, fun i => c.L (i - 1), fun i => c.T (i - 1), fun i => c.W (i - 1), fun i => c.H (i - 1), fun i => c.mr (i - 1)⟩
end K01
namespace K01
open PySem L2 L2.PU
noncomputable abbrev cp (s : Str) : List Nat := s.cps.toList
noncomputable abbrev EM : Str := ""
noncomputable def SP : Str := ⟨#[32]⟩
noncomputable def NL : Str := ⟨#[10]⟩
theorem jn (sep : Str) (l : List Str) : Txt.join sep l = Str.join sep l := StrLaws.glued_eq_join sep l
theorem fold_le (k b : Nat) : ∀ (l : List Str) (a : Nat), (∀ x ∈ l, x.length ≤ b) → l.foldl (fun n x => n + x.length + k) a ≤ a + l.length * (b + k)
  | [], a, _ => by simp
  | x :: r, a, h => by
    have h1 := h x List.mem_cons_self
    have h2 := fold_le k b r (a + x.length + k) fun y hy => h y (List.mem_cons_of_mem _ hy)
    rw [List.foldl_cons, List.length_cons, Nat.add_mul]
    omega
theorem join_ok {sep : Str} {l : List Str} {b : Nat} (h : ∀ x ∈ l, x.length ≤ b) (hz : l.length * (b + sep.length) ≤ 3000000) : JoinOk sep l = true := by
  unfold JoinOk Builtin.Str.tooLong
  have e := fold_le sep.length b l 0 h
  rw [List.foldl_toArray]
  have hb := big hz
  simp only [Bool.not_eq_true', decide_eq_false_iff_not]
  show ¬ (l.foldl (fun n x => n + x.length + sep.length) 0 > sizeLine)
  omega
theorem asSs_strs : ∀ ss : List Str, asSs (ss.map PyData.str) = some ss
  | [] => rfl
  | x :: r => by
    show (asSs (r.map PyData.str)).bind _ = _
    rw [asSs_strs r]; rfl
theorem pJoin_of {sep : Str} {l : List Str} {b : Nat} (h : ∀ x ∈ l, x.length ≤ b) (hz : l.length * (b + sep.length) ≤ 3000000) : pJoin (.str sep) (.list (l.map PyData.str)) = some (.str (Str.join sep l)) := by
  unfold pJoin
  dsimp only
  rw [asSs_strs, Option.bind_some, if_pos (join_ok h hz), jn]
end K01
namespace K01
open PySem L2 L2.PU
mutual
noncomputable def sm : PyData → Bool
  | .none => true
  | .bool _ => true
  | .int _ => true
  | .str s => PyData.strOk s && decide (s.length ≤ 1000)
  | .list xs => smA xs && decide (xs.length ≤ 1000)
  | .tuple xs => smA xs && decide (xs.length ≤ 1000)
  | .dict _ => false
noncomputable def smA : List PyData → Bool
  | [] => true
  | x :: r => sm x && smA r
end
theorem smA_iff : ∀ l : List PyData, smA l = true ↔ ∀ x ∈ l, sm x = true
  | [] => by simp [smA]
  | x :: r => by
    have ih := smA_iff r
    unfold smA
    rw [Bool.and_eq_true, ih]
    simp
mutual
theorem sm_can : ∀ d : PyData, sm d = true → PyData.canLay0 d = true
  | .none, _ => rfl
  | .bool _, _ => rfl
  | .int _, _ => rfl
  | .str s, h => by
    unfold sm at h
    rw [Bool.and_eq_true] at h
    exact h.1
  | .list xs, h => by
    unfold sm at h
    rw [Bool.and_eq_true] at h
    exact smA_can xs h.1
  | .tuple xs, h => by
    unfold sm at h
    rw [Bool.and_eq_true] at h
    exact smA_can xs h.1
  | .dict _, h => by unfold sm at h; cases h
theorem smA_can : ∀ l : List PyData, smA l = true → PyData.canLayAll0 l = true
  | [], _ => rfl
  | x :: r, h => by
    unfold smA at h
    rw [Bool.and_eq_true] at h
    unfold PyData.canLayAll0
    rw [sm_can x h.1, smA_can r h.2]; rfl
end
theorem sm_tup {ds : List PyData} (h1 : ∀ x ∈ ds, sm x = true) (h2 : ds.length ≤ 1000) : sm (.tuple ds) = true := by
  unfold sm
  rw [(smA_iff ds).mpr h1, decide_eq_true h2]; rfl
theorem sm_lst {ds : List PyData} (h1 : ∀ x ∈ ds, sm x = true) (h2 : ds.length ≤ 1000) : sm (.list ds) = true := by
  unfold sm
  rw [(smA_iff ds).mpr h1, decide_eq_true h2]; rfl
theorem tup_sm {ds : List PyData} (h : sm (.tuple ds) = true) : (∀ x ∈ ds, sm x = true) ∧ ds.length ≤ 1000 := by
  unfold sm at h
  rw [Bool.and_eq_true, smA_iff, decide_eq_true_eq] at h
  exact h
theorem str_sm {s : Str} (h : sm (.str s) = true) : PyData.strOk s = true ∧ s.length ≤ 1000 := by
  unfold sm at h
  rw [Bool.and_eq_true, decide_eq_true_eq] at h
  exact h
theorem bOr2 {f g : En → Option Bool} {η : En} {a b : Bool} (h1 : f η = some a) (h2 : a = false → g η = some b) : bOr f g η = some (a || b) := by
  unfold bOr
  rw [h1]
  cases a with
  | false => exact h2 rfl
  | true => rfl
theorem retIf {cnd : En → Option Bool} {k : En → Option Out} {η : En} {b : Bool} {r : Bool} (hc : cnd η = some b) (hk : b = false → k η = some (.rt (.bool r))) :
    sSeq (sIf cnd (sRet (eC (.bool false))) sNx) k η = some (.rt (.bool (!b && r))) := by
  cases b with
  | true =>
    unfold sSeq sIf
    rw [hc]; rfl
  | false =>
    rw [seq_of (ifN hc) (hk rfl)]; rfl
theorem lchLL {f g h : En → Option PyData} {η : En} {i j k : Int} (hf : f η = some (.int i)) (hg : g η = some (.int j)) (hh : h η = some (.int k)) : lch pLe pLe f g h η = some (.bool (decide (i ≤ j) && decide (j ≤ k))) := by
  unfold lch
  rw [hf, Option.bind_some, hg, Option.bind_some]
  have e1 : pLe (.int i) (.int j) = some (.bool (decide (i ≤ j))) := rfl
  have e2 : pLe (.int j) (.int k) = some (.bool (decide (j ≤ k))) := rfl
  rw [e1]
  cases decide (i ≤ j) with
  | false => rfl
  | true =>
    show (h η).bind _ = _
    rw [hh]; exact e2
noncomputable def LET : Str := "abcdefghijklmnopqrstuvwxyz"
noncomputable def nameB (z : Str) : Bool := (decide (1 ≤ z.length) && decide (z.length ≤ 3)) && z.cps.toList.all fun ch => inM ⟨#[ch]⟩ LET
noncomputable def mks : List Str := ["c", "f", "h", "l"]
noncomputable def mkJ (z : Str) : Str := Str.join "" (mks.filter fun m => inM m z)
noncomputable def marksB (z : Str) : Bool := decide (z = mkJ z)
noncomputable def nameP : PyData → Bool
  | .str z => nameB z
  | _ => false
noncomputable def marksP : PyData → Bool
  | .str z => marksB z
  | _ => false
noncomputable def wholeP (p : PyData) (lo hi : Int) : Bool := match p with
  | .int i => decide (lo ≤ i) && decide (i ≤ hi)
  | _ => false
theorem int_len (n : Nat) : (decide ((1 : Int) ≤ (n : Int)) && decide ((n : Int) ≤ 3)) = (decide (1 ≤ n) && decide (n ≤ 3)) := by
  have e1 : decide ((1 : Int) ≤ (n : Int)) = decide (1 ≤ n) := decide_eq_decide.mpr (by omega)
  have e2 : decide ((n : Int) ≤ 3) = decide (n ≤ 3) := decide_eq_decide.mpr (by omega)
  rw [e1, e2]
theorem nonstr {p : PyData} (h : isB "str" p = false) : nameP p = false ∧ marksP p = false := by
  cases p <;> first | exact ⟨rfl, rfl⟩ | (simp [isB, tyD] at h)
theorem isStr {p : PyData} (h : isB "str" p = true) : ∃ z, p = .str z := by
  cases p <;> first | exact ⟨_, rfl⟩ | (simp [isB, tyD] at h)
theorem isTup' {p : PyData} (h : isB "tuple" p = true) : ∃ z, p = .tuple z := by
  cases p <;> first | exact ⟨_, rfl⟩ | (simp [isB, tyD] at h)
theorem name_ok {p : PyData} (h : sm p = true) : F_is_name [p] = some (.bool (nameP p)) := by
  refine run_of rfl ?_
  show g_is_name [.val p] = _
  cases hs : isB "str" p with
  | false =>
    rw [(nonstr hs).1]
    exact (retIf (b := true) (r := true) (bOr2 (a := true) (b := true) (bNot_of (b := false) (bT_of (l1_of rfl (by show some (PyData.bool (isB "str" p)) = _; rw [hs])))) (fun z => by cases z)) (fun z => by cases z))
  | true =>
    obtain ⟨z, rfl⟩ := isStr hs
    obtain ⟨h1, h2⟩ := str_sm h
    have el : lch pLe pLe (eC (.int 1)) (lA pLen (aC (eV 0) aN)) (eC (.int 3)) [.val (.str z)] = some (.bool (decide (1 ≤ z.length) && decide (z.length ≤ 3))) := by
      rw [← int_len]
      refine lchLL rfl (lA_of (aC_of rfl rfl) ?_) rfl
      exact if_pos (big (by omega))
    refine (retIf (b := false || !(decide (1 ≤ z.length) && decide (z.length ≤ 3))) (r := z.cps.toList.all fun ch => inM ⟨#[ch]⟩ LET) (bOr2 (bNot_of (b := true) (bT_of (l1_of rfl (by show some (PyData.bool (isB "str" (.str z))) = _; rw [hs])))) fun _ => bNot_of (bT_of el)) fun hb => ?_).trans ?_
    · have hlen : z.length ≤ 3 := by
        simp only [Bool.false_or, Bool.not_eq_false', Bool.and_eq_true, decide_eq_true_eq] at hb
        exact hb.2
      have hc : sComp [none] (lI asSg (eV 0)) (tgN 0) tTrue (l2 (pIn false) (eV 0) (eC (.str "abcdefghijklmnopqrstuvwxyz"))) [.val (.str z)] = some ((z.cps.toList.map fun ch => inM ⟨#[ch]⟩ LET).map PyData.bool) := by
        refine comp_eq (ds := z.cps.toList.map fun ch => .str ⟨#[ch]⟩) rfl (by rw [List.length_map, Array.length_toList]; have : z.cps.size = z.length := rfl; omega) ?_
        refine (cGo_mapT (fun ch => PyData.str ⟨#[ch]⟩) (fun ch => .bool (inM ⟨#[ch]⟩ LET)) z.cps.toList fun ch _ => ⟨_, rfl, l2_of rfl rfl (pIn_m false _ _)⟩).trans ?_
        rw [List.map_map]; rfl
      refine ret_of (lA_of (aC_of (oE_of hc) rfl) ?_)
      show (asBs ((z.cps.toList.map fun ch => inM ⟨#[ch]⟩ LET).map PyData.bool)).bind _ = _
      have e : ∀ bs : List Bool, asBs (bs.map PyData.bool) = some bs := fun bs => by
        induction bs with
        | nil => rfl
        | cons b r ih => show (asBs (r.map PyData.bool)).bind _ = _; rw [ih]; rfl
      rw [e, Option.bind_some]
      show some (PyData.bool ((z.cps.toList.map fun ch => inM ⟨#[ch]⟩ LET).all id)) = _
      rw [List.all_map]; rfl
    · show some (Out.rt (PyData.bool _)) = some (Out.rt (PyData.bool ((decide (1 ≤ z.length) && decide (z.length ≤ 3)) && z.cps.toList.all fun ch => inM ⟨#[ch]⟩ LET)))
      cases (decide (1 ≤ z.length) && decide (z.length ≤ 3)) <;> rfl
theorem cfhl_s : asSg (.str "cfhl") = some (mks.map PyData.str) := by
  show some (signD "cfhl") = _
  have : signD "cfhl" = mks.map PyData.str := by
    unfold signD mks
    rw [show ("cfhl" : Str).cps.toList = [99, 102, 104, 108] by decide +kernel]
    rw [show ("c" : Str) = ⟨#[99]⟩ by decide +kernel, show ("f" : Str) = ⟨#[102]⟩ by decide +kernel, show ("h" : Str) = ⟨#[104]⟩ by decide +kernel, show ("l" : Str) = ⟨#[108]⟩ by decide +kernel]
    rfl
  rw [this]
theorem em_ok : PyData.strOk "" = true := by decide +kernel
theorem em_len : ("" : Str).length = 0 := by decide +kernel
theorem mkJ_eq {f : En → Option PyData} {η : En} {z : Str} (hf : ∀ m, f [.val (.str m), .val (.str z)] = some (.str z)) (sel : inEn [none, some 0] η = [.un, .val (.str z)]) :
    l2 pJoin (eC (.str "")) (oE (sComp [none, some 0] (lI asSg (eC (.str "cfhl"))) (tgN 0) (bT (l2 (pIn false) (eV 0) f)) (eV 0))) η = some (.str (mkJ z)) := by
  have hc : sComp [none, some 0] (lI asSg (eC (.str "cfhl"))) (tgN 0) (bT (l2 (pIn false) (eV 0) f)) (eV 0) η = some ((mks.filter fun m => inM m z).map PyData.str) := by
    refine comp_eq (ds := mks.map PyData.str) (lI_of rfl cfhl_s) (by decide) ?_
    rw [sel]
    exact cGo_map PyData.str (fun m => inM m z) PyData.str mks fun m _ => ⟨[.val (.str m), .val (.str z)], rfl, bT_of (l2_of rfl (hf m) (pIn_m false m z)), fun _ => rfl⟩
  refine l2_of rfl (oE_of hc) (pJoin_of (b := 1) (fun s hs => ?_) ?_)
  · have hm := (List.mem_filter.mp hs).1
    simp only [mks, List.mem_cons, List.not_mem_nil, or_false] at hm
    rcases hm with rfl | rfl | rfl | rfl <;> decide +kernel
  · rw [em_len]
    have := List.length_filter_le (fun m => inM m z) mks
    have h4 : mks.length = 4 := rfl
    omega
theorem mkJ_ok (z : Str) : PyData.strOk (mkJ z) = true := by
  have gen : ∀ l : List Str, (∀ s ∈ l, PyData.strOk s = true) → PyData.strOk (Str.join "" l) = true := fun l => by
    induction l with
    | nil => intro _; show PyData.strOk Str.empty = true; decide +kernel
    | cons x r ih =>
      intro h
      cases r with
      | nil => exact h x List.mem_cons_self
      | cons y r => exact strOk_app (strOk_app (h x List.mem_cons_self) em_ok) (ih fun z hz => h z (List.mem_cons_of_mem _ hz))
  refine gen _ fun s hs => ?_
  have hm := (List.mem_filter.mp hs).1
  simp only [mks, List.mem_cons, List.not_mem_nil, or_false] at hm
  rcases hm with rfl | rfl | rfl | rfl <;> decide +kernel
theorem marks_ok' {p : PyData} (h : sm p = true) : F_is_marks [p] = some (.bool (marksP p)) := by
  refine run_of rfl ?_
  show g_is_marks [.val p] = _
  cases hs : isB "str" p with
  | false =>
    rw [(nonstr hs).2]
    exact (retIf (b := true) (r := true) (bNot_of (b := false) (bT_of (l1_of rfl (by show some (PyData.bool (isB "str" p)) = _; rw [hs])))) (fun z => by cases z))
  | true =>
    obtain ⟨z, rfl⟩ := isStr hs
    obtain ⟨h1, h2⟩ := str_sm h
    refine (retIf (b := false) (r := marksB z) (bNot_of (b := true) (bT_of (l1_of rfl (by show some (PyData.bool (isB "str" (.str z))) = _; rw [hs])))) fun _ => ?_).trans rfl
    exact ret_of (l2_of rfl (mkJ_eq (f := eV 1) (fun m => rfl) rfl) (pEq_str h1 (mkJ_ok z)))
theorem whole_ok (p : PyData) (lo hi : Int) : F_is_whole [p, .int lo, .int hi] = some (.bool (wholeP p lo hi)) := by
  refine run_of rfl ?_
  show g_is_whole [.val p, .val (.int lo), .val (.int hi)] = _
  cases p with
  | int i =>
    refine (retIf (b := false) (r := decide (lo ≤ i) && decide (i ≤ hi)) (bOr2 (a := false) (b := false) (bNot_of (b := true) (bT_of rfl)) fun _ => bT_of rfl) fun _ => ret_of (lchLL rfl rfl rfl)).trans rfl
  | bool b => exact (retIf (b := true) (r := true) (bOr2 (a := false) (b := true) (bNot_of (b := true) (bT_of rfl)) fun _ => bT_of rfl) fun z => by cases z)
  | none => exact (retIf (b := true) (r := true) (bOr2 (a := true) (b := true) (bNot_of (b := false) (bT_of rfl)) fun z => by cases z) fun z => by cases z)
  | str s => exact (retIf (b := true) (r := true) (bOr2 (a := true) (b := true) (bNot_of (b := false) (bT_of rfl)) fun z => by cases z) fun z => by cases z)
  | list l => exact (retIf (b := true) (r := true) (bOr2 (a := true) (b := true) (bNot_of (b := false) (bT_of rfl)) fun z => by cases z) fun z => by cases z)
  | tuple l => exact (retIf (b := true) (r := true) (bOr2 (a := true) (b := true) (bNot_of (b := false) (bT_of rfl)) fun z => by cases z) fun z => by cases z)
  | dict l => exact (retIf (b := true) (r := true) (bOr2 (a := true) (b := true) (bNot_of (b := false) (bT_of rfl)) fun z => by cases z) fun z => by cases z)
end K01
namespace K01
open PySem L2 L2.PU
theorem seq_rt {f g : En → Option Out} {η : En} {d : PyData} (h : f η = some (.rt d)) : sSeq f g η = some (.rt d) := by
  unfold sSeq
  rw [h]; rfl
noncomputable def boxP : PyData → Bool
  | .tuple [a, _, c, d, e, f, g] => (nameP a && marksP g) && ((wholeP c (-20) 20 && wholeP d (-20) 20) && (wholeP e 0 20 && wholeP f 0 20))
  | _ => false
theorem pNe_int (i j : Int) : pNe (.int i) (.int j) = some (.bool (!(i == j))) := by
  unfold pNe
  rw [if_pos ⟨shaped_int i, shaped_int j⟩]
  simp [PyData.eqv]
theorem seven {ds : List PyData} (h : ds.length = 7) : ∃ a b c d e f g, ds = [a, b, c, d, e, f, g] := by
  match ds, h with
  | [a, b, c, d, e, f, g], _ => exact ⟨a, b, c, d, e, f, g, rfl⟩
theorem boxP_len {ds : List PyData} (h : ds.length ≠ 7) : boxP (.tuple ds) = false := by
  unfold boxP
  split
  · rename_i e
    injection e with e
    rw [e] at h
    exact absurd rfl h
  · rfl
theorem boxP_non {b : PyData} (h : isB "tuple" b = false) : boxP b = false := by
  cases b with
  | tuple ds => simp [isB, tyD] at h
  | _ => rfl
theorem all2 {b x y : PyData} {i j lo hi : Int} {lf : En → Option PyData} {s1 : Sl} (hx : pIx b (.int i) = some x) (hy : pIx b (.int j) = some y) (hlf : ∀ s, lf [s, .val b] = some (.int lo)) :
    lA pAll (aC (oE (sComp [none, some 0] (lI asTu (lA (fun ds => if ds.length ≤ sizeLine then some (.tuple ds) else none) (aC (eC (.int i)) (aC (eC (.int j)) aN)))) (tgN 0) tTrue (lA F_is_whole (aC (l2 pIx (eV 1) (eV 0)) (aC lf (aC (eC (.int hi)) aN)))))) aN) [.val b, s1] = some (.bool (wholeP x lo hi && wholeP y lo hi)) := by
  have hc : sComp [none, some 0] (lI asTu (lA (fun ds => if ds.length ≤ sizeLine then some (.tuple ds) else none) (aC (eC (.int i)) (aC (eC (.int j)) aN)))) (tgN 0) tTrue (lA F_is_whole (aC (l2 pIx (eV 1) (eV 0)) (aC lf (aC (eC (.int hi)) aN)))) [.val b, s1] = some [.bool (wholeP x lo hi), .bool (wholeP y lo hi)] := by
    refine comp_eq (ds := ([(i, x), (j, y)] : List (Int × PyData)).map fun p => .int p.1) (lI_of (lA_of (aC_of rfl (aC_of rfl rfl)) (tup1_ok (by simp))) rfl) (by simp) ?_
    refine cGo_mapT (fun p : Int × PyData => PyData.int p.1) (fun p => .bool (wholeP p.2 lo hi)) _ fun p hp => ?_
    simp only [List.mem_cons, List.not_mem_nil, or_false] at hp
    rcases hp with rfl | rfl
    · exact ⟨[.val (.int i), .val b], rfl, lA_of (aC_of (l2_of rfl rfl hx) (aC_of (hlf _) (aC_of rfl rfl))) (whole_ok x lo hi)⟩
    · exact ⟨[.val (.int j), .val b], rfl, lA_of (aC_of (l2_of rfl rfl hy) (aC_of (hlf _) (aC_of rfl rfl))) (whole_ok y lo hi)⟩
  refine lA_of (aC_of (oE_of hc) rfl) ?_
  show some (PyData.bool ([wholeP x lo hi, wholeP y lo hi].all id)) = _
  simp
theorem box_ok {b : PyData} (h : sm b = true) : F_is_box [b] = some (.bool (boxP b)) := by
  refine run_of rfl ?_
  show g_is_box F_is_marks F_is_name F_is_whole [.val b, .un] = _
  have eis : bNot (bT (l1 (pIsin "tuple") (eV 0))) [.val b, .un] = some (!isB "tuple" b) := bNot_of (bT_of (l1_of rfl rfl))
  cases hs : isB "tuple" b with
  | false =>
    rw [hs] at eis
    rw [boxP_non hs]
    exact retIf (b := true) (r := true) (bOr2 (a := true) (b := true) eis fun z => by cases z) fun z => by cases z
  | true =>
    rw [hs] at eis
    obtain ⟨ds, rfl⟩ := isTup' hs
    obtain ⟨hm, hl⟩ := tup_sm h
    have elen : bT (l2 pNe (lA pLen (aC (eV 0) aN)) (eC (.int 7))) [.val (.tuple ds), .un] = some (!((ds.length : Int) == 7)) := bT_of (l2_of (lA_of (aC_of rfl rfl) rfl) rfl (pNe_int _ 7))
    by_cases h7 : ds.length = 7
    · have e7 : (!((ds.length : Int) == 7)) = false := by rw [h7]; rfl
      rw [e7] at elen
      obtain ⟨a, b', c, d, e, f, g, rfl⟩ := seven h7
      have sa : sm a = true := hm a (by simp)
      have sg : sm g = true := hm g (by simp)
      refine (retIf (b := false) (r := (nameP a && marksP g) && ((wholeP c (-20) 20 && wholeP d (-20) 20) && (wholeP e 0 20 && wholeP f 0 20))) (bOr2 (a := false) (b := false) eis fun _ => elen) fun _ => ?_).trans rfl
      refine (retIf (b := !nameP a || !marksP g) (r := (wholeP c (-20) 20 && wholeP d (-20) 20) && (wholeP e 0 20 && wholeP f 0 20)) (bOr2 (bNot_of (bT_of (lA_of (aC_of (l2_of rfl rfl rfl) rfl) (name_ok sa)))) fun _ => bNot_of (bT_of (lA_of (aC_of (l2_of rfl rfl rfl) rfl) (marks_ok' sg)))) fun _ => ?_).trans ?_
      · refine seq_of (set_of (all2 (x := c) (y := d) rfl rfl fun _ => rfl)) ?_
        have e2 := all2 (b := .tuple [a, b', c, d, e, f, g]) (i := 4) (j := 5) (lo := 0) (hi := 20) (lf := eC (.int 0)) (x := e) (y := f) (s1 := .val (.bool (wholeP c (-20) 20 && wholeP d (-20) 20))) rfl rfl fun _ => rfl
        exact ret_of (vAnd_of rfl e2)
      · cases nameP a <;> cases marksP g <;> rfl
    · have e7 : (!((ds.length : Int) == 7)) = true := by
        have : ((ds.length : Int) == 7) = false := by simpa using (by omega : ¬ (ds.length : Int) = 7)
        rw [this]; rfl
      rw [e7] at elen
      rw [boxP_len h7]
      exact retIf (b := true) (r := true) (bOr2 (a := false) (b := true) eis fun _ => elen) fun z => by cases z
noncomputable def nmD : PyData → PyData
  | .tuple (x :: _) => x
  | _ => .none
noncomputable def arD' : PyData → PyData
  | .tuple (_ :: x :: _) => x
  | _ => .none
noncomputable def goP : List PyData → List PyData → Bool
  | _, [] => true
  | ah, b :: r => boxP b && (!(ah.any fun d => PyData.eqv d (nmD b)) && ((ah.any fun d => PyData.eqv d (arD' b)) && goP (ah ++ [nmD b]) r))
theorem boxP_is {b : PyData} (h : boxP b = true) : ∃ n a c d e f m, b = .tuple [.str n, a, c, d, e, f, .str m] ∧ nameB n = true := by
  unfold boxP at h
  split at h
  · rename_i a b' c d e f g
    simp only [Bool.and_eq_true] at h
    obtain ⟨⟨h1, h2⟩, _⟩ := h
    cases a <;> simp [nameP] at h1
    cases g <;> simp [marksP] at h2
    exact ⟨_, _, _, _, _, _, _, rfl, h1⟩
  · cases h
theorem low_str {s : Str} (h : PyData.strOk s = true) : lowD (.str s) = true := by
  unfold lowD
  have : PyData.canLay0 (.str s) = true := h
  rw [this]; rfl
theorem tInS_of {neg : Bool} {f : En → Option PyData} {i : Nat} {η : En} {x : PyData} {ds : List PyData} (h1 : f η = some x) (h2 : η[i]? = some (.own ds)) (h3 : PyData.canLay0 x = true) (h4 : ds.all lowD = true) : tInS neg f i η = some (if neg then !(ds.any fun d => PyData.eqv d x) else ds.any fun d => PyData.eqv d x) := by
  unfold tInS
  rw [h1, Option.bind_some, h2]
  exact if_pos ⟨h3, h4⟩
noncomputable def scB : En → Option Out := sSeq (sIf (bOr (bNot (bT (lA F_is_box (aC (eV 2) aN)))) (bOr (tInS false (l2 pIx (eV 2) (eC (.int 0))) 1) (tInS true (l2 pIx (eV 2) (eC (.int 1))) 1))) (sRet (eC (.bool false))) sNx) (sApp 1 (l2 pIx (eV 2) (eC (.int 0))))
theorem app_of {i : Nat} {f : En → Option PyData} {η : En} {d : PyData} {ds : List PyData} (h1 : f η = some d) (h2 : η[i]? = some (.own ds)) (h3 : ds.length < 3000000) : sApp i f η = some (.nx (η.set i (.own (ds ++ [d])))) := by
  unfold sApp
  rw [h1, Option.bind_some, h2]
  exact if_pos (Nat.lt_of_lt_of_le h3 (big (Nat.le_refl _)))
theorem sc_go (x0 : Sl) : ∀ (bs ah : List PyData) (s2 : Sl), (∀ b ∈ bs, sm b = true) → ah.all lowD = true → ah.length + bs.length ≤ 2000 →
    ∃ r, sGo (tgN 2) scB bs [x0, .own ah, s2] = some r ∧ (goP ah bs = true → ∃ ah' s2', r = .nx [x0, .own ah', s2']) ∧ (goP ah bs = false → r = .rt (.bool false))
  | [], ah, s2, _, _, _ => ⟨_, rfl, fun _ => ⟨ah, s2, rfl⟩, fun h => by cases h⟩
  | b :: r, ah, s2, hs, hl, hz => by
    have hb : sm b = true := hs b List.mem_cons_self
    have ebx : bNot (bT (lA F_is_box (aC (eV 2) aN))) [x0, .own ah, .val b] = some (!boxP b) := bNot_of (bT_of (lA_of (aC_of rfl rfl) (box_ok hb)))
    unfold sGo
    show ∃ r', Option.bind (scB [x0, .own ah, .val b]) _ = some r' ∧ _
    cases hp : boxP b with
    | false =>
      rw [hp] at ebx
      have eb : scB [x0, .own ah, .val b] = some (.rt (.bool false)) := by
        unfold scB sSeq sIf
        rw [bOr2 (a := true) (b := true) ebx fun z => by cases z]; rfl
      rw [eb]
      refine ⟨_, rfl, fun h => ?_, fun _ => rfl⟩
      unfold goP at h
      rw [hp] at h
      cases h
    | true =>
      rw [hp] at ebx
      obtain ⟨n, a, c, d, e, f, m, rfl, hn⟩ := boxP_is hp
      obtain ⟨hm, _⟩ := tup_sm hb
      have cn := sm_can _ (hm (.str n) (by simp))
      have ca := sm_can _ (hm a (by simp))
      have t1 := tInS_of (neg := false) (f := l2 pIx (eV 2) (eC (.int 0))) (i := 1) (η := [x0, .own ah, .val (.tuple [.str n, a, c, d, e, f, .str m])]) (x := .str n) (l2_of rfl rfl rfl) rfl cn hl
      have t2 := tInS_of (neg := true) (f := l2 pIx (eV 2) (eC (.int 1))) (i := 1) (η := [x0, .own ah, .val (.tuple [.str n, a, c, d, e, f, .str m])]) (x := a) (l2_of rfl rfl rfl) rfl ca hl
      have tc := bOr2 (a := false) ebx fun _ => bOr2 t1 fun _ => t2
      have eg : goP ah (.tuple [.str n, a, c, d, e, f, .str m] :: r) = (!(ah.any fun d => PyData.eqv d (.str n)) && ((ah.any fun d => PyData.eqv d a) && goP (ah ++ [.str n]) r)) := by
        show (boxP _ && _) = _
        rw [hp]; rfl
      rw [eg]
      simp only [Bool.false_eq_true, if_false, if_true, Bool.false_or] at tc
      cases h1 : ah.any fun d => PyData.eqv d (.str n) with
      | true =>
        rw [h1] at tc
        have eb : scB [x0, .own ah, .val (.tuple [.str n, a, c, d, e, f, .str m])] = some (.rt (.bool false)) := by
          unfold scB sSeq sIf
          rw [tc]; rfl
        rw [eb]
        exact ⟨_, rfl, (fun h => by cases h), fun _ => rfl⟩
      | false =>
        rw [h1] at tc
        cases h2 : ah.any fun d => PyData.eqv d a with
        | false =>
          rw [h2] at tc
          have eb : scB [x0, .own ah, .val (.tuple [.str n, a, c, d, e, f, .str m])] = some (.rt (.bool false)) := by
            unfold scB sSeq sIf
            rw [tc]; rfl
          rw [eb]
          exact ⟨_, rfl, (fun h => by cases h), fun _ => rfl⟩
        | true =>
          rw [h2] at tc
          rw [List.length_cons] at hz
          have eb : scB [x0, .own ah, .val (.tuple [.str n, a, c, d, e, f, .str m])] = some (.nx [x0, .own (ah ++ [.str n]), .val (.tuple [.str n, a, c, d, e, f, .str m])]) :=
            seq_of (ifN tc) (app_of (l2_of rfl rfl rfl) rfl (by omega))
          rw [eb]
          have sn := str_sm (hm (.str n) (by simp))
          obtain ⟨r', e1, e2, e3⟩ := sc_go x0 r (ah ++ [.str n]) (.val (.tuple [.str n, a, c, d, e, f, .str m])) (fun y hy => hs y (List.mem_cons_of_mem _ hy)) (by rw [List.all_append, hl]; show (true && (lowD (.str n) && true)) = true; rw [low_str sn.1]; rfl) (by rw [List.length_append]; simp; omega)
          refine ⟨r', e1, fun h => e2 ?_, fun h => e3 ?_⟩
          · simpa using h
          · simpa using h
noncomputable def okS : PyData → Bool
  | .tuple bs => !decide (12 < bs.length) && goP [.str ""] bs
  | _ => false
theorem okS_non {x : PyData} (h : isB "tuple" x = false) : okS x = false := by
  cases x with
  | tuple ds => simp [isB, tyD] at h
  | _ => rfl
theorem scene_ok' {x : PyData} (h : sm x = true) : F_is_scene [x] = some (.bool (okS x)) := by
  refine run_of rfl ?_
  show g_is_scene F_is_box [.val x, .un, .un] = _
  have eis : bNot (bT (l1 (pIsin "tuple") (eV 0))) [.val x, .un, .un] = some (!isB "tuple" x) := bNot_of (bT_of (l1_of rfl rfl))
  cases hs : isB "tuple" x with
  | false =>
    rw [hs] at eis
    rw [okS_non hs]
    exact retIf (b := true) (r := true) (bOr2 (a := true) (b := true) eis fun z => by cases z) fun z => by cases z
  | true =>
    rw [hs] at eis
    obtain ⟨ds, rfl⟩ := isTup' hs
    obtain ⟨hm, hl⟩ := tup_sm h
    have elen : bT (l2 pGt (lA pLen (aC (eV 0) aN)) (eC (.int 12))) [.val (.tuple ds), .un, .un] = some (decide ((12 : Int) < (ds.length : Nat))) := bT_of (l2_of (lA_of (aC_of rfl rfl) rfl) rfl rfl)
    have ed : decide ((12 : Int) < (ds.length : Nat)) = decide (12 < ds.length) := decide_eq_decide.mpr (by omega)
    rw [ed] at elen
    refine (retIf (b := false || decide (12 < ds.length)) (r := goP [.str ""] ds) (bOr2 eis fun _ => elen) fun _ => ?_).trans (by unfold okS; rw [Bool.false_or])
    refine seq_of (setO_of (d := [.str ""]) (gL_ok (by decide))) ?_
    obtain ⟨r, e1, e2, e3⟩ := sc_go (.val (.tuple ds)) ds [.str ""] .un hm (by show (lowD (.str "") && true) = true; rw [low_str em_ok]; rfl) (by show 1 + _ ≤ _; omega)
    cases hg : goP [.str ""] ds with
    | true =>
      obtain ⟨ah', s2', rfl⟩ := e2 hg
      exact seq_of (for_of (lI_of rfl rfl) e1) rfl
    | false =>
      rw [e3 hg] at e1
      exact seq_rt (for_of (lI_of rfl rfl) e1)
end K01
namespace K01
open PySem L2 L2.PU
theorem vAndF {f g : En → Option PyData} {η : En} (h : f η = some (.bool false)) : vAnd f g η = some (.bool false) := by
  unfold vAnd
  rw [h]; rfl
theorem vAndT {f g : En → Option PyData} {η : En} {d : PyData} (h : f η = some (.bool true)) (h2 : g η = some d) : vAnd f g η = some d := by
  unfold vAnd
  rw [h]; exact h2
theorem num_ok (p : PyData) (lo hi : Int) : F__law_is_number [p, .int lo, .int hi] = some (.bool (wholeP p lo hi)) := by
  refine run_of rfl (ret_of ?_)
  cases p with
  | int i => exact vAndT rfl (vAndT (vNot_of (b := false) rfl) (lchLL rfl rfl rfl))
  | bool b => exact vAndT rfl (vAndF (vNot_of (b := true) rfl))
  | none => exact vAndF rfl
  | str s => exact vAndF rfl
  | list l => exact vAndF rfl
  | tuple l => exact vAndF rfl
  | dict l => exact vAndF rfl
theorem dep_mem {x : PyData} : ∀ {l : List PyData}, x ∈ l → PyData.depth x ≤ PyData.depthAll l
  | y :: r, h => by
    unfold PyData.depthAll
    rcases List.mem_cons.mp h with rfl | h
    · exact Nat.le_max_left _ _
    · exact Nat.le_trans (dep_mem h) (Nat.le_max_right _ _)
theorem dep_le {k : Nat} : ∀ {l : List PyData}, (∀ x ∈ l, PyData.depth x ≤ k) → PyData.depthAll l ≤ k
  | [], _ => Nat.zero_le _
  | y :: r, h => by
    unfold PyData.depthAll
    have h1 := h y List.mem_cons_self
    have h2 := dep_le fun x hx => h x (List.mem_cons_of_mem _ hx)
    omega
theorem sh_parts {l : List PyData} (h1 : ∀ x ∈ l, sm x = true) (h2 : ∀ x ∈ l, PyData.depth x ≤ 40) : SeqAt.shaped (.list l) = true := by
  unfold SeqAt.shaped
  have a : PyData.canLay0 (.list l) = true := smA_can l ((smA_iff l).mpr h1)
  have b : PyData.depth (.list l) ≤ 41 := by
    unfold PyData.depth
    have := dep_le h2
    omega
  rw [a, decide_eq_true (by omega)]; rfl
theorem ne_nil {l : List PyData} (hs : SeqAt.shaped (.list l) = true) : pNe (.list l) (.list []) = some (.bool (!l.isEmpty)) := by
  unfold pNe
  rw [if_pos ⟨hs, by rfl⟩]
  cases l <;> simp [PyData.eqv, PyData.eqvAll]
theorem filt_emp {α : Type} (p : α → Bool) : ∀ l : List α, (l.filter fun x => !p x).isEmpty = l.all p
  | [] => rfl
  | x :: r => by
    rw [List.filter_cons, List.all_cons]
    cases h : p x with
    | false => rfl
    | true => exact filt_emp p r
noncomputable def lawB (b : PyData) (names : List PyData) : Bool := boxP b && (isB "str" (arD' b) && (!(names.any fun d => PyData.eqv d (nmD b)) && (PyData.eqv (arD' b) (.str "") || names.any fun d => PyData.eqv d (arD' b))))
theorem sh_signs (z : Str) (p : Nat → Bool) (h : PyData.strOk z = true) : SeqAt.shaped (.list ((z.cps.toList.filter p).map fun ch => .str ⟨#[ch]⟩)) = true := by
  refine sh_parts (fun x hx => ?_) fun x hx => ?_
  · obtain ⟨ch, hc, rfl⟩ := List.mem_map.mp hx
    have hc' := (List.mem_filter.mp hc).1
    unfold sm
    have : PyData.strOk ⟨#[ch]⟩ = true := by
      unfold PyData.strOk at h ⊢
      rw [Array.all_eq_true'] at h
      have := h ch (Array.mem_toList_iff.mp hc')
      simp at this ⊢
      exact this
    rw [this]
    have : (⟨#[ch]⟩ : Str).length ≤ 1000 := by show 1 ≤ 1000; decide
    rw [decide_eq_true this]; rfl
  · obtain ⟨ch, hc, rfl⟩ := List.mem_map.mp hx
    exact Nat.zero_le _
theorem ret0 {cnd : En → Option Bool} {k : En → Option Out} {η : En} (hc : cnd η = some true) : sSeq (sIf cnd (sRet (eC (.bool false))) sNx) k η = some (.rt (.bool false)) := by
  unfold sSeq sIf
  rw [hc]; rfl
theorem flat_str {names : List PyData} (hn : ∀ d ∈ names, ∃ s, d = PyData.str s) : names.all flatD = true := by
  rw [List.all_eq_true]
  intro d hd
  obtain ⟨s, rfl⟩ := hn d hd
  rfl
theorem lbox_ok {b : PyData} {names : List PyData} (h : sm b = true) (hd : PyData.depth b ≤ 40) (hn : ∀ d ∈ names, ∃ s, d = PyData.str s) : F__law_is_box [b, .list names] = some (.bool (lawB b names)) := by
  refine run_of rfl ?_
  show g__law_is_box F__law_is_number [.val b, .val (.list names), .un] = _
  have eis : bNot (bT (l1 (pIsin "tuple") (eV 0))) [.val b, .val (.list names), .un] = some (!isB "tuple" b) := bNot_of (bT_of (l1_of rfl rfl))
  cases hs : isB "tuple" b with
  | false =>
    rw [hs] at eis
    have : lawB b names = false := by unfold lawB; rw [boxP_non hs]; rfl
    rw [this]
    exact ret0 (bOr2 (a := true) (b := true) eis fun z => by cases z)
  | true =>
    rw [hs] at eis
    obtain ⟨ds, rfl⟩ := isTup' hs
    obtain ⟨hm, hl⟩ := tup_sm h
    have elen : bT (l2 pNe (lA pLen (aC (eV 0) aN)) (eC (.int 7))) [.val (.tuple ds), .val (.list names), .un] = some (!((ds.length : Int) == 7)) := bT_of (l2_of (lA_of (aC_of rfl rfl) rfl) rfl (pNe_int _ 7))
    by_cases h7 : ds.length = 7
    · have e7 : (!((ds.length : Int) == 7)) = false := by rw [h7]; rfl
      rw [e7] at elen
      obtain ⟨p0, p1, p2, p3, p4, p5, p6, rfl⟩ := seven h7
      have dm : ∀ x ∈ [p0, p1, p2, p3, p4, p5, p6], PyData.depth x ≤ 40 := fun x hx => by
        have h1 := dep_mem hx
        have h2 : PyData.depth (.tuple [p0, p1, p2, p3, p4, p5, p6]) = PyData.depthAll [p0, p1, p2, p3, p4, p5, p6] + 1 := by simp only [PyData.depth]
        omega
      refine seq_of (ifN (bOr2 (a := false) (b := false) eis fun _ => elen)) ?_
      have e2 : bT (l2 pNe (oE (sComp [none] (lI asTu (l2 pAdd (eSl (eV 0) pN (pS (eC (.int 2)))) (eSl (eV 0) (pS (eC (.int 6))) pN))) (tgN 0) (bNot (bT (l1 (pIsin "str") (eV 0)))) (eV 0))) (oE (fun η => (aN η).bind gL))) [.val (.tuple [p0, p1, p2, p3, p4, p5, p6]), .val (.list names), .un] = some (!([p0, p1, p6].all fun p => isB "str" p)) := by
        have hc : sComp [none] (lI asTu (l2 pAdd (eSl (eV 0) pN (pS (eC (.int 2)))) (eSl (eV 0) (pS (eC (.int 6))) pN))) (tgN 0) (bNot (bT (l1 (pIsin "str") (eV 0)))) (eV 0) [.val (.tuple [p0, p1, p2, p3, p4, p5, p6]), .val (.list names), .un] = some ([p0, p1, p6].filter fun p => !isB "str" p) := by
          refine comp_eq (ds := [p0, p1, p6]) (lI_of (l2_of (eSl_of rfl rfl rfl rfl) (eSl_of rfl rfl rfl rfl) (addT (by show 2 + 1 ≤ 3000000; decide))) rfl) (by simp) ?_
          have := cGo_map (t := tgN 0) (p := bNot (bT (l1 (pIsin "str") (eV 0)))) (f := eV 0) (η := [.un]) id (fun p => !isB "str" p) id [p0, p1, p6] fun p _ => ⟨[.val p], rfl, bNot_of (bT_of (l1_of rfl rfl)), fun _ => rfl⟩
          rw [List.map_id, List.map_id] at this
          exact this
        refine bT_of (l2_of (oE_of hc) (oE_of (ds := []) (gL_ok (by decide))) ((ne_nil (sh_parts (fun x hx => hm x ?_) fun x hx => dm x ?_)).trans ?_))
        · have := (List.mem_filter.mp hx).1
          simp only [List.mem_cons, List.not_mem_nil, or_false] at this ⊢
          rcases this with e | e | e <;> simp [e]
        · have := (List.mem_filter.mp hx).1
          simp only [List.mem_cons, List.not_mem_nil, or_false] at this ⊢
          rcases this with e | e | e <;> simp [e]
        · rw [filt_emp]
      cases hst : [p0, p1, p6].all fun p => isB "str" p with
      | false =>
        rw [hst] at e2
        have : lawB (.tuple [p0, p1, p2, p3, p4, p5, p6]) names = false := by
          unfold lawB
          simp only [List.all_cons, List.all_nil, Bool.and_true] at hst
          cases q0 : isB "str" p0 with
          | false =>
            have : boxP (.tuple [p0, p1, p2, p3, p4, p5, p6]) = false := by
              show ((nameP p0 && marksP p6) && _) = false
              rw [(nonstr q0).1]; rfl
            rw [this]; rfl
          | true =>
            cases q6 : isB "str" p6 with
            | false =>
              have : boxP (.tuple [p0, p1, p2, p3, p4, p5, p6]) = false := by
                show ((nameP p0 && marksP p6) && _) = false
                rw [(nonstr q6).2, Bool.and_false]; rfl
              rw [this]; rfl
            | true =>
              rw [q0, q6] at hst
              simp only [Bool.true_and, Bool.and_true] at hst
              have : isB "str" (arD' (.tuple [p0, p1, p2, p3, p4, p5, p6])) = false := hst
              rw [this, Bool.false_and, Bool.and_false]
        rw [this]
        exact ret0 e2
      | true =>
        rw [hst] at e2
        simp only [List.all_cons, List.all_nil, Bool.and_true, Bool.and_eq_true] at hst
        obtain ⟨q0, q1, q6⟩ := hst
        obtain ⟨n, rfl⟩ := isStr q0
        obtain ⟨a, rfl⟩ := isStr q1
        obtain ⟨m, rfl⟩ := isStr q6
        obtain ⟨n1, n2⟩ := str_sm (hm (.str n) (by simp))
        obtain ⟨a1, a2⟩ := str_sm (hm (.str a) (by simp))
        obtain ⟨m1, m2⟩ := str_sm (hm (.str m) (by simp))
        have nlen : n.cps.toList.length = n.length := Array.length_toList
        refine seq_of (ifN e2) ?_
        have eo : sComp [none] (lI asSg (l2 pIx (eV 0) (eC (.int 0)))) (tgN 0) (bT (l2 (pIn true) (eV 0) (eC (.str "abcdefghijklmnopqrstuvwxyz")))) (eV 0) [.val (.tuple [.str n, .str a, p2, p3, p4, p5, .str m]), .val (.list names), .un] = some ((n.cps.toList.filter fun ch => !inM ⟨#[ch]⟩ LET).map fun ch => .str ⟨#[ch]⟩) := by
          refine comp_eq (ds := n.cps.toList.map fun ch => .str ⟨#[ch]⟩) (lI_of (l2_of rfl rfl rfl) rfl) (by rw [List.length_map, nlen]; omega) ?_
          exact cGo_map (fun ch => PyData.str ⟨#[ch]⟩) (fun ch => !inM ⟨#[ch]⟩ LET) (fun ch => PyData.str ⟨#[ch]⟩) n.cps.toList fun ch _ => ⟨[.val (.str ⟨#[ch]⟩)], rfl, bT_of (l2_of rfl rfl (pIn_m true _ _)), fun _ => rfl⟩
        refine seq_of (setO_of eo) ?_
        show sSeq _ _ [.val (.tuple [.str n, .str a, p2, p3, p4, p5, .str m]), .val (.list names), .val (.list ((n.cps.toList.filter fun ch => !inM ⟨#[ch]⟩ LET).map fun ch => .str ⟨#[ch]⟩))] = _
        have el : lch pLe pLe (eC (.int 1)) (lA pLen (aC (l2 pIx (eV 0) (eC (.int 0))) aN)) (eC (.int 3)) [.val (.tuple [.str n, .str a, p2, p3, p4, p5, .str m]), .val (.list names), .val (.list ((n.cps.toList.filter fun ch => !inM ⟨#[ch]⟩ LET).map fun ch => .str ⟨#[ch]⟩))] = some (.bool (decide (1 ≤ n.length) && decide (n.length ≤ 3))) := by
          rw [← int_len]
          refine lchLL rfl (lA_of (aC_of (l2_of rfl rfl rfl) rfl) ?_) rfl
          exact if_pos (big (by omega))
        have c3 := bOr2 (bNot_of (bT_of el)) fun _ => bT_of (l2_of (g := oE (fun η => (aN η).bind gL)) (f := eV 2) rfl (oE_of (ds := []) (gL_ok (by decide))) (ne_nil (sh_signs n (fun ch => !inM ⟨#[ch]⟩ LET) n1)))
        have em : (((n.cps.toList.filter fun ch => !inM ⟨#[ch]⟩ LET).map fun ch => PyData.str ⟨#[ch]⟩).isEmpty) = n.cps.toList.all fun ch => inM ⟨#[ch]⟩ LET := by
          rw [← filt_emp, List.isEmpty_map]
        rw [em] at c3
        have e3 : ((!(decide (1 ≤ n.length) && decide (n.length ≤ 3))) || !(n.cps.toList.all fun ch => inM ⟨#[ch]⟩ LET)) = !nameB n := by
          unfold nameB
          rw [Bool.not_and (decide (1 ≤ n.length) && decide (n.length ≤ 3))]
        rw [e3] at c3
        have hfl := flat_str hn
        have i0 : pIn false (.str n) (.list names) = some (.bool (names.any fun d => PyData.eqv d (.str n))) := if_pos ⟨rfl, hfl⟩
        have i1 : pIn true (.str a) (.list names) = some (.bool (!(names.any fun d => PyData.eqv d (.str a)))) := if_pos ⟨rfl, hfl⟩
        have ne : pNe (.str a) (.str "") = some (.bool (!PyData.eqv (.str a) (.str ""))) := by
          unfold pNe
          rw [if_pos ⟨shaped_str a1, shaped_str em_ok⟩]
        have r : Bool := true
        have key : ∀ (k : Bool), k = ((wholeP p2 (-20) 20 && wholeP p3 (-20) 20) && (wholeP p4 0 20 && wholeP p5 0 20) && marksB m) → lawB (.tuple [.str n, .str a, p2, p3, p4, p5, .str m]) names = (!(!nameB n) && (!((names.any fun d => PyData.eqv d (.str n)) || (!PyData.eqv (.str a) (.str "") && !(names.any fun d => PyData.eqv d (.str a)))) && k)) := fun k hk => by
          subst hk
          show ((((nameB n && marksB m) && ((wholeP p2 (-20) 20 && wholeP p3 (-20) 20) && (wholeP p4 0 20 && wholeP p5 0 20))) && (true && (!(names.any fun d => PyData.eqv d (.str n)) && (PyData.eqv (.str a) (.str "") || names.any fun d => PyData.eqv d (.str a)))))) = _
          cases nameB n <;> cases marksB m <;> cases (wholeP p2 (-20) 20 && wholeP p3 (-20) 20) <;> cases (wholeP p4 0 20 && wholeP p5 0 20) <;> cases (names.any fun d => PyData.eqv d (.str n)) <;> cases PyData.eqv (.str a) (.str "") <;> cases (names.any fun d => PyData.eqv d (.str a)) <;> rfl
        rw [key _ rfl]
        refine retIf c3 fun _ => ?_
        refine retIf (bOr2 (bT_of (l2_of (l2_of rfl rfl rfl) rfl i0)) fun _ => bAnd_of (bT_of (l2_of (l2_of rfl rfl rfl) rfl ne)) (bT_of (l2_of (l2_of rfl rfl rfl) rfl i1))) fun _ => ?_
        have e5 := retIf (cnd := bOr (bNot (bT (lA F__law_is_number (aC (l2 pIx (eV 0) (eC (.int 2))) (aC (l1 pNeg (eC (.int 20))) (aC (eC (.int 20)) aN)))))) (bNot (bT (lA F__law_is_number (aC (l2 pIx (eV 0) (eC (.int 3))) (aC (l1 pNeg (eC (.int 20))) (aC (eC (.int 20)) aN)))))))
          (k := sSeq (sIf (bOr (bNot (bT (lA F__law_is_number (aC (l2 pIx (eV 0) (eC (.int 4))) (aC (eC (.int 0)) (aC (eC (.int 20)) aN)))))) (bNot (bT (lA F__law_is_number (aC (l2 pIx (eV 0) (eC (.int 5))) (aC (eC (.int 0)) (aC (eC (.int 20)) aN))))))) (sRet (eC (.bool false))) sNx) (sRet (l2 pEq (l2 pJoin (eC (.str "")) (oE (sComp [none, some 0] (lI asSg (eC (.str "cfhl"))) (tgN 0) (bT (l2 (pIn false) (eV 0) (l2 pIx (eV 1) (eC (.int 6))))) (eV 0)))) (l2 pIx (eV 0) (eC (.int 6))))))
          (η := [.val (.tuple [.str n, .str a, p2, p3, p4, p5, .str m]), .val (.list names), .val (.list ((n.cps.toList.filter fun ch => !inM ⟨#[ch]⟩ LET).map fun ch => .str ⟨#[ch]⟩))])
          (r := !(!wholeP p4 0 20 || !wholeP p5 0 20) && decide (mkJ m = m))
          (bOr2 (bNot_of (bT_of (lA_of (aC_of (l2_of rfl rfl rfl) (aC_of (l1_of rfl rfl) (aC_of rfl rfl))) (num_ok p2 (-20) 20)))) fun _ => bNot_of (bT_of (lA_of (aC_of (l2_of rfl rfl rfl) (aC_of (l1_of rfl rfl) (aC_of rfl rfl))) (num_ok p3 (-20) 20)))) fun _ => ?_
        · refine Eq.trans e5 ?_
          have em2 : decide (mkJ m = m) = marksB m := by unfold marksB; exact decide_eq_decide.mpr eq_comm
          rw [em2]
          cases wholeP p2 (-20) 20 <;> cases wholeP p3 (-20) 20 <;> cases wholeP p4 0 20 <;> cases wholeP p5 0 20 <;> cases marksB m <;> rfl
        · refine retIf (bOr2 (bNot_of (bT_of (lA_of (aC_of (l2_of rfl rfl rfl) (aC_of rfl (aC_of rfl rfl))) (num_ok p4 0 20)))) fun _ => bNot_of (bT_of (lA_of (aC_of (l2_of rfl rfl rfl) (aC_of rfl (aC_of rfl rfl))) (num_ok p5 0 20)))) fun _ => ?_
          have ej : l2 pJoin (eC (.str "")) (oE (sComp [none, some 0] (lI asSg (eC (.str "cfhl"))) (tgN 0) (bT (l2 (pIn false) (eV 0) (l2 pIx (eV 1) (eC (.int 6))))) (eV 0))) [.val (.tuple [.str n, .str a, p2, p3, p4, p5, .str m]), .val (.list names), .val (.list ((n.cps.toList.filter fun ch => !inM ⟨#[ch]⟩ LET).map fun ch => .str ⟨#[ch]⟩))] = some (.str (mkJ m)) := by
            have hc : sComp [none, some 0] (lI asSg (eC (.str "cfhl"))) (tgN 0) (bT (l2 (pIn false) (eV 0) (l2 pIx (eV 1) (eC (.int 6))))) (eV 0) [.val (.tuple [.str n, .str a, p2, p3, p4, p5, .str m]), .val (.list names), .val (.list ((n.cps.toList.filter fun ch => !inM ⟨#[ch]⟩ LET).map fun ch => .str ⟨#[ch]⟩))] = some ((mks.filter fun k => inM k m).map PyData.str) := by
              refine comp_eq (ds := mks.map PyData.str) (lI_of rfl cfhl_s) (by decide) ?_
              exact cGo_map PyData.str (fun k => inM k m) PyData.str mks fun k _ => ⟨[.val (.str k), .val (.tuple [.str n, .str a, p2, p3, p4, p5, .str m])], rfl, bT_of (l2_of rfl (l2_of rfl rfl rfl) (pIn_m false k m)), fun _ => rfl⟩
            refine l2_of rfl (oE_of hc) (pJoin_of (b := 1) (fun s hs => ?_) ?_)
            · have hm := (List.mem_filter.mp hs).1
              simp only [mks, List.mem_cons, List.not_mem_nil, or_false] at hm
              rcases hm with rfl | rfl | rfl | rfl <;> decide +kernel
            · rw [em_len]
              have := List.length_filter_le (fun k => inM k m) mks
              have h4 : mks.length = 4 := rfl
              omega
          exact ret_of (l2_of ej (l2_of rfl rfl rfl) (pEq_str (mkJ_ok m) m1))
    · have e7 : (!((ds.length : Int) == 7)) = true := by
        have : ((ds.length : Int) == 7) = false := by simpa using (by omega : ¬ (ds.length : Int) = 7)
        rw [this]; rfl
      rw [e7] at elen
      have : lawB (.tuple ds) names = false := by unfold lawB; rw [boxP_len h7]; rfl
      rw [this]
      exact ret0 (bOr2 (a := false) (b := true) eis fun _ => elen)
end K01
namespace K01
open PySem L2 L2.PU
noncomputable def goL : List PyData → List PyData → Bool
  | _, [] => true
  | names, b :: r => lawB b names && goL (names ++ [nmD b]) r
noncomputable def lsB : En → Option Out := sSeq (sIf (lendT 1 (bNot (bT (lA F__law_is_box (aC (eV 2) (aC (eV 1) aN)))))) (sRet (eC (.bool false))) sNx) (sApp 1 (l2 pIx (eV 2) (eC (.int 0))))
theorem lawB_nm {b : PyData} {names : List PyData} (h : lawB b names = true) : ∃ n r, b = .tuple (.str n :: r) := by
  unfold lawB at h
  rw [Bool.and_eq_true] at h
  obtain ⟨n, a, c, d, e, f, m, rfl, _⟩ := boxP_is h.1
  exact ⟨n, _, rfl⟩
theorem ls_go (x0 : Sl) : ∀ (bs names : List PyData) (s2 : Sl), (∀ b ∈ bs, sm b = true) → (∀ b ∈ bs, PyData.depth b ≤ 40) → (∀ d ∈ names, ∃ s, d = PyData.str s) → names.length + bs.length ≤ 2000 →
    ∃ r, sGo (tgN 2) lsB bs [x0, .own names, s2] = some r ∧ (goL names bs = true → ∃ ah' s2', r = .nx [x0, .own ah', s2']) ∧ (goL names bs = false → r = .rt (.bool false))
  | [], names, s2, _, _, _, _ => ⟨_, rfl, fun _ => ⟨names, s2, rfl⟩, fun h => by cases h⟩
  | b :: r, names, s2, hs, hd, hn, hz => by
    have eb0 : lendT 1 (bNot (bT (lA F__law_is_box (aC (eV 2) (aC (eV 1) aN))))) [x0, .own names, .val b] = some (!lawB b names) := by
      show bNot (bT (lA F__law_is_box (aC (eV 2) (aC (eV 1) aN)))) [x0, .val (.list names), .val b] = _
      exact bNot_of (bT_of (lA_of (aC_of rfl (aC_of rfl rfl)) (lbox_ok (hs b List.mem_cons_self) (hd b List.mem_cons_self) hn)))
    unfold sGo
    show ∃ r', Option.bind (lsB [x0, .own names, .val b]) _ = some r' ∧ _
    have eg : goL names (b :: r) = (lawB b names && goL (names ++ [nmD b]) r) := rfl
    rw [eg]
    cases hp : lawB b names with
    | false =>
      rw [hp] at eb0
      have eb : lsB [x0, .own names, .val b] = some (.rt (.bool false)) := ret0 eb0
      rw [eb]
      exact ⟨_, rfl, (fun h => by cases h), fun _ => rfl⟩
    | true =>
      rw [hp] at eb0
      obtain ⟨n, rr, rfl⟩ := lawB_nm hp
      rw [List.length_cons] at hz
      have eb : lsB [x0, .own names, .val (.tuple (.str n :: rr))] = some (.nx [x0, .own (names ++ [.str n]), .val (.tuple (.str n :: rr))]) :=
        seq_of (ifN eb0) (app_of (l2_of rfl rfl (by show atI (PyData.str n :: rr) ((0 : Nat) : Int) = _; exact atI_nat rfl)) rfl (by omega))
      rw [eb]
      obtain ⟨r', e1, e2, e3⟩ := ls_go x0 r (names ++ [.str n]) (.val (.tuple (.str n :: rr))) (fun y hy => hs y (List.mem_cons_of_mem _ hy)) (fun y hy => hd y (List.mem_cons_of_mem _ hy)) (fun d hd => by
        rcases List.mem_append.mp hd with h | h
        · exact hn d h
        · exact ⟨n, List.mem_singleton.mp h⟩) (by rw [List.length_append]; simp; omega)
      refine ⟨r', e1, fun h => e2 ?_, fun h => e3 ?_⟩
      · simpa [nmD] using h
      · simpa [nmD] using h
theorem eqv_ss (s z : Str) : PyData.eqv (.str s) (.str z) = decide (s = z) := by simp [PyData.eqv, str_dec]
theorem eqv_non {s : Str} {x : PyData} (h : isB "str" x = false) : PyData.eqv (.str s) x = false := by
  cases x with
  | str z => simp [isB, tyD] at h
  | _ => simp [PyData.eqv]
theorem goP_goL : ∀ (bs names : List PyData), (∀ d ∈ names, ∃ s, d = PyData.str s) → goP (.str "" :: names) bs = goL names bs
  | [], _, _ => rfl
  | b :: r, names, hn => by
    show (boxP b && (!((.str "" :: names).any fun d => PyData.eqv d (nmD b)) && (((.str "" :: names).any fun d => PyData.eqv d (arD' b)) && goP (.str "" :: names ++ [nmD b]) r))) = (lawB b names && goL (names ++ [nmD b]) r)
    unfold lawB
    cases hp : boxP b with
    | false => rfl
    | true =>
      obtain ⟨n, a, c, d, e, f, m, rfl, hnb⟩ := boxP_is hp
      have hne : ¬ ("" : Str) = n := fun z => by
        rw [← z] at hnb
        revert hnb
        decide +kernel
      have ih := goP_goL r (names ++ [.str n]) fun d hd => by
        rcases List.mem_append.mp hd with h | h
        · exact hn d h
        · exact ⟨n, List.mem_singleton.mp h⟩
      show (true && (!((.str "" :: names).any fun d => PyData.eqv d (.str n)) && (((.str "" :: names).any fun d => PyData.eqv d a) && goP (.str "" :: (names ++ [.str n])) r))) = (true && (isB "str" a && (!(names.any fun d => PyData.eqv d (.str n)) && (PyData.eqv a (.str "") || names.any fun d => PyData.eqv d a))) && goL (names ++ [.str n]) r)
      rw [ih, List.any_cons, List.any_cons, eqv_ss, decide_eq_false hne, Bool.false_or]
      cases ha : isB "str" a with
      | false =>
        have h1 : PyData.eqv (.str "") a = false := eqv_non ha
        have h2 : (names.any fun d => PyData.eqv d a) = false := by
          rw [List.any_eq_false]
          intro d hd
          obtain ⟨s, rfl⟩ := hn d hd
          rw [eqv_non ha]; decide
        rw [h1, h2]
        cases (names.any fun d => PyData.eqv d (.str n)) <;> rfl
      | true =>
        obtain ⟨z, rfl⟩ := isStr ha
        have : PyData.eqv (.str z) (.str "") = PyData.eqv (.str "") (.str z) := by
          rw [eqv_ss, eqv_ss]
          exact decide_eq_decide.mpr eq_comm
        rw [this]
        cases (names.any fun d => PyData.eqv d (.str n)) <;> cases PyData.eqv (.str "") (.str z) <;> cases (names.any fun d => PyData.eqv d (.str z)) <;> cases goL (names ++ [.str n]) r <;> rfl
theorem lscene_ok {x : PyData} (h : sm x = true) (hd : PyData.depth x ≤ 40) : F__law_is_scene [x] = some (.bool (okS x)) := by
  refine run_of rfl ?_
  show g__law_is_scene F__law_is_box [.val x, .un, .un] = _
  have eis : bNot (bT (l1 (pIsin "tuple") (eV 0))) [.val x, .un, .un] = some (!isB "tuple" x) := bNot_of (bT_of (l1_of rfl rfl))
  cases hs : isB "tuple" x with
  | false =>
    rw [hs] at eis
    rw [okS_non hs]
    exact ret0 (bOr2 (a := true) (b := true) eis fun z => by cases z)
  | true =>
    rw [hs] at eis
    obtain ⟨ds, rfl⟩ := isTup' hs
    obtain ⟨hm, hl⟩ := tup_sm h
    have dm : ∀ y ∈ ds, PyData.depth y ≤ 40 := fun y hy => by
      have h1 := dep_mem hy
      have h2 : PyData.depth (.tuple ds) = PyData.depthAll ds + 1 := by simp only [PyData.depth]
      omega
    have elen : bT (l2 pGt (lA pLen (aC (eV 0) aN)) (eC (.int 12))) [.val (.tuple ds), .un, .un] = some (decide ((12 : Int) < (ds.length : Nat))) := bT_of (l2_of (lA_of (aC_of rfl rfl) rfl) rfl rfl)
    have ed : decide ((12 : Int) < (ds.length : Nat)) = decide (12 < ds.length) := decide_eq_decide.mpr (by omega)
    rw [ed] at elen
    have eo : okS (.tuple ds) = (!decide (12 < ds.length) && goL [] ds) := by
      unfold okS
      rw [← goP_goL ds [] (fun d hd => by cases hd)]
    refine (retIf (b := false || decide (12 < ds.length)) (r := goL [] ds) (bOr2 eis fun _ => elen) fun _ => ?_).trans (by rw [eo, Bool.false_or])
    refine seq_of (setO_of (d := []) (gL_ok (by decide))) ?_
    obtain ⟨r, e1, e2, e3⟩ := ls_go (.val (.tuple ds)) ds [] .un hm dm (fun d hd => by cases hd) (by show 0 + _ ≤ _; omega)
    cases hg : goL [] ds with
    | true =>
      obtain ⟨ah', s2', rfl⟩ := e2 hg
      exact seq_of (for_of (lI_of rfl rfl) e1) rfl
    | false =>
      rw [e3 hg] at e1
      exact seq_rt (for_of (lI_of rfl rfl) e1)
noncomputable def Ask (x : PyData) : Prop := sm x = true ∧ PyData.depth x ≤ 40
theorem Ask.both {x : PyData} (h : Ask x) : F_is_scene [x] = some (.bool (okS x)) ∧ F__law_is_scene [x] = some (.bool (okS x)) := ⟨scene_ok' h.1, lscene_ok h.1 h.2⟩
end K01
namespace K01
open PySem L2 L2.PU
noncomputable def tS (i : Int) : Str := Str.ofString (toString i)
noncomputable def nuB (i : Int) : Bool := decide ((tS i).length ≤ 1000) && PyData.strOk (tS i) && decide (i.natAbs.log2 < 1920)
theorem nuB_all : ∀ k : Fin 41, nuB ((k.val : Int) - 20) = true := by decide +kernel
theorem nu_of {i : Int} (h1 : -20 ≤ i) (h2 : i ≤ 20) : sm (.str (tS i)) = true ∧ pStr [.int i] = some (.str (tS i)) := by
  have h := nuB_all ⟨(i + 20).toNat, by omega⟩
  have e : (((i + 20).toNat : Nat) : Int) - 20 = i := by omega
  dsimp only at h
  rw [e] at h
  unfold nuB at h
  simp only [Bool.and_eq_true, decide_eq_true_eq] at h
  obtain ⟨⟨a, b⟩, c⟩ := h
  refine ⟨?_, if_pos c⟩
  unfold sm
  rw [b, decide_eq_true a]; rfl
noncomputable def Ak (k : Nat) (x : PyData) : Prop := sm x = true ∧ PyData.depth x ≤ k
theorem Ak.up {k m : Nat} {x : PyData} (h : Ak k x) (hm : k ≤ m) : Ak m x := ⟨h.1, Nat.le_trans h.2 hm⟩
theorem ak_tup {k : Nat} {ds : List PyData} (h : ∀ x ∈ ds, Ak k x) (hl : ds.length ≤ 1000) : Ak (k + 1) (.tuple ds) := by
  refine ⟨sm_tup (fun x hx => (h x hx).1) hl, ?_⟩
  have : PyData.depth (.tuple ds) = PyData.depthAll ds + 1 := by simp only [PyData.depth]
  have := dep_le fun x hx => (h x hx).2
  omega
theorem ak_lst {k : Nat} {ds : List PyData} (h : ∀ x ∈ ds, Ak k x) (hl : ds.length ≤ 1000) : Ak (k + 1) (.list ds) := by
  refine ⟨sm_lst (fun x hx => (h x hx).1) hl, ?_⟩
  have : PyData.depth (.list ds) = PyData.depthAll ds + 1 := by simp only [PyData.depth]
  have := dep_le fun x hx => (h x hx).2
  omega
noncomputable def oddL : List PyData := [.int (-1), .int 0, .int 1, .int 20, .int 21, .int (-20), .int (-21), .bool true, .none, .str "", .str "a", .str "abcd", .str "A", .str "cf", .str "fc", .str "cc", .str "x", .tuple [], .list []]
noncomputable def oddT : PyData := .tuple [.str "a", .str "", .int 0, .int 0, .int 1, .int 1, .str ""]
noncomputable def akB (k : Nat) (x : PyData) : Bool := sm x && decide (PyData.depth x ≤ k)
theorem ak_of {k : Nat} {x : PyData} (h : akB k x = true) : Ak k x := by
  unfold akB at h
  rw [Bool.and_eq_true, decide_eq_true_eq] at h
  exact h
theorem odd_all : (oddL ++ [oddT]).all (akB 1) = true := by decide +kernel
theorem odd_eq {m : Int} (hm : 0 ≤ m) : ∃ y, F__law_odd [.int m] = some y ∧ Ak 1 y := by
  obtain ⟨j, hj⟩ : ∃ j : Nat, m % 20 = (j : Int) := ⟨(m % 20).toNat, by omega⟩
  have hjl : j < 20 := by omega
  have hlen : j < (oddL ++ [oddT]).length := hjl
  refine ⟨(oddL ++ [oddT])[j], ?_, ak_of (List.all_eq_true.mp odd_all _ (List.getElem_mem hlen))⟩
  refine run_of rfl ?_
  show g__law_odd [.val (.int m), .un] = _
  refine seq_of (set_of (d := .list oddL) (oE_of (bind_of (x := oddL) rfl (gL_ok (by decide))))) ?_
  refine ret_of (l2_of (l2_of rfl (oE_of (bind_of (aC_of (d := oddT) (lA_of rfl (tup1_ok (by decide))) rfl) (gL_ok (by simp)))) (addL (by decide))) (l2_of rfl rfl (pMod_ok (by decide))) ?_)
  rw [hj]
  exact atI_nat (List.getElem?_eq_getElem hlen)
noncomputable def Sp : Nat → PyData → Prop
  | 0, x => (∃ s, x = .str s ∧ sm (.str s) = true) ∨ ∃ i, x = .int i ∧ -20 ≤ i ∧ i ≤ 20
  | k + 1, x => ∃ ds, x = .tuple ds ∧ ds.length ≤ 100 ∧ ∀ d ∈ ds, Sp k d
theorem Sp.ak : ∀ {k : Nat} {x : PyData}, Sp k x → Ak k x
  | 0, x, h => by
    rcases h with ⟨s, rfl, h⟩ | ⟨i, rfl, _⟩
    · exact ⟨h, Nat.le_refl _⟩
    · exact ⟨rfl, Nat.le_refl _⟩
  | k + 1, x, h => by
    obtain ⟨ds, rfl, h1, h2⟩ := h
    exact ak_tup (fun d hd => (h2 d hd).ak) (by omega)
theorem bAndL {f g : En → Option Bool} {η : En} {a b : Bool} (h1 : f η = some a) (h2 : a = true → g η = some b) : bAnd f g η = some (a && b) := by
  unfold bAnd
  rw [h1]
  cases a with
  | false => rfl
  | true => exact h2 rfl
theorem ix6 {a b c d e f : PyData} {j : Nat} (hj : j < 6) {p : PyData → Prop} (h : ∀ x ∈ [a, b, c, d, e, f], p x) : ∃ y, pIx (.list [a, b, c, d, e, f]) (.int (j : Int)) = some y ∧ p y := by
  have hlen : j < [a, b, c, d, e, f].length := hj
  exact ⟨_, atI_nat (List.getElem?_eq_getElem hlen), h _ (List.getElem_mem hlen)⟩
theorem mem_cut {x : PyData} {l : List PyData} {lo hi : Option Int} (h : x ∈ cutL l lo hi) : x ∈ l := List.mem_of_mem_drop (List.mem_of_mem_take h)
theorem cut_len (l : List PyData) (lo hi : Option Int) : (cutL l lo hi).length ≤ l.length := by
  unfold cutL
  rw [List.length_take, List.length_drop]
  omega
theorem fdiv_mod {n : Nat} {η : En} {f : En → Option PyData} (hf : f η = some (.int (n : Nat))) {a b : Int} (ha : 0 < a ∧ a < 1000) (hb : 0 < b) : l2 pMod (l2 pFdiv f (eC (.int a))) (eC (.int b)) η = some (.int ((n : Int) / a % b)) :=
  l2_of (l2_of hf rfl (pFdiv_ok ⟨by omega, by omega⟩)) rfl (pMod_ok hb)
theorem spoilt_ok : ∀ (k : Nat) (x : PyData), Sp k x → ∀ (f n : Nat) (dp : Int), k < f → ∃ y, F__law_spoilt f [x, .int (n : Nat), .int dp] = some y ∧ Ak (k + 2) y
  | k, x, hx, 0, n, dp, hf => by omega
  | 0, x, hx, f + 1, n, dp, hf => by
    have ht : isB "tuple" x = false := by
      rcases hx with ⟨s, rfl, _⟩ | ⟨i, rfl, _⟩ <;> rfl
    have c1 : bAnd (bT (l2 pGt (eV 2) (eC (.int 0)))) (bAnd (bT (l1 (pIsin "tuple") (eV 0))) (bAnd (bT (l2 pGt (lA pLen (aC (eV 0) aN)) (eC (.int 0)))) (bT (l2 pGt (l2 pMod (eV 1) (eC (.int 7))) (eC (.int 0)))))) [.val x, .val (.int (n : Nat)), .val (.int dp), .un, .un] = some false := by
      refine (bAndL (b := false) (bT_of (l2_of rfl rfl rfl)) fun _ => bAndL (a := false) (b := false) (bT_of (l1_of rfl (by show some (PyData.bool (isB "tuple" x)) = _; rw [ht]))) fun z => by cases z).trans ?_
      rw [Bool.and_false]
    have c2 : bAnd (bT (l1 (pIsin "tuple") (eV 0))) (bAnd (bT (l2 pGt (lA pLen (aC (eV 0) aN)) (eC (.int 0)))) (bT (l2 pEq (l2 pMod (l2 pFdiv (eV 1) (eC (.int 7))) (eC (.int 2))) (eC (.int 0))))) [.val x, .val (.int (n : Nat)), .val (.int dp), .un, .un] = some false :=
      bAndL (a := false) (b := false) (bT_of (l1_of rfl (by show some (PyData.bool (isB "tuple" x)) = _; rw [ht]))) fun z => by cases z
    have c3 : bAnd (bT (l1 (pIsin "int") (eV 0))) (bT (l2 pEq (l2 pMod (l2 pFdiv (eV 1) (eC (.int 7))) (eC (.int 2))) (eC (.int 0)))) [.val x, .val (.int (n : Nat)), .val (.int dp), .un, .un] = some (isB "int" x && ((n : Int) / 7 % 2 == 0)) :=
      bAndL (bT_of (l1_of rfl rfl)) fun _ => bT_of (l2_of (fdiv_mod rfl (by decide) (by decide)) rfl (pEq_int _ _))
    obtain ⟨yo, eo, ao⟩ := odd_eq (m := (n : Int) / 7) (by omega)
    have fin : ∀ y, g__law_spoilt (F__law_spoilt f) F__law_odd [.val x, .val (.int (n : Nat)), .val (.int dp), .un, .un] = some (.rt y) → F__law_spoilt (f + 1) [x, .int (n : Nat), .int dp] = some y := fun y e => run_of rfl e
    cases hc : isB "int" x && ((n : Int) / 7 % 2 == 0) with
    | false =>
      rw [hc] at c3
      exact ⟨yo, fin yo (seq_of (ifN c1) (seq_of (ifN c2) (seq_of (ifN c3) (ret_of (lA_of (aC_of (l2_of rfl rfl (pFdiv_ok ⟨by omega, by omega⟩)) rfl) eo))))), ao.up (by omega)⟩
    | true =>
      rw [hc] at c3
      rw [Bool.and_eq_true] at hc
      rcases hx with ⟨s, rfl, _⟩ | ⟨i, rfl, h1, h2⟩
      · cases hc.1
      · obtain ⟨s1, s2⟩ := nu_of h1 h2
        obtain ⟨j, hj⟩ : ∃ j : Nat, (n : Int) / 14 % 6 = (j : Int) := ⟨((n : Int) / 14 % 6).toNat, by omega⟩
        obtain ⟨y, ey, ay⟩ := ix6 (a := .str (tS i)) (b := .int (0 - i)) (c := .int (i + 1)) (d := .bool (i == 1)) (e := .int (i - 30)) (f := .int (i + 30)) (j := j) (by omega) (p := Ak 0) (fun x hx => by
          simp only [List.mem_cons, List.not_mem_nil, or_false] at hx
          rcases hx with rfl | rfl | rfl | rfl | rfl | rfl
          · exact ⟨s1, Nat.le_refl _⟩
          · exact ⟨rfl, Nat.le_refl _⟩
          · exact ⟨rfl, Nat.le_refl _⟩
          · exact ⟨rfl, Nat.le_refl _⟩
          · exact ⟨rfl, Nat.le_refl _⟩
          · exact ⟨rfl, Nat.le_refl _⟩)
        refine ⟨y, fin y (seq_of (ifN c1) (seq_of (ifN c2) (seq_rt ?_))), ay.up (by omega)⟩
        rw [if_of c3, if_pos rfl]
        refine ret_of (l2_of (oE_of (bind_of (aC_of (lA_of (aC_of rfl rfl) s2) (aC_of (l2_of rfl rfl rfl) (aC_of (l2_of rfl rfl rfl) (aC_of (l2_of rfl rfl (pEq_int i 1)) (aC_of (l2_of rfl rfl rfl) (aC_of (l2_of rfl rfl rfl) rfl)))))) (gL_ok (by simp)))) (fdiv_mod rfl (by decide) (by decide)) ?_)
        rw [hj]; exact ey
  | k + 1, x, hx, f + 1, n, dp, hf => by
    obtain ⟨ds, rfl, hl, hsp⟩ := hx
    have hak : ∀ d ∈ ds, Ak k d := fun d hd => (hsp d hd).ak
    obtain ⟨yo, eo, ao⟩ := odd_eq (m := (n : Int) / 7) (by omega)
    have fin : ∀ y, g__law_spoilt (F__law_spoilt f) F__law_odd [.val (.tuple ds), .val (.int (n : Nat)), .val (.int dp), .un, .un] = some (.rt y) → F__law_spoilt (f + 1) [.tuple ds, .int (n : Nat), .int dp] = some y := fun y e => run_of rfl e
    have c1 : bAnd (bT (l2 pGt (eV 2) (eC (.int 0)))) (bAnd (bT (l1 (pIsin "tuple") (eV 0))) (bAnd (bT (l2 pGt (lA pLen (aC (eV 0) aN)) (eC (.int 0)))) (bT (l2 pGt (l2 pMod (eV 1) (eC (.int 7))) (eC (.int 0)))))) [.val (.tuple ds), .val (.int (n : Nat)), .val (.int dp), .un, .un] = some (decide ((0 : Int) < dp) && (true && (decide ((0 : Int) < (ds.length : Nat)) && decide ((0 : Int) < (n : Int) % 7)))) :=
      bAndL (bT_of (l2_of rfl rfl rfl)) fun _ => bAndL (bT_of (l1_of rfl rfl)) fun _ => bAndL (bT_of (l2_of (lA_of (aC_of rfl rfl) rfl) rfl rfl)) fun _ => bT_of (l2_of (l2_of rfl rfl (pMod_ok (by decide))) rfl rfl)
    cases hc1 : (decide ((0 : Int) < dp) && (true && (decide ((0 : Int) < (ds.length : Nat)) && decide ((0 : Int) < (n : Int) % 7)))) with
    | true =>
      rw [hc1] at c1
      simp only [Bool.and_eq_true, decide_eq_true_eq, true_and] at hc1
      have hpos : 0 < ds.length := by omega
      obtain ⟨j, hj⟩ : ∃ j : Nat, (n : Int) / 7 % (ds.length : Nat) = (j : Int) := ⟨((n : Int) / 7 % (ds.length : Nat)).toNat, by
        have := Int.emod_nonneg ((n : Int) / 7) (show ((ds.length : Nat) : Int) ≠ 0 by omega)
        omega⟩
      have hjl : j < ds.length := by
        have := Int.emod_lt_of_pos ((n : Int) / 7) (show (0 : Int) < ((ds.length : Nat) : Int) by omega)
        omega
      obtain ⟨m, hm⟩ : ∃ m : Nat, (n : Int) / 91 = (m : Int) := ⟨((n : Int) / 91).toNat, by omega⟩
      obtain ⟨y, ey, ay⟩ := spoilt_ok k ds[j] (hsp _ (List.getElem_mem hjl)) f m (dp - 1) (by omega)
      refine ⟨.tuple ((cutL ds none (some (j : Int)) ++ [y]) ++ cutL ds (some ((j : Int) + 1)) none), fin _ (seq_rt ?_), ?_⟩
      · rw [if_of c1, if_pos rfl]
        refine seq_of (set_of (d := .int (j : Int)) (l2_of (l2_of rfl rfl (pFdiv_ok ⟨by omega, by omega⟩)) (lA_of (aC_of rfl rfl) rfl) ((pMod_ok (by omega)).trans (by rw [hj])))) ?_
        refine seq_of (set_of (d := y) (lA_of (aC_of (l2_of rfl rfl (atI_nat (List.getElem?_eq_getElem hjl))) (aC_of (l2_of rfl rfl (pFdiv_ok ⟨by omega, by omega⟩)) (aC_of (l2_of rfl rfl rfl) rfl))) (by rw [hm]; exact ey))) ?_
        have l1 := cut_len ds none (some (j : Int))
        have l2' := cut_len ds (some ((j : Int) + 1)) none
        exact ret_of (l2_of (l2_of (eSl_of rfl rfl rfl rfl) (lA_of (aC_of rfl rfl) (tup1_ok (by simp))) (addT (by simp; omega))) (eSl_of rfl (pS_of (l2_of rfl rfl rfl)) rfl rfl) (addT (by rw [List.length_append]; simp; omega)))
      · refine ak_tup (fun d hd => ?_) ?_
        · rcases List.mem_append.mp hd with h | h
          · rcases List.mem_append.mp h with h | h
            · exact (hak d (mem_cut h)).up (by omega)
            · rw [List.mem_singleton.mp h]; exact ay
          · exact (hak d (mem_cut h)).up (by omega)
        · have l1 := cut_len ds none (some (j : Int))
          have l2' := cut_len ds (some ((j : Int) + 1)) none
          rw [List.length_append, List.length_append]
          simp
          omega
    | false =>
      rw [hc1] at c1
      have c2 : bAnd (bT (l1 (pIsin "tuple") (eV 0))) (bAnd (bT (l2 pGt (lA pLen (aC (eV 0) aN)) (eC (.int 0)))) (bT (l2 pEq (l2 pMod (l2 pFdiv (eV 1) (eC (.int 7))) (eC (.int 2))) (eC (.int 0))))) [.val (.tuple ds), .val (.int (n : Nat)), .val (.int dp), .un, .un] = some (true && (decide ((0 : Int) < (ds.length : Nat)) && ((n : Int) / 7 % 2 == 0))) :=
        bAndL (bT_of (l1_of rfl rfl)) fun _ => bAndL (bT_of (l2_of (lA_of (aC_of rfl rfl) rfl) rfl rfl)) fun _ => bT_of (l2_of (fdiv_mod rfl (by decide) (by decide)) rfl (pEq_int _ _))
      have c3 : bAnd (bT (l1 (pIsin "int") (eV 0))) (bT (l2 pEq (l2 pMod (l2 pFdiv (eV 1) (eC (.int 7))) (eC (.int 2))) (eC (.int 0)))) [.val (.tuple ds), .val (.int (n : Nat)), .val (.int dp), .un, .un] = some false :=
        bAndL (a := false) (b := false) (bT_of (l1_of rfl rfl)) fun z => by cases z
      cases hc2 : (true && (decide ((0 : Int) < (ds.length : Nat)) && ((n : Int) / 7 % 2 == 0))) with
      | false =>
        rw [hc2] at c2
        exact ⟨yo, fin yo (seq_of (ifN c1) (seq_of (ifN c2) (seq_of (ifN c3) (ret_of (lA_of (aC_of (l2_of rfl rfl (pFdiv_ok ⟨by omega, by omega⟩)) rfl) eo))))), ao.up (by omega)⟩
      | true =>
        rw [hc2] at c2
        obtain ⟨j, hj⟩ : ∃ j : Nat, (n : Int) / 14 % 6 = (j : Int) := ⟨((n : Int) / 14 % 6).toNat, by omega⟩
        have l1 := cut_len ds none (some (-1))
        have l2' := cut_len ds (some (-1)) none
        have l3 := cut_len ds (some 1) none
        obtain ⟨y, ey, ay⟩ := ix6 (a := .list ds) (b := .tuple (cutL ds none (some (-1)))) (c := .tuple (ds ++ cutL ds (some (-1)) none)) (d := .tuple (cutL ds (some 1) none)) (e := .tuple ds.reverse) (f := .tuple (ds ++ ds)) (j := j) (by omega) (p := Ak (k + 1)) (fun x hx => by
          simp only [List.mem_cons, List.not_mem_nil, or_false] at hx
          rcases hx with rfl | rfl | rfl | rfl | rfl | rfl
          · exact ak_lst hak (by omega)
          · exact ak_tup (fun d hd => hak d (mem_cut hd)) (by omega)
          · exact ak_tup (fun d hd => (List.mem_append.mp hd).elim (hak d) fun z => hak d (mem_cut z)) (by rw [List.length_append]; omega)
          · exact ak_tup (fun d hd => hak d (mem_cut hd)) (by omega)
          · exact ak_tup (fun d hd => hak d (List.mem_reverse.mp hd)) (by rw [List.length_reverse]; omega)
          · exact ak_tup (fun d hd => (List.mem_append.mp hd).elim (hak d) (hak d)) (by rw [List.length_append]; omega))
        refine ⟨y, fin y (seq_of (ifN c1) (seq_rt ?_)), ay.up (by omega)⟩
        rw [if_of c2, if_pos rfl]
        refine ret_of (l2_of (oE_of (bind_of (aC_of (lA_of (aC_of rfl rfl) rfl) (aC_of (eSl_of rfl rfl rfl rfl) (aC_of (l2_of rfl (eSl_of rfl rfl rfl rfl) (addT (by omega))) (aC_of (eSl_of rfl rfl rfl rfl) (aC_of (l2_of rfl rfl rfl) (aC_of (l2_of rfl rfl (if_pos ⟨rfl, by omega⟩)) rfl)))))) (gL_ok (by simp)))) (fdiv_mod rfl (by decide) (by decide)) ?_)
        rw [hj]; exact ey
end K01
namespace K01
open PySem L2 L2.PU
theorem mk_sm : ∀ a b c d : Bool, sm (.str (mkS [a, b, c, d])) = true := by decide +kernel
theorem nm_sm : ∀ k : Fin 8, sm (.str ⟨#[let8.getD k.val 0]⟩) = true := by decide +kernel
theorem sm_nm {t i : Nat} (h : i ≤ 8) : sm (.str (nmT t i)) = true := by
  cases i with
  | zero => show sm (.str "") = true; decide +kernel
  | succ j =>
    rw [nmT_lo (by omega)]
    exact nm_sm ⟨(j + t) % 8, Nat.mod_lt _ (by decide)⟩
theorem sp_scene {c : Dr} (h : c.Ok) {tn : Nat} (hn : c.nm = nmT tn) (hl : c.ps.length ≤ 7) : Sp 2 c.d := by
  refine ⟨_, rfl, by rw [List.length_map, List.length_range]; omega, fun d hd => ?_⟩
  obtain ⟨i, hi, rfl⟩ := List.mem_map.mp hd
  have hi := List.mem_range.mp hi
  have b := h.bds i
  have hp := h.par i
  unfold bd at b
  refine ⟨_, rfl, by simp, fun x hx => ?_⟩
  simp only [List.mem_cons, List.not_mem_nil, or_false] at hx
  rcases hx with rfl | rfl | rfl | rfl | rfl | rfl | rfl
  · exact .inl ⟨_, rfl, by rw [hn]; exact sm_nm (by omega)⟩
  · exact .inl ⟨_, rfl, by rw [hn]; exact sm_nm (by omega)⟩
  · exact .inr ⟨_, rfl, by omega, by omega⟩
  · exact .inr ⟨_, rfl, by omega, by omega⟩
  · exact .inr ⟨_, rfl, by omega, by omega⟩
  · exact .inr ⟨_, rfl, by omega, by omega⟩
  · refine .inl ⟨_, rfl, ?_⟩
    obtain ⟨bs, hb, e⟩ := h.mks i
    rw [e]
    match bs, hb with
    | [a, b, c, d], _ => exact mk_sm a b c d
noncomputable def kch (k : Nat) : Str := ⟨#[97 + k]⟩
theorem kch_all : ∀ k : Fin 13, ("abcdefghijklm" : Str).cps.toList[k.val]? = some (97 + k.val) := by decide +kernel
theorem kk_all : ∀ k : Fin 13, sm (.str ("k" ++ kch k.val)) = true := by decide +kernel
theorem kix {k : Nat} (h : k < 13) : pIx (.str "abcdefghijklm") (.int (k : Int)) = some (.str (kch k)) := by
  show (if ("abcdefghijklm" : Str).length ≤ sizeLine then (atI ("abcdefghijklm" : Str).cps.toList (k : Int)).bind fun c => some (PyData.str ⟨#[c]⟩) else none) = _
  rw [if_pos (big (by decide +kernel)), atI_nat (kch_all ⟨k, h⟩)]; rfl
noncomputable def kbx (k : Nat) : PyData := .tuple [.str ("k" ++ kch k), .str "", .int (k : Int), .int 0, .int 1, .int (k : Int), .str ""]
theorem addS {a b : Str} (h : a.length + b.length ≤ 3000000) : pAdd (.str a) (.str b) = some (.str (a ++ b)) := if_pos (big h)
theorem kbx_ak {k : Nat} (h : k < 13) : Ak 1 (kbx k) := ak_tup (fun x hx => by
  simp only [List.mem_cons, List.not_mem_nil, or_false] at hx
  have e0 : sm (.str "") = true := by decide +kernel
  rcases hx with rfl | rfl | rfl | rfl | rfl | rfl | rfl
  · exact ⟨kk_all ⟨k, h⟩, Nat.le_refl _⟩
  · exact ⟨e0, Nat.le_refl _⟩
  · exact ⟨rfl, Nat.le_refl _⟩
  · exact ⟨rfl, Nat.le_refl _⟩
  · exact ⟨rfl, Nat.le_refl _⟩
  · exact ⟨rfl, Nat.le_refl _⟩
  · exact ⟨e0, Nat.le_refl _⟩) (by simp)
noncomputable def thB : En → Option Out := sSeq (sSet 5 (lA F_is_scene (aC (eV 4) aN))) (sIf (bOr (bNot (bT (l1 (pIsin "bool") (eV 5)))) (bT (l2 pNe (eV 5) (lA F__law_is_scene (aC (eV 4) aN))))) (sRet (eC (.bool false))) sNx)
theorem shaped_bool (b : Bool) : SeqAt.shaped (.bool b) = true := by cases b <;> rfl
theorem th_go {x0 x1 x2 x3 : Sl} : ∀ (l : List PyData) (s4 s5 : Sl), (∀ x ∈ l, Ak 40 x) → ∃ s4' s5', sGo (tgN 4) thB l [x0, x1, x2, x3, s4, s5, .un] = some (.nx [x0, x1, x2, x3, s4', s5', .un])
  | [], s4, s5, _ => ⟨s4, s5, rfl⟩
  | x :: r, s4, s5, h => by
    obtain ⟨e1, e2⟩ := Ask.both (h x List.mem_cons_self)
    obtain ⟨s4', s5', e⟩ := th_go r (.val x) (.val (.bool (okS x))) fun y hy => h y (List.mem_cons_of_mem _ hy)
    refine ⟨s4', s5', ?_⟩
    unfold sGo
    show Option.bind (thB [x0, x1, x2, x3, .val x, s5, .un]) _ = _
    have eb : thB [x0, x1, x2, x3, .val x, s5, .un] = some (.nx [x0, x1, x2, x3, .val x, .val (.bool (okS x)), .un]) :=
      seq_of (set_of (lA_of (aC_of rfl rfl) e1)) (ifN (bOr2 (a := false) (b := false) (bNot_of (b := true) (bT_of rfl)) fun _ => bT_of (l2_of rfl (lA_of (aC_of rfl rfl) e2) (pNe_self (shaped_bool _)))))
    rw [eb]
    exact e
noncomputable def baseD : PyData := .tuple [.tuple [.str "a", .str "", .int (-20), .int 20, .int 0, .int 20, .str "c"], .tuple [.str "b", .str "a", .int 0, .int 0, .int 1, .int 1, .str "fh"]]
noncomputable def eachB : Bool := match F__law_each 13 [baseD] with
  | some (.list l) => l.all (akB 40) && decide (l.length ≤ 1000)
  | _ => false
theorem each_ok : eachB = true := by decide +kernel
theorem each_is : ∃ l, F__law_each 13 [baseD] = some (.list l) ∧ (∀ x ∈ l, Ak 40 x) ∧ l.length ≤ 1000 := by
  have h := each_ok
  unfold eachB at h
  split at h
  · rename_i l e
    rw [Bool.and_eq_true, List.all_eq_true, decide_eq_true_eq] at h
    exact ⟨l, e, fun x hx => ak_of (h.1 x hx), h.2⟩
  · cases h
theorem base_ak : Ak 40 baseD := ak_of (by decide +kernel)
theorem main : ∀ ns : List Int, ns.length ≤ 63 → F_law [.list (ns.map PyData.int)] = some (.bool true) := fun ns hn => by
  obtain ⟨d, tn, hd, hnm, hlen, es⟩ := scene_ok hn
  have hsp := sp_scene hd hnm hlen
  obtain ⟨ds, hds, hl, hin⟩ := hsp
  have hsp : Sp 2 (.tuple ds) := ⟨ds, rfl, hl, hin⟩
  rw [hds] at es
  have hak : ∀ x ∈ ds, Ak 1 x := fun x hx => (hin x hx).ak
  obtain ⟨v0, b0, d0⟩ := drawn_ok hn (k := 100) (m := 1000000) (by decide) (by decide)
  obtain ⟨v1, b1, d1⟩ := drawn_ok hn (k := 101) (m := 3) (by decide) (by decide)
  obtain ⟨v2, b2, d2⟩ := drawn_ok hn (k := 102) (m := 14) (by decide) (by decide)
  obtain ⟨y, ey, ay⟩ := spoilt_ok 2 (.tuple ds) hsp 13 v0 (v1 : Int) (by decide)
  obtain ⟨l, el, al, ll⟩ := each_is
  have hv2 : v2 ≤ 13 := by omega
  have akl : ∀ x ∈ ds ++ (List.range v2).map kbx, Ak 1 x := fun x hx => by
    rcases List.mem_append.mp hx with h | h
    · exact hak x h
    · obtain ⟨k, hk, rfl⟩ := List.mem_map.mp h
      have := List.mem_range.mp hk
      exact kbx_ak (by omega)
  have hll : (ds ++ (List.range v2).map kbx).length ≤ 200 := by rw [List.length_append, List.length_map, List.length_range]; omega
  obtain ⟨s4, s5, eg⟩ := th_go (x0 := .val (Sd ns)) (x1 := .val (.tuple ds)) (x2 := .val y) (x3 := .val (.tuple (ds ++ (List.range v2).map kbx)))
    [.tuple ds, y, .tuple (ds ++ (List.range v2).map kbx), .list ds, .tuple ds.reverse, .tuple (ds ++ ds), .tuple [.tuple [.str "a", .str "a", .int 0, .int 0, .int 1, .int 1, .str ""]], .none] .un .un (fun x hx => by
      simp only [List.mem_cons, List.not_mem_nil, or_false] at hx
      rcases hx with rfl | rfl | rfl | rfl | rfl | rfl | rfl | rfl
      · exact (ak_tup hak (by omega)).up (by decide)
      · exact ay.up (by decide)
      · exact (ak_tup akl (by omega)).up (by decide)
      · exact (ak_lst hak (by omega)).up (by decide)
      · exact (ak_tup (fun d hd => hak d (List.mem_reverse.mp hd)) (by rw [List.length_reverse]; omega)).up (by decide)
      · exact (ak_tup (fun d hd => (List.mem_append.mp hd).elim (hak d) (hak d)) (by rw [List.length_append]; omega)).up (by decide)
      · exact ak_of (by decide +kernel)
      · exact ak_of (by decide +kernel))
  refine run_of rfl ?_
  show g_law F__law_scene F__law_drawn (F__law_spoilt 13) F_is_scene F__law_is_scene (F__law_each 13) [.val (Sd ns), .un, .un, .un, .un, .un, .un] = _
  refine seq_of (set_of (lA_of (aC_of rfl (aC_of rfl rfl)) es)) ?_
  refine seq_of (set_of (d := y) (lA_of (aC_of rfl (aC_of (lA_of (aC_of rfl (aC_of rfl (aC_of (d := .int 1000000) (l2_of rfl rfl rfl) rfl))) d0) (aC_of (lA_of (aC_of rfl (aC_of rfl (aC_of rfl rfl))) d1) rfl))) ey)) ?_
  refine seq_of (set_of (d := .tuple (ds ++ (List.range v2).map kbx)) (l2_of rfl (lA_of (aC_of (oE_of (ds := (List.range v2).map kbx) ?_) rfl) rfl) (addT (by rw [List.length_append] at hll; omega)))) ?_
  · refine comp_eq (ds := (List.range v2).map fun (k : Nat) => .int (k : Int)) ?_ (by rw [List.length_map, List.length_range]; omega) ?_
    · show ((aC (lA F__law_drawn (aC (eV 0) (aC (eC (.int 102)) (aC (eC (.int 14)) aN)))) aN) _).bind rng1 = _
      rw [aC_of (lA_of (aC_of rfl (aC_of rfl (aC_of rfl rfl))) d2) rfl, Option.bind_some, rng1_ok (by omega) (by omega)]
      unfold rngL
      congr 1
      refine List.map_congr_left fun k _ => ?_
      show PyData.int (0 + (k : Int)) = _
      rw [Int.zero_add]
    · refine cGo_mapT (fun (k : Nat) => PyData.int (k : Int)) kbx (List.range v2) fun k hk => ⟨[.val (.int (k : Int))], rfl, ?_⟩
      have hk' := List.mem_range.mp hk
      refine lA_of (aC_of (l2_of rfl (l2_of rfl rfl (kix (by omega))) (addS ?_)) (aC_of rfl (aC_of rfl (aC_of rfl (aC_of rfl (aC_of rfl (aC_of rfl rfl))))))) (tup1_ok (by simp))
      have : ("k" : Str).length = 1 := by decide +kernel
      rw [this]
      show 1 + 1 ≤ 3000000
      decide
  refine seq_of (for_of (lI_of (lA_of (aC_of rfl (aC_of rfl (aC_of rfl (aC_of (lA_of (aC_of rfl rfl) rfl) (aC_of (l2_of rfl rfl rfl) (aC_of (l2_of rfl rfl (if_pos ⟨rfl, by omega⟩)) (aC_of rfl (aC_of rfl rfl)))))))) (tup1_ok (by simp))) rfl) eg) ?_
  refine seq_of (set_of (d := baseD) rfl) ?_
  refine ret_of (l2_of (oE_of (ds := []) ?_) (oE_of (ds := []) (gL_ok (by decide))) rfl)
  refine comp_eq (ds := baseD :: l) (lI_of (l2_of (oE_of (bind_of (aC_of rfl rfl) (gL_ok (by simp)))) (lA_of (aC_of rfl rfl) el) (addL (by simp; omega))) rfl) (by simp; omega) ?_
  have hall : ∀ x ∈ baseD :: l, Ak 40 x := fun x hx => by
    rcases List.mem_cons.mp hx with rfl | h
    · exact base_ak
    · exact al x h
  have := cGo_map (t := tgN 0) (p := bT (l2 pNe (lA F_is_scene (aC (eV 0) aN)) (lA F__law_is_scene (aC (eV 0) aN)))) (f := eV 0) (η := [.un]) id (fun _ => false) id (baseD :: l) fun x hx => by
    obtain ⟨e1, e2⟩ := Ask.both (hall x hx)
    exact ⟨[.val x], rfl, bT_of (l2_of (lA_of (aC_of rfl rfl) e1) (lA_of (aC_of rfl rfl) e2) (pNe_self (shaped_bool _))), fun z => by cases z⟩
  rw [List.map_id, List.map_id] at this
  refine this.trans ?_
  simp
end K01
open PySem PySem.W PyProof.Rows
noncomputable def K01.view : Program := { PySem.Challenge.pw_touchtree_k01_known with main := { PySem.Challenge.pw_touchtree_k01_known.main with body := [20, 0].foldl (fun l i => l.eraseIdx i) PySem.Challenge.pw_touchtree_k01_known.main.body } }
set_option hygiene false in
local macro_rules
  | `(tactic| o_head $H) => `(tactic| (
      refine holds_open (q := K01.view) (loose := []) (Xt := fun s => xlAt K01.view [] s && recOk (RowW.records (OpenRow.toRowW (OpenLaw.row PySem.Challenge.rw_touchtree_k01_known))) s) (XP := XL K01.view []) (Yf := Hook.obs $H) (Ya := Hook.val $H) (YP := Hook.says $H) (N := 1454) ?hl (Hook.of $H) (Hook.keeps $H) (fun s e => xl_of s (Bool.and_eq_true_iff.mp e).1) XL.keeps (by rfl) (by rfl) (by rfl) (fun s e => recFacts_of (Bool.and_eq_true_iff.mp e).2) (by rfl) (by assumption) (by decide +kernel) ⟨rfl, rfl, rfl, rfl, rfl, by decide +kernel⟩ ?hw ?hc
      (case hl => (intro w; unfold openEnds fencedOpening topFrom; rewrite [PySem.W.Fast.te10274390034422433532, PySem.W.Fast.te14082659384304107361, PySem.W.Fast.te14364793385576792824, PySem.W.Fast.te14289696077712309145, PySem.W.Fast.te1435165496053646825, PySem.W.Fast.te4187177175401517315, PySem.W.Fast.te9433647171915902283]; kernel_rfl))))
set_option maxRecDepth 100000 in
set_option maxHeartbeats 0 in
theorem PySem.Challenge.cw_touchtree_k01_known_holds : PySem.Challenge.rw_touchtree_k01_known.Holds := by
  w_on; o_law; k_head; (case hw => w_witness2)
  k_fill
  refine K01.walk K01.main (l := PySem.Challenge.rw_touchtree_k01_known) rfl rfl (fun w h Y => PySem.W.kIn_of Y) ?F
  case F =>
    intro w mg fa h KX G hmg
    refine' K01.all_mk KX G hmg ?a__law_cell ?l__law_cell ?c__law_cell ?k__law_cell ?a__law_drawn ?l__law_drawn ?c__law_drawn ?k__law_drawn ?a__law_scene ?l__law_scene ?c__law_scene ?k__law_scene ?a__law_odd ?l__law_odd ?c__law_odd ?k__law_odd ?a__law_spoilt ?l__law_spoilt ?c__law_spoilt ?k__law_spoilt ?a_is_marks ?l_is_marks ?c_is_marks ?k_is_marks ?a_is_name ?l_is_name ?c_is_name ?k_is_name ?a_is_whole ?l_is_whole ?c_is_whole ?k_is_whole ?a_is_box ?l_is_box ?c_is_box ?k_is_box ?a_is_scene ?l_is_scene ?c_is_scene ?k_is_scene ?a__law_is_number ?l__law_is_number ?c__law_is_number ?k__law_is_number ?a__law_is_box ?l__law_is_box ?c__law_is_box ?k__law_is_box ?a__law_is_scene ?l__law_is_scene ?c__law_is_scene ?k__law_is_scene ?a__law_each ?l__law_each ?c__law_each ?k__law_each ?a_law ?l_law ?c_law ?k_law ?c_ALL_MARKS ?c_AROUND ?c_FARTHEST ?c_HEIGHT ?c_LARGEST ?c_LEFT ?c_LETTERS ?c_LONGEST_NAME ?c_MARKS ?c_MOST_BOXES ?c_NAME ?c_PARTS ?c_TOP ?c_WIDTH ?z_all ?z_bool ?z_enumerate ?z_int ?z_isinstance ?z_len ?z_list ?z_range ?z_str ?z_tuple
    (case a__law_cell => k_is); (case l__law_cell => k_is); (case c__law_cell => k_is); (case k__law_cell => k_is)
    (case a__law_drawn => k_is); (case l__law_drawn => k_is); (case c__law_drawn => k_is); (case k__law_drawn => k_is)
    (case a__law_scene => k_is); (case l__law_scene => k_is); (case c__law_scene => k_is); (case k__law_scene => k_is)
    (case a__law_odd => k_is); (case l__law_odd => k_is); (case c__law_odd => k_is); (case k__law_odd => k_is)
    (case a__law_spoilt => k_is); (case l__law_spoilt => k_is); (case c__law_spoilt => k_is); (case k__law_spoilt => k_is)
    (case a_is_marks => k_is); (case l_is_marks => k_is); (case c_is_marks => k_is); (case k_is_marks => k_is)
    (case a_is_name => k_is); (case l_is_name => k_is); (case c_is_name => k_is); (case k_is_name => k_is)
    (case a_is_whole => k_is); (case l_is_whole => k_is); (case c_is_whole => k_is); (case k_is_whole => k_is)
    (case a_is_box => k_is); (case l_is_box => k_is); (case c_is_box => k_is); (case k_is_box => k_is)
    (case a_is_scene => k_is); (case l_is_scene => k_is); (case c_is_scene => k_is); (case k_is_scene => k_is)
    (case a__law_is_number => k_is); (case l__law_is_number => k_is); (case c__law_is_number => k_is); (case k__law_is_number => k_is)
    (case a__law_is_box => k_is); (case l__law_is_box => k_is); (case c__law_is_box => k_is); (case k__law_is_box => k_is)
    (case a__law_is_scene => k_is); (case l__law_is_scene => k_is); (case c__law_is_scene => k_is); (case k__law_is_scene => k_is)
    (case a__law_each => k_is); (case l__law_each => k_is); (case c__law_each => k_is); (case k__law_each => k_is)
    (case a_law => k_is); (case l_law => k_is); (case c_law => k_is); (case k_law => k_is)
    (case c_ALL_MARKS => k_is)
    (case c_AROUND => k_is)
    (case c_FARTHEST => k_is)
    (case c_HEIGHT => k_is)
    (case c_LARGEST => k_is)
    (case c_LEFT => k_is)
    (case c_LETTERS => k_is)
    (case c_LONGEST_NAME => k_is)
    (case c_MARKS => k_is)
    (case c_MOST_BOXES => k_is)
    (case c_NAME => k_is)
    (case c_PARTS => k_is)
    (case c_TOP => k_is)
    (case c_WIDTH => k_is)
    (case z_all => k_is)
    (case z_bool => k_is)
    (case z_enumerate => k_is)
    (case z_int => k_is)
    (case z_isinstance => k_is)
    (case z_len => k_is)
    (case z_list => k_is)
    (case z_range => k_is)
    (case z_str => k_is)
    (case z_tuple => k_is)
#print axioms PySem.Challenge.cw_touchtree_k01_known_holds
