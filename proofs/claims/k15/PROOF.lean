import PyProof.Rows.All
import Wide.All
import OpenK.AllK
import Wide.FinOn
import PyProof.EqAt
import PyProof.EqKinds
import PyProof.TupleCall
import PyProof.CompFree
import PyProof.Cells
import KE.KDictList
import KE.KDictLaws
import PyProof.Rows.SetFrom
import Lean
import PySem.Challenge.RW_touchtree_k15_whole_once
set_option Elab.async false
set_option linter.all false
set_option maxRecDepth 100000
namespace L2
open PySem PySem.Spec PyProof.Rows
noncomputable abbrev Key:=Sum Int Str
noncomputable def keyIs:Key→Value→Bool
  | .inl k,v=>Value.isInt k v
  | .inr x,v=>Value.isStrOf x v
noncomputable def keyH (w:World):Key→Int
  | .inl k=>hashInt k
  | .inr x=>hashStr w x
theorem keyIs_shape:∀ {k:Key} {v:Value},keyIs k v=true→(∃ i t,k=Sum.inl i∧v=Value.int i t)∨(∃ x t,k=Sum.inr x∧v=Value.str x t)
  | .inl i,v,h=>by
    obtain ⟨t,e⟩:=Value.isInt_shape (k:=i) (v:=v) h
    exact .inl ⟨i,t,rfl,e⟩
  | .inr x,v,h=>by
    obtain ⟨t,e⟩:=Value.isStrOf_shape (x:=x) (v:=v) h
    exact .inr ⟨x,t,rfl,e⟩
theorem keyIs_int (i:Int) (t:Tok):keyIs (.inl i) (.int i t)=true:=by simp [keyIs,Value.isInt]
theorem keyIs_str (x:Str) (t:Tok):keyIs (.inr x) (.str x t)=true:=by simp [keyIs,Value.isStrOf]
theorem key_ll (a b:Int):decide ((Sum.inl a:Key)=Sum.inl b)=(a==b):=by
  by_cases e:a=b
  · subst e; simp
  · have h:¬ (Sum.inl a:Key)=Sum.inl b:=fun q=>e (Sum.inl.inj q)
    rw [decide_eq_false h]
    exact (beq_eq_false_iff_ne.mpr e).symm
theorem key_rr (a b:Str):decide ((Sum.inr a:Key)=Sum.inr b)=decide (a=b):=by
  by_cases e:a=b
  · subst e; simp
  · have h:¬ (Sum.inr a:Key)=Sum.inr b:=fun q=>e (Sum.inr.inj q)
    rw [decide_eq_false h,decide_eq_false e]
theorem key_lr (a:Int) (b:Str):decide ((Sum.inl a:Key)=Sum.inr b)=false:=decide_eq_false (fun q=>nomatch q)
theorem key_rl (a:Str) (b:Int):decide ((Sum.inr a:Key)=Sum.inl b)=false:=decide_eq_false (fun q=>nomatch q)
noncomputable def mixKind (prog:Program) (w:World):PySem.KeyKind prog w Key where
  is:=keyIs
  hash:=keyH w
  inj:=fun v a b ha hb=>by
    rcases keyIs_shape ha with ⟨i,t,rfl,rfl⟩ | ⟨x,t,rfl,rfl⟩
    · rcases keyIs_shape hb with ⟨j,u,rfl,e⟩ | ⟨y,u,rfl,e⟩
      · injection e with e1 _; rw [e1]
      · exact nomatch e
    · rcases keyIs_shape hb with ⟨j,u,rfl,e⟩ | ⟨y,u,rfl,e⟩
      · exact nomatch e
      · injection e with e1 _; rw [e1]
  byValue:=fun k v h=>by
    rcases keyIs_shape h with ⟨i,t,rfl,rfl⟩ | ⟨x,t,rfl,rfl⟩ <;> rfl
  pyHash:=fun hv h=>by
    rcases keyIs_shape hv with ⟨i,t,rfl,rfl⟩ | ⟨x,t,rfl,rfl⟩
    · exact wpAny_pyHash_int h
    · exact wpAny_pyHash_str h
  eqBool:=fun hu hv h=>by
    rcases keyIs_shape hu with ⟨i,t,rfl,rfl⟩ | ⟨x,t,rfl,rfl⟩
    · rcases keyIs_shape hv with ⟨j,u,rfl,rfl⟩ | ⟨y,u,rfl,rfl⟩
      · rw [key_ll] at h; exact wpAny_eqBool_int h
      · rw [key_lr] at h; exact SeqAt.EqAt.int_str i t y u _ _ _ _ h
    · rcases keyIs_shape hv with ⟨j,u,rfl,rfl⟩ | ⟨y,u,rfl,rfl⟩
      · rw [key_rl] at h; exact SeqAt.EqAt.str_int x t j u _ _ _ _ h
      · rw [key_rr] at h; exact wpAny_eqBool_str h
  «strs»:=fun k x t v h=>by
    rcases keyIs_shape h with ⟨i,u,rfl,e⟩ | ⟨y,u,rfl,e⟩
    · exact nomatch e
    · injection e with e1 _
      subst e1
      cases v <;> rfl
theorem mixKind_int (prog:Program) (w:World) (i:Int) (t:Tok):(mixKind prog w).is (.inl i) (.int i t)=true:=keyIs_int i t
theorem mixKind_str (prog:Program) (w:World) (x:Str) (t:Tok):(mixKind prog w).is (.inr x) (.str x t)=true:=keyIs_str x t
end L2
namespace L2
open PySem PySem.Spec PyProof.Rows
inductive V where
  | non | bl (b:Bool) | int (i:Int) | str (x:Str) | byt (b:Array UInt8) | flt (b:UInt64) | ref (a:Addr) | ty (n:String)
  deriving DecidableEq
noncomputable def RelV:V→Value→Prop
  | .non,u=>u=Value.none
  | .bl b,u=>u=Value.bool b
  | .int i,u=>∃ t,u=Value.int i t
  | .str x,u=>∃ t,u=Value.str x t
  | .byt b,u=>∃ t,u=Value.bytes b t
  | .flt b,u=>∃ t,u=Value.float b t
  | .ref a,u=>u=Value.ref a
  | .ty n,u=>u=Value.type n
noncomputable abbrev Vals:List V→List Value→Prop:=Paired RelV
theorem Vals.length {xs:List V} {us:List Value} (r:Vals xs us):xs.length=us.length:=Paired.length r
theorem Vals.get:∀ {xs:List V} {us:List Value} {i:Nat} {x:V},Vals xs us→xs[i]?=some x→∃ u,us[i]?=some u∧RelV x u
  | _,_,_,_,.nil,e=>by simp at e
  | _,_,0,_,.cons r _,e=>by simp at e; subst e; exact ⟨_,rfl,r⟩
  | _,_,i+1,x,.cons _ t,e=>by
    obtain ⟨u,h1,h2⟩:=Vals.get (i:=i) (x:=x) t (by simpa using e)
    exact ⟨u,by simpa using h1,h2⟩
theorem Vals.append:∀ {xs ys:List V} {us ws:List Value},Vals xs us→Vals ys ws→Vals (xs++ys) (us++ws)
  | _,_,_,_,.nil,s=>s
  | _,_,_,_,.cons r t,s=>.cons r (Vals.append t s)
theorem Vals.take:∀ {xs:List V} {us:List Value} (n:Nat),Vals xs us→Vals (xs.take n) (us.take n)
  | _,_,0,_=>.nil
  | _,_,_+1,.nil=>.nil
  | _,_,n+1,.cons r t=>.cons r (Vals.take n t)
theorem Vals.drop:∀ {xs:List V} {us:List Value} (n:Nat),Vals xs us→Vals (xs.drop n) (us.drop n)
  | _,_,0,r=>r
  | _,_,_+1,.nil=>.nil
  | _,_,n+1,.cons _ t=>Vals.drop n t
noncomputable def RelO:Option V→Option Value→Prop
  | some v,some u=>RelV v u
  | none,none=>True
  | _,_=>False
noncomputable def KV {κ:Type}:List (κ×V)→List (κ×Value)→Prop:=Paired fun (p:κ×V) (q:κ×Value)=>p.1=q.1∧RelV p.2 q.2
noncomputable def kV:Key→V
  | .inl i=>.int i
  | .inr x=>.str x
inductive HO where
  | lst (xs:List V)
  | tup (xs:List V)
  | dK (kvs:List (Key×V)) | dT (kvs:List (List Key×V))
  | set (S:Int→Bool) (n:Nat)
  | ins (C dx:Addr) (fs:List (Str×V))
  | own (x:Addr)
  | xd (fs:List (Str×V))
  | met (f x:Addr)
  | rng (lo hi:Int)
  | frz (o:Obj) (u:HO)
  | tbl (ps:Array Value)
  | ext (φ:Heap→Prop)
noncomputable abbrev Hp:=Addr→Option HO
noncomputable def upd (H:Hp) (a:Addr) (o:HO):Hp:=fun b=>if b=a then some o else H b
theorem upd_same {H:Hp} {a:Addr} {o:HO}:upd H a o a=some o:=by unfold upd; rw [if_pos rfl]
theorem upd_ne {H:Hp} {a b:Addr} {o:HO} (h:b≠a):upd H a o b=H b:=by unfold upd; rw [if_neg h]
theorem ne_of {H:Hp} {a b:Addr} {o u:HO} (h:H a=some o) (h':H b=some u) (d:o≠u):a≠b:=by
  intro e; subst e; rw [h] at h'; exact d (Option.some.inj h')
theorem ne_of_none {H:Hp} {a b:Addr} {o:HO} (h:H a=some o) (h':H b=none):a≠b:=by
  intro e; subst e; rw [h] at h'; cases h'
section
variable (P:Program) (w:World)
noncomputable def ObjOk (H:Hp) (h:Heap) (a:Addr):HO→Prop
  | .lst xs=>xs.length≤sizeLine∧∃ (its:List Value) (n:Nat),Vals xs its∧h.get? a=some { cls:=.type "list", data:=.seq its.toArray n }
  | .tup xs=>xs.length≤sizeLine∧∃ its:List Value,Vals xs its∧IsTup h a its.toArray
  | .dK kvs=>kvs.length≤sizeLine∧(a==sysModules)=false∧∃ vs,KV kvs vs∧h.DictOf (mixKind P w) a vs
  | .dT kvs=>kvs.length≤sizeLine∧(a==sysModules)=false∧∃ xs:List (List Key×Addr×Value),
      Paired (fun (p:List Key×V) (q:List Key×Addr×Value)=>p.1=q.1∧H q.2.1=some (.tup (p.1.map kV))∧RelV p.2 q.2.2) kvs xs ∧
      ∃ o es ep,h.get? a=some o∧o.ExactDict∧o.data=.dict es ep∧es.toList=xs.map (entryOfKey (tupleKind (mixKind P w)))∧(xs.map (·.1)).Nodup
  | .set S n=>h.SetOf (intKind P w) a S n
  | .ins C dx fs=>H dx=some (.own a)∧fs.length≤1000∧dx≠a∧h.get? a=some (PySem.W.instObj C dx) ∧
      ∃ mA,h.Ns1 dx mA∧(∀ f,RelO (fs.lookup f) (mA f))∧PySem.Within mA (fs.map (·.1))
  | .own _=>∃ o,h.get? a=some o
  | .xd fs=>∃ mA,h.Ns1 a mA∧∀ f,RelO (fs.lookup f) (mA f)
  | .rng lo hi=>∃ t u v,h.get? a=some { cls:=.type "range", data:=.fields #[.int lo t,.int hi u,.int 1 v] }
  | .frz o u=>h.get? a=some o∧ObjOk H h a u
  | .tbl ps=>h.get? a=some { cls:=.none,data:=.fields ps }
  | .met f x=>h.get? a=some (PySem.W.methodObj (.ref f) (.ref x))
  | .ext φ=>φ h∧(∃ o,h.get? a=some o)∧∀ h1 h2:Heap,φ h1→(∀ o,h1.get? a=some o→h2.get? a=some o)→φ h2
noncomputable def HOk (H:Hp) (h:Heap):Prop:=∀ a o,H a=some o→ObjOk P w H h a o
end
section
variable {P:Program} {w:World} {H H':Hp} {h h':Heap} {a:Addr} {o:HO}
theorem ObjOk.lt (x:ObjOk P w H h a o):a < h.objs.size:=by
  cases o with
  | lst xs=>obtain ⟨_,_,_,_,e⟩:=x; exact Heap.lt_size e
  | tup xs=>obtain ⟨_,_,_,p⟩:=x; exact p.lt
  | dK kvs=>obtain ⟨_,_,_,_,o,_,_,e,_⟩:=x; exact Heap.lt_size e
  | dT kvs=>obtain ⟨_,_,_,_,o,_,_,e,_⟩:=x; exact Heap.lt_size e
  | set S n=>obtain ⟨o,_,_,_,e,_⟩:=x; exact Heap.lt_size e
  | ins C dx fs=>obtain ⟨_,_,_,e,_⟩:=x; exact Heap.lt_size e
  | own y=>obtain ⟨_,e⟩:=x; exact Heap.lt_size e
  | xd fs=>obtain ⟨_,⟨_,_,_,e,_⟩,_⟩:=x; exact Heap.lt_size e
  | rng lo hi=>obtain ⟨_,_,_,e⟩:=x; exact Heap.lt_size e
  | frz ob u=>obtain ⟨e,_⟩:=x; exact Heap.lt_size e
  | tbl ps=>exact Heap.lt_size (show h.get? a=some _ from x)
  | met f y=>exact Heap.lt_size (show h.get? a=some _ from x)
  | ext φ=>obtain ⟨_,⟨_,e⟩,_⟩:=x; exact Heap.lt_size e
theorem Paired.mapP {α β:Type} {F G:α→β→Prop}:∀ {l₁:List α} {l₂:List β},Paired F l₁ l₂→(∀ a b,F a b→G a b)→Paired G l₁ l₂
  | _,_,.nil,_=>.nil
  | _,_,.cons r t,f=>.cons (f _ _ r) (Paired.mapP t f)
theorem ObjOk.stay (x:ObjOk P w H h a o) (k:∀ b u,(b=a∨H b=some (.own a))→h.get? b=some u→h'.get? b=some u)
    (ho:∀ b,H b=some (.own a)→H' b=some (.own a)) (ht:∀ b xs,H b=some (.tup xs)→H' b=some (.tup xs)):ObjOk P w H' h' a o:=by
  induction o with
  | lst xs=>obtain ⟨z,its,n,r,e⟩:=x; exact ⟨z,its,n,r,k _ _ (.inl rfl) e⟩
  | tup xs=>obtain ⟨z,its,r,ob,e,c⟩:=x; exact ⟨z,its,r,ob,k _ _ (.inl rfl) e,c⟩
  | dK kvs=>obtain ⟨z,y,vs,r,ob,es,ep,e,c⟩:=x; exact ⟨z,y,vs,r,ob,es,ep,k _ _ (.inl rfl) e,c⟩
  | dT kvs =>
    obtain ⟨z,y,xs,r,ob,es,ep,e,c⟩:=x
    exact ⟨z,y,xs,Paired.mapP r fun p q z=>⟨z.1,ht _ _ z.2.1,z.2.2⟩,ob,es,ep,k _ _ (.inl rfl) e,c⟩
  | set S n=>obtain ⟨ob,es,ep,t,e,c⟩:=x; exact ⟨ob,es,ep,t,k _ _ (.inl rfl) e,c⟩
  | ins C dx fs =>
    obtain ⟨d,z,ne,e,mA,⟨od,es,ep,e2,c⟩,r⟩:=x
    exact ⟨ho _ d,z,ne,k _ _ (.inl rfl) e,mA,⟨od,es,ep,k _ _ (.inr d) e2,c⟩,r⟩
  | own y=>obtain ⟨ob,e⟩:=x; exact ⟨ob,k _ _ (.inl rfl) e⟩
  | xd fs=>obtain ⟨mA,⟨od,es,ep,e,c⟩,r⟩:=x; exact ⟨mA,⟨od,es,ep,k _ _ (.inl rfl) e,c⟩,r⟩
  | rng lo hi=>obtain ⟨t,u,v,e⟩:=x; exact ⟨t,u,v,k _ _ (.inl rfl) e⟩
  | frz ob u ih=>obtain ⟨e,q⟩:=x; exact ⟨k _ _ (.inl rfl) e,ih q⟩
  | tbl ps =>
    have e:h.get? a=some { cls:=.none,data:=.fields ps }:=x
    show h'.get? a=some { cls:=.none,data:=.fields ps }
    exact k a _ (.inl rfl) e
  | met f y =>
    have e:h.get? a=some (PySem.W.methodObj (.ref f) (.ref y)):=x
    show h'.get? a=some (PySem.W.methodObj (.ref f) (.ref y))
    exact k a _ (.inl rfl) e
  | ext φ=>obtain ⟨p,⟨o,e⟩,st⟩:=x; exact ⟨st _ _ p fun o q=>k _ _ (.inl rfl) q,⟨o,k _ _ (.inl rfl) e⟩,st⟩
theorem HOk.lt (x:HOk P w H h) (e:H a=some o):a < h.objs.size:=(x a o e).lt
theorem HOk.fresh (x:HOk P w H h) (e:h.objs.size≤a):H a=none:=by
  cases q:H a with
  | none=>rfl
  | some u=>exact absurd (Nat.lt_of_lt_of_le (x.lt q) e) (Nat.lt_irrefl _)
theorem HOk.kept (x:HOk P w H h) (k:∀ b u,h.get? b=some u→h'.get? b=some u):HOk P w H h':=fun a o e =>
  (x a o e).stay (fun b u _ q=>k b u q) (fun _ q=>q) fun _ _ q=>q
theorem HOk.laid (x:HOk P w H h) (k:∀ b u,h.get? b=some u→h'.get? b=some u) (hp:h.objs.size≤a) (new:ObjOk P w (upd H a o) h' a o):HOk P w (upd H a o) h':=fun b u e=>by
  have hn:=x.fresh hp
  by_cases hb:b=a
  · subst hb; rw [upd_same] at e; cases e; exact new
  · rw [upd_ne hb] at e
    exact (x b u e).stay (fun c v _ q=>k c v q) (fun c q=>by rw [upd_ne (ne_of_none q hn)]; exact q) fun c xs q=>by rw [upd_ne (ne_of_none q hn)]; exact q
end
noncomputable def Rd (H:Hp) (a:Addr) (u:HO):Prop:=H a=some u∨∃ o,H a=some (.frz o u)
theorem Rd.ok {P:Program} {w:World} {H:Hp} {h:Heap} {a:Addr} {u:HO} (r:Rd H a u) (x:HOk P w H h):ObjOk P w H h a u:=by
  rcases r with r | ⟨o,r⟩
  · exact x a u r
  · obtain ⟨_,q⟩:=x a _ r
    exact q
noncomputable def Mut:Option HO→Prop
  | some (.lst _)=>True
  | some (.dK _)=>True
  | some (.dT _)=>True
  | some (.set _ _)=>True
  | some (.ins _ _ _)=>True
  | some (.ext _)=>True
  | _=>False
section
variable {P:Program} {w:World} {H:Hp} {h h':Heap} {x e:Addr} {o':HO}
theorem HOk.write (ok:HOk P w H h) (mu:Mut (H x)) (he:e=x∨H e=some (.own x)) (k:∀ b u,b≠e→h.get? b=some u→h'.get? b=some u) (heo:∃ u,h'.get? e=some u)
    (new:ObjOk P w (upd H x o') h' x o'):HOk P w (upd H x o') h':=fun b u q=>by
  have nown:∀ c y,H c=some (.own y)→c≠x:=fun c y r z=>by subst z; rw [r] at mu; exact mu
  have ntup:∀ c xs,H c=some (.tup xs)→c≠x:=fun c xs r z=>by subst z; rw [r] at mu; exact mu
  by_cases hb:b=x
  · subst hb; rw [upd_same] at q; cases q; exact new
  · rw [upd_ne hb] at q
    by_cases hbe:b=e
    · have q':H b=some (.own x):=by
        rcases he with z | z
        · exact absurd (hbe.trans z) hb
        · rw [hbe]; exact z
      rw [q] at q'; cases q'
      obtain ⟨v,hv⟩:=heo
      exact ⟨v,by rw [hbe]; exact hv⟩
    · refine (ok b u q).stay (fun c v hc r=>k c v ?_ r) (fun c r=>by rw [upd_ne (nown c b r)]; exact r) fun c xs r=>by rw [upd_ne (ntup c xs r)]; exact r
      rcases hc with rfl | hc
      · exact hbe
      · rintro rfl
        rcases he with z | z
        · exact nown c b hc z
        · rw [hc] at z; cases z; exact hb rfl
end
structure Un (fs ex:List Addr) (H H':Hp) (h h':Heap):Prop where
  keep:∀ b o,h.get? b=some o→H b=none→b∉fs→b∉ex→h'.get? b=some o
  slot:∀ b o,h.get? b=some o→H b=none→b∈fs→b∉ex→∃ sl,h'.get? b=some { o with slots:=sl }
  free:∀ b o,h.get? b=some o→H b=none→b∉ex→H' b=none
  there:∀ b o,h.get? b=some o→b∉ex→∃ o',h'.get? b=some o'
  tups:∀ b xs,H b=some (.tup xs)→H' b=some (.tup xs)
  frzs:∀ b o u,H b=some (.frz o u)→H' b=some (.frz o u)
  tbls:∀ b ps,H b=some (.tbl ps)→∃ more,H' b=some (.tbl (ps++more))
section
variable {fs fs' ex ex':List Addr} {H H1 H2:Hp} {h h1 h2 h':Heap} {a x e:Addr} {o:HO}
theorem Un.any (u:Un fs ex H H1 h h1) {b:Addr} {ob:Obj} (q:h.get? b=some ob) (n:H b=none) (hx:b∉ex):∃ sl,h1.get? b=some { ob with slots:=sl }:=by
  by_cases hb:b∈fs
  · exact u.slot b ob q n hb hx
  · exact ⟨ob.slots,u.keep b ob q n hb hx⟩
theorem Un.kept (k:∀ b u,h.get? b=some u→h'.get? b=some u):Un fs ex H H h h' :=
  ⟨fun b ob q _ _ _=>k b ob q,fun b ob q _ _ _=>⟨ob.slots,k b ob q⟩,fun _ _ _ n _=>n,fun b ob q _=>⟨ob,k b ob q⟩,fun _ _ q=>q,fun _ _ _ q=>q,fun _ ps q=>⟨#[],by rw [q]; simp⟩⟩
theorem Un.refl:Un fs ex H H h h:=Un.kept fun _ _ q=>q
theorem Un.laid (k:∀ b u,h.get? b=some u→h'.get? b=some u) (hp:h.objs.size≤a) (hn:H a=none):Un fs ex H (upd H a o) h h' where
  keep:=fun b u q _ _ _=>k b u q
  slot:=fun b u q _ _ _=>⟨u.slots,k b u q⟩
  free:=fun b u q n _=>by rw [upd_ne (Nat.ne_of_lt (Nat.lt_of_lt_of_le (Heap.lt_size q) hp))]; exact n
  there:=fun b u q _=>⟨u,k b u q⟩
  tups:=fun b xs q=>by rw [upd_ne (ne_of_none q hn)]; exact q
  frzs:=fun b u xs q=>by rw [upd_ne (ne_of_none q hn)]; exact q
  tbls:=fun b ps q=>⟨#[],by rw [upd_ne (ne_of_none q hn),q]; simp⟩
theorem Un.write (mu:Mut (H x)) (he:e=x∨H e=some (.own x)) (k:∀ b u,b≠e→h.get? b=some u→h'.get? b=some u) (heo:∃ u,h'.get? e=some u):Un fs ex H (upd H x o) h h':=by
  have hx:∀ b,H b=none→b≠x:=fun b n z=>by subst z; rw [n] at mu; exact mu
  have hb:∀ b,H b=none→b≠e:=fun b n z=>by
    subst z
    rcases he with r | r
    · exact hx b n r
    · rw [n] at r; cases r
  have hm:∀ b u,H b=some u→¬ Mut (some u)→b≠x:=fun b u q nm z=>by subst z; rw [q] at mu; exact nm mu
  refine ⟨fun b u q n _ _=>k b u (hb b n) q,fun b u q n _ _=>⟨u.slots,k b u (hb b n) q⟩,fun b u q n _=>by rw [upd_ne (hx b n)]; exact n,fun b u q _=>?_,
    fun b xs q=>by rw [upd_ne (hm b _ q fun z=>z)]; exact q,fun b u xs q=>by rw [upd_ne (hm b _ q fun z=>z)]; exact q,fun b ps q=>⟨#[],by rw [upd_ne (hm b _ q fun z=>z),q]; simp⟩⟩
  by_cases hbe:b=e
  · subst hbe; exact heo
  · exact ⟨u,k b u hbe q⟩
end
noncomputable def trk (h:Heap) (H:Hp):List Addr:=(List.range h.objs.size).filter fun a=>(H a).isSome
noncomputable def hidT (h:Heap) (H:Hp):Heap:=PySem.W.hideAll h (trk h H)
theorem hidT_size (h:Heap) (H:Hp):(hidT h H).objs.size=h.objs.size:=PySem.W.hideAll_size _ _
theorem hidT_get {h:Heap} {H:Hp} {b:Addr} {o:Obj} (e:h.get? b=some o) (n:H b=none):(hidT h H).get? b=some o :=
  PySem.W.hideAll_get _ e fun hm=>by
    have q:(H b).isSome=true:=(List.mem_filter.mp hm).2
    rw [n] at q; simp at q
theorem of_hidT {h:Heap} {H:Hp} {b:Addr} {o:Obj} (e:(hidT h H).get? b=some o):h.get? b=some o∧H b=none:=by
  have e':h.get? b=some o:=PySem.W.of_hideAll (trk h H) e
  refine ⟨e',?_⟩
  cases q:H b with
  | none=>rfl
  | some x =>
    have hm:b∈trk h H:=List.mem_filter.mpr ⟨List.mem_range.mpr (Heap.lt_size e'),by simp [q]⟩
    have z:(hidT h H).get? b=none:=PySem.W.hideAll_none (trk h H) hm
    rw [z] at e; cases e
noncomputable def allNews (g h:Heap) (L:Addr):List (Addr×Obj):=(List.range h.objs.size).filterMap fun a=>if a=L∨(g.get? a).isSome=true then none else (h.get? a).map fun o=>(a,o)
noncomputable def rest (g h:Heap) (L d:Addr):List (Addr×Obj):=(allNews g h L).filter fun p=>decide (p.1≠d)
end L2
namespace L2
open PySem PySem.Spec PyProof.Rows
structure Mod (K:PySem.W.Frag) (mg:Str→Option Value) (base:Heap):Prop where
  kin:K.In base
  glob:base.Ns mainGlobals mg
  blt:∃ mb,base.Ns builtinsNs mb∧∀ x:Str,x ≠ "__name__" → mb x=bootBuiltins x
  nolimit:base.NoLimit
structure Cx where
  prog:Program
  w:World
  K:PySem.W.Frag
  mg:Str→Option Value
  base:Heap
  A:Around
  N:List Str
  s₀:Shared
  H₀:Hp
  env:Env
  outer:List Env
  stack:List Env
  ex:List Addr
  fn:Str→Bool
  calm:Bool
  pn:List (Addr×Obj)
  xe:Value→Shared→Prop
noncomputable def frs (l:List Env):List Addr:=l.filterMap (·.frame)
noncomputable abbrev Cx.fs (X:Cx):List Addr:=frs X.outer
noncomputable def Vis (sc:Scope) (x:Str):Prop:=sc.names.lookup x=some .local∨sc.names.lookup x=some .cell∨sc.names.lookup x=some .free
noncomputable def Loc (sc:Scope) (x:Str):Prop:=sc.names.lookup x=some .local∨sc.names.lookup x=some .cell
noncomputable def Look (env:Env) (h:Heap) (m:Str→Option Value) (x:Str) (u:Value):Prop :=
  (env.kindOf x=some .local∧m x=some u)∨((env.kindOf x=some .cell∨env.kindOf x=some .free)∧∃ c,env.cells.lookup x=some c∧h.IsCell c (some u))
structure Cx.Ok (X:Cx):Prop where
  mod:Mod X.K X.mg X.base
  kind:X.env.scope.kind=.function
  glob:X.env.globals=mainGlobals
  blt:X.env.builtins=builtinsNs
  above:X.s₀.heap.objs.size≤X.env.locals
  inj:∀ x y c,X.env.cells.lookup x=some c→X.env.cells.lookup y=some c→x=y
  has:∀ x,(X.env.kindOf x=some .cell∨X.env.kindOf x=some .free)→∃ c,X.env.cells.lookup x=some c
  cab:∀ x c,X.fn x=true→X.env.cells.lookup x=some c→X.s₀.heap.objs.size≤c
  hd:X.calm=true→X.A.handled=none
  frames:X.A.frames=some X.stack
  stk:X.stack=X.outer∨(X.stack=X.env::X.outer∧X.env.frame=some X.env.locals)
  exf:∀ b∈X.ex,b≠X.env.locals∧∀ x c,X.env.cells.lookup x=some c→c≠b
  bs:∀ b o,X.base.get? b=some o→X.s₀.heap.get? b=some o∧X.H₀ b=none
  bsz:X.base.objs.size≤X.s₀.heap.objs.size
  noex:∀ b o,X.base.get? b=some o→b∉X.ex
  exfs:∀ b∈X.ex,b∉X.fs
  funs:X.s₀.heap.FunFrames X.base X.outer
  frf:∀ b∈X.fs,X.H₀ b=none
structure Inv (X:Cx) (pins:List (Addr×Obj)) (σ:List (Option V)) (H:Hp) (s:Shared):Prop where
  ok:X.Ok
  os:s.os=X.s₀.os
  bare:AllBare s.gens
  base:Un X.fs X.ex X.H₀ H X.s₀.heap s.heap
  loc:∃ m,s.heap.Ns X.env.locals m∧∀ (i:Nat) (x:Str) (v:V),X.N[i]?=some x→σ[i]?=some (some v)→Vis X.env.scope x→∃ u,RelV v u∧Look X.env s.heap m x u
  cell:∀ x c,X.env.cells.lookup x=some c→∃ v,s.heap.IsCell c v
  free:H X.env.locals=none
  freeC:∀ x c,X.env.cells.lookup x=some c→H c=none
  pin:∀ p∈X.pn++pins,s.heap.get? p.1=some p.2∧H p.1=none∧p.1≠X.env.locals∧p.1∉X.fs∧∀ v,p.2.data≠.cell v
  hok:HOk X.prog X.w H s.heap
  len:σ.length=X.N.length
section
variable {X:Cx} {pins:List (Addr×Obj)} {σ:List (Option V)} {H H':Hp} {s:Shared} {h':Heap}
theorem Cx.Ok.nofr (ok:X.Ok) {b:Addr} {o:Obj} (e:X.base.get? b=some o):b∉X.fs:=fun hb=>by
  have:=(ok.funs.mem hb).1
  rw [e] at this; cases this
theorem Inv.bs (I:Inv X pins σ H s):∀ b o,X.base.get? b=some o→s.heap.get? b=some o∧H b=none:=fun b o e =>
  ⟨I.base.keep b o (I.ok.bs b o e).1 (I.ok.bs b o e).2 (I.ok.nofr e) (I.ok.noex b o e),I.base.free b o (I.ok.bs b o e).1 (I.ok.bs b o e).2 (I.ok.noex b o e)⟩
theorem Inv.bk (I:Inv X pins σ H s):∀ b o,X.base.get? b=some o→s.heap.get? b=some o:=fun b o e=>(I.bs b o e).1
theorem Inv.mod (I:Inv X pins σ H s):Mod X.K X.mg X.base:=I.ok.mod
theorem Inv.kIn (I:Inv X pins σ H s):X.K.In s.heap:=I.ok.mod.kin.keeps I.bk
theorem Inv.lt (I:Inv X pins σ H s):X.env.locals < s.heap.objs.size:=let ⟨_,hn,_⟩:=I.loc; hn.lt
theorem Inv.sz (I:Inv X pins σ H s):X.s₀.heap.objs.size≤s.heap.objs.size:=Nat.le_trans I.ok.above (Nat.le_of_lt I.lt)
theorem Inv.nofs (I:Inv X pins σ H s) {a:Addr} (h:s.heap.objs.size≤a):a∉X.fs:=fun hb=>by
  obtain ⟨_,o,ho,_⟩:=I.ok.funs.mem hb
  exact absurd (Nat.lt_of_lt_of_le (Heap.lt_size ho) (Nat.le_trans I.sz h)) (Nat.lt_irrefl _)
theorem Inv.cne (I:Inv X pins σ H s):∀ x c,X.env.cells.lookup x=some c→c≠X.env.locals:=fun x c e z=>by
  obtain ⟨v,o,ho,hd⟩:=I.cell x c e
  obtain ⟨m,⟨o',es,ep,ho',hd',_⟩,_⟩:=I.loc
  rw [z,ho'] at ho; cases ho; rw [hd'] at hd; cases hd
theorem Inv.funs (I:Inv X pins σ H s):s.heap.FunFrames X.base X.outer:=by
  have all:∀ (l:List Env),(∀ b∈frs l,b∈X.fs)→X.s₀.heap.FunFrames X.base l→s.heap.FunFrames X.base l:=by
    intro l
    induction l with
    | nil=>intro _ _; trivial
    | cons env r ih =>
      intro hs hl
      obtain ⟨hk,⟨L,o,hf,hn,ho,hd⟩,hr⟩:=hl
      have hL:L∈X.fs:=hs L (by unfold frs; rw [List.filterMap_cons,hf]; exact List.mem_cons_self)
      obtain ⟨sl,e⟩:=I.base.slot L o ho (I.ok.frf L hL) hL fun z=>I.ok.exfs L z hL
      exact ⟨hk,⟨L,_,hf,hn,e,hd⟩,ih (fun b hb=>hs b (by unfold frs; rw [List.filterMap_cons,hf]; exact List.mem_cons_of_mem _ hb)) hr⟩
  exact all X.outer (fun _ hb=>hb) I.ok.funs
theorem Inv.stack (I:Inv X pins σ H s):s.heap.FunFrames X.base X.stack:=by
  rcases I.ok.stk with e | ⟨e,hf⟩
  · rw [e]; exact I.funs
  · rw [e]
    obtain ⟨m,hn,_⟩:=I.loc
    refine .cons (by rw [I.ok.kind]; decide) hf hn ?_ I.funs
    exact Heap.get?_none_of_le (Nat.le_trans I.ok.bsz I.ok.above)
theorem Inv.stkSub (I:Inv X pins σ H s):∀ b∈frs X.stack,b∈X.env.locals::X.fs:=fun b hb=>by
  rcases I.ok.stk with e | ⟨e,hf⟩
  · rw [e] at hb; exact List.mem_cons_of_mem _ hb
  · rw [e] at hb
    unfold frs at hb
    rw [List.filterMap_cons,hf] at hb
    exact hb
theorem Inv.stkFree (I:Inv X pins σ H s):∀ b∈frs X.stack,H b=none:=fun b hb=>by
  rcases List.mem_cons.mp (I.stkSub b hb) with e | hb
  · rw [e]; exact I.free
  · obtain ⟨_,o,ho,_⟩:=I.ok.funs.mem hb
    exact I.base.free b o ho (I.ok.frf b hb) fun z=>I.ok.exfs b z hb
theorem Inv.step {g':Array GenState} {t':Nat} {d':Drawn} {ch:List Addr} (I:Inv X pins σ H s)
    (hch:∀ b∈ch,(b∈X.ex∨X.s₀.heap.objs.size≤b)∧b≠X.env.locals∧(∀ x c,X.env.cells.lookup x=some c→c≠b)∧∀ p∈X.pn++pins,p.1≠b)
    (keep:∀ b o,b≠X.env.locals→b∉X.fs→b∉ch→s.heap.get? b=some o→H b=none→h'.get? b=some o)
    (slot:∀ b o,b≠X.env.locals→b∈X.fs→b∉ch→s.heap.get? b=some o→H b=none→∃ sl,h'.get? b=some { o with slots:=sl }) (free:∀ b o,b∉ch→s.heap.get? b=some o→H b=none→H' b=none)
    (there:∀ b o,b∉ch→s.heap.get? b=some o→∃ o',h'.get? b=some o')
    (tups:∀ b xs,H b=some (.tup xs)→H' b=some (.tup xs)) (frzs:∀ b o u,H b=some (.frz o u)→H' b=some (.frz o u)) (tbls:∀ b ps,H b=some (.tbl ps)→∃ more,H' b=some (.tbl (ps++more)))
    (ns:∀ m,s.heap.Ns X.env.locals m→h'.Ns X.env.locals m) (hok:HOk X.prog X.w H' h') (hg:AllBare g') :
    Inv X pins σ H' { s with heap:=h',gens:=g',drawn:=d',toks:=t' }:=by
  have neL:∀ b o,X.s₀.heap.get? b=some o→b≠X.env.locals:=fun b o e=>Nat.ne_of_lt (Nat.lt_of_lt_of_le (Heap.lt_size e) I.ok.above)
  have neC:∀ b o,X.s₀.heap.get? b=some o→b∉X.ex→b∉ch:=fun b o e hx hb=>by
    rcases (hch b hb).1 with z | z
    · exact hx z
    · exact absurd (Nat.lt_of_lt_of_le (Heap.lt_size e) z) (Nat.lt_irrefl _)
  have cellK:∀ x c,X.env.cells.lookup x=some c→∀ v,s.heap.IsCell c v→h'.IsCell c v:=fun x c e v ⟨o,ho,hd⟩=>by
    have nch:c∉ch:=fun z=>(hch c z).2.2.1 x c e rfl
    by_cases hc:c∈X.fs
    · obtain ⟨sl,q⟩:=slot c o (I.cne x c e) hc nch ho (I.freeC x c e)
      exact ⟨_,q,hd⟩
    · exact ⟨o,keep c o (I.cne x c e) hc nch ho (I.freeC x c e),hd⟩
  refine ⟨I.ok,I.os,hg,⟨fun b o e n hb hx=>?_,fun b o e n hb hx=>?_,fun b o e n hx=>?_,fun b o e hx=>?_,fun b xs e=>tups b xs (I.base.tups b xs e),fun b o xs e=>frzs b o xs (I.base.frzs b o xs e),fun b ps e=>?_⟩,?_,fun x c e=>?_,?_,fun x c e=>?_,fun p hp=>?_,hok,I.len⟩
  · exact keep b o (neL b o e) hb (neC b o e hx) (I.base.keep b o e n hb hx) (I.base.free b o e n hx)
  · obtain ⟨sl,e1⟩:=I.base.slot b o e n hb hx
    obtain ⟨sl',e2⟩:=slot b _ (neL b o e) hb (neC b o e hx) e1 (I.base.free b o e n hx)
    exact ⟨sl',e2⟩
  · obtain ⟨o',e1⟩:=I.base.there b o e hx
    exact free b o' (neC b o e hx) e1 (I.base.free b o e n hx)
  · obtain ⟨o',e1⟩:=I.base.there b o e hx
    exact there b o' (neC b o e hx) e1
  · obtain ⟨m1,e1⟩:=I.base.tbls b ps e
    obtain ⟨m2,e2⟩:=tbls b _ e1
    exact ⟨m1++m2,by rw [e2,Array.append_assoc]⟩
  · obtain ⟨m,hn,hl⟩:=I.loc
    refine ⟨m,ns m hn,fun i x v e1 e2 e3=>?_⟩
    obtain ⟨u,r,l⟩:=hl i x v e1 e2 e3
    refine ⟨u,r,?_⟩
    rcases l with l | ⟨k,c,e,z⟩
    · exact .inl l
    · exact .inr ⟨k,c,e,cellK x c e _ z⟩
  · obtain ⟨v,z⟩:=I.cell x c e
    exact ⟨v,cellK x c e v z⟩
  · obtain ⟨m,⟨o,_,_,ho,_⟩,_⟩:=I.loc
    exact free _ o (fun z=>(hch _ z).2.1 rfl) ho I.free
  · obtain ⟨v,o,ho,hd⟩:=I.cell x c e
    exact free c o (fun z=>(hch c z).2.2.1 x c e rfl) ho (I.freeC x c e)
  · obtain ⟨e,n,ne,nf,d⟩:=I.pin p hp
    have nch:p.1∉ch:=fun z=>(hch p.1 z).2.2.2 p hp rfl
    exact ⟨keep p.1 p.2 ne nf nch e n,free p.1 p.2 nch e n,ne,nf,d⟩
theorem Inv.un {t':Nat} (I:Inv X pins σ H s) (u:Un X.fs [] H H' s.heap h') (hok:HOk X.prog X.w H' h'):Inv X pins σ H' { s with heap:=h',toks:=t' }:=by
  obtain ⟨m,⟨o,es,ep,ho,r⟩,_⟩:=id I.loc
  obtain ⟨sl,hL⟩:=u.any ho I.free (by simp)
  exact I.step (g':=s.gens) (d':=s.drawn) (ch:=[]) (fun _ z=>nomatch z) (fun b o _ hb _ e n=>u.keep b o e n hb (by simp)) (fun b o _ hb _ e n=>u.slot b o e n hb (by simp)) (fun b o _ e n=>u.free b o e n (by simp)) (fun b o _ e=>u.there b o e (by simp)) u.tups u.frzs u.tbls (fun m' hm=>by
    obtain ⟨o',es',ep',ho',r'⟩:=hm
    rw [ho] at ho'; cases ho'
    exact ⟨_,es',ep',hL,r'⟩) hok I.bare
theorem Inv.call {g':Array GenState} {t':Nat} {d':Drawn} {ch:List Addr} (I:Inv X pins σ H s) (u:Un (frs X.stack) ch H H' s.heap h') (hok:HOk X.prog X.w H' h') (hg:AllBare g')
    (hch:∀ b∈ch,(b∈X.ex∨X.s₀.heap.objs.size≤b)∧b≠X.env.locals∧(∀ x c,X.env.cells.lookup x=some c→c≠b)∧∀ p∈X.pn++pins,p.1≠b) :
    Inv X pins σ H' { s with heap:=h',gens:=g',drawn:=d',toks:=t' }:=by
  obtain ⟨m,⟨o,es,ep,ho,r⟩,_⟩:=id I.loc
  obtain ⟨sl,hL⟩:=u.any ho I.free fun z=>(hch _ z).2.1 rfl
  exact I.step (ch:=ch) hch (fun b o hL hb hc e n=>u.keep b o e n (fun z=>(List.mem_cons.mp (I.stkSub b z)).elim hL hb) hc) (fun b o _ _ hc e n=>u.any e n hc) (fun b o hc e n=>u.free b o e n hc) (fun b o hc e=>u.there b o e hc) u.tups u.frzs u.tbls (fun m' hm=>by
    obtain ⟨o',es',ep',ho',r'⟩:=hm
    rw [ho] at ho'; cases ho'
    exact ⟨_,es',ep',hL,r'⟩) hok hg
theorem Inv.turned {t':Nat} {it:Addr} (I:Inv X pins σ H s) (k:∀ b o,b≠it→s.heap.get? b=some o→h'.get? b=some o) (hn:H it=none) (hL:it≠X.env.locals)
    (h1:it∈X.ex∨X.s₀.heap.objs.size≤it) (h2:∀ x c,X.env.cells.lookup x=some c→c≠it) (h3:∀ p∈X.pn++pins,p.1≠it):Inv X pins σ H { s with heap:=h',toks:=t' }:=by
  have nit:∀ b u,H b=some u→b≠it:=fun b u e z=>by rw [z,hn] at e; cases e
  refine I.step (g':=s.gens) (d':=s.drawn) (ch:=[it]) (fun b hb=>?_) (fun b o _ _ hc e _=>k b o (fun z=>hc (by simp [z])) e) (fun b o _ _ hc e _=>⟨o.slots,k b o (fun z=>hc (by simp [z])) e⟩) (fun _ _ _ _ n=>n)
    (fun b o hc e=>⟨o,k b o (fun z=>hc (by simp [z])) e⟩) (fun _ _ e=>e) (fun _ _ _ e=>e) (fun b ps e=>⟨#[],by rw [e]; simp⟩) (fun m hm=>?_) (fun b u e=>?_) I.bare
  · have e:b=it:=by simpa using hb
    subst e
    exact ⟨h1,hL,h2,h3⟩
  · obtain ⟨o,es,ep,ho,r⟩:=hm
    exact ⟨o,es,ep,k _ o (Ne.symm hL) ho,r⟩
  · refine (I.hok b u e).stay (fun c v hc q=>k c v ?_ q) (fun _ q=>q) fun _ _ q=>q
    rcases hc with z | z
    · rw [z]; exact nit b u e
    · exact nit c _ z
theorem Inv.tok (I:Inv X pins σ H s) (t:Nat):Inv X pins σ H { s with toks:=t }:=I.un (h':=s.heap) (t':=t) Un.refl I.hok
theorem Inv.kept {t':Nat} (I:Inv X pins σ H s) (k:∀ b u,s.heap.get? b=some u→h'.get? b=some u):Inv X pins σ H { s with heap:=h',toks:=t' }:=I.un (Un.kept k) (I.hok.kept k)
theorem Inv.laid {a:Addr} {o:HO} {t':Nat} (I:Inv X pins σ H s) (k:∀ b u,s.heap.get? b=some u→h'.get? b=some u) (hp:s.heap.objs.size≤a) (new:ObjOk X.prog X.w (upd H a o) h' a o) :
    Inv X pins σ (upd H a o) { s with heap:=h',toks:=t' }:=I.un (Un.laid k hp (I.hok.fresh hp)) (I.hok.laid k hp new)
theorem Inv.write {x e:Addr} {o:HO} {t':Nat} (I:Inv X pins σ H s) (mu:Mut (H x)) (he:e=x∨H e=some (.own x)) (k:∀ b u,b≠e→s.heap.get? b=some u→h'.get? b=some u) (heo:∃ u,h'.get? e=some u)
    (new:ObjOk X.prog X.w (upd H x o) h' x o):Inv X pins σ (upd H x o) { s with heap:=h',toks:=t' }:=I.un (Un.write mu he k heo) (I.hok.write mu he k heo new)
theorem Inv.weak {σ':List (Option V)} (I:Inv X pins σ H s) (hl:σ'.length=σ.length) (w:∀ (i:Nat) v,σ'[i]?=some (some v)→σ[i]?=some (some v)):Inv X pins σ' H s :=
  ⟨I.ok,I.os,I.bare,I.base,let ⟨m,hn,hl'⟩:=I.loc; ⟨m,hn,fun i x v e1 e2 e3=>hl' i x v e1 (w i v e2) e3⟩,I.cell,I.free,I.freeC,I.pin,I.hok,hl.trans I.len⟩
theorem Inv.pins_of {pins':List (Addr×Obj)} (I:Inv X pins σ H s) (h:∀ p∈pins',s.heap.get? p.1=some p.2∧H p.1=none∧p.1≠X.env.locals∧p.1∉X.fs∧∀ v,p.2.data≠.cell v):Inv X pins' σ H s :=
  ⟨I.ok,I.os,I.bare,I.base,I.loc,I.cell,I.free,I.freeC,fun p hp=>(List.mem_append.mp hp).elim (fun z=>I.pin p (List.mem_append_left _ z)) (h p),I.hok,I.len⟩
theorem nodup_ix {N:List Str} (hN:N.Nodup) {i j:Nat} {x:Str} (a:N[i]?=some x) (b:N[j]?=some x):i=j:=by
  obtain ⟨h1,e1⟩:=List.getElem?_eq_some_iff.mp a
  obtain ⟨h2,e2⟩:=List.getElem?_eq_some_iff.mp b
  exact (List.getElem_inj hN).mp (e1.trans e2.symm)
theorem store_ok2 {M:Model} {A:Around} {E:Value→Shared→Prop} {i:Nat} {x:Str} {v:V} {u:Value} {Q:Unit→Shared→Prop} (I:Inv X pins σ H s) (hN:X.N.Nodup) (hi:X.N[i]?=some x) (hx:Loc X.env.scope x) (r:RelV v u)
    (h:∀ s',Inv X pins (σ.set i (some v)) H s'→(∃ a,Heap.SameBut a s.heap s'.heap∧(a=X.env.locals∨X.env.cells.lookup x=some a))→Q () s') (hf:X.fn x=true∨X.env.scope.names.lookup x=some .local:=by first | exact .inl rfl | exact .inr rfl | assumption):wpAny M A (storeName X.env x u) Q E s:=by
  obtain ⟨m,hn,hl⟩:=id I.loc
  have hcls:(X.env.scope.kind==.class||(X.env.scope.kind==.module&&X.env.locals != X.env.globals))=false:=by rw [I.ok.kind]; rfl
  have hiσ:i < σ.length:=by rw [I.len]; exact (List.getElem?_eq_some_iff.mp hi).1
  have cne:=I.cne
  have tracked:∀ {a:Addr} {h':Heap},(∃ o,s.heap.get? a=some o∧H a=none)→Heap.SameBut a s.heap h'→HOk X.prog X.w H h':=fun {a h'} ha hs b ob e=>by
    obtain ⟨_,_,hfree⟩:=ha
    refine (I.hok b ob e).stay (fun c w' hc q=>(hs.2 c ?_).trans q) (fun _ q=>q) fun _ _ q=>q
    rintro rfl
    rcases hc with rfl | hc
    · rw [hfree] at e; cases e
    · rw [hfree] at hc; cases hc
  rcases hx with hk | hk
  · refine wpAny_storeName_local hk hn (fun h' hn' hs=>?_) hcls
    obtain ⟨oL,_,_,hoL,_⟩:=id hn
    refine h _ ⟨I.ok,I.os,I.bare,⟨fun b o e n hb hx=>?_,fun b o e n hb hx=>?_,I.base.free,fun b o e hx=>?_,I.base.tups,I.base.frzs,I.base.tbls⟩,⟨_,hn',fun j y v' e1 e2 e3=>?_⟩,fun y c e=>?_,I.free,I.freeC,fun p hp=>?_,tracked ⟨oL,hoL,I.free⟩ hs,by simpa using I.len⟩ ⟨_,hs,.inl rfl⟩
    · exact (hs.2 b (Nat.ne_of_lt (Nat.lt_of_lt_of_le (Heap.lt_size e) I.ok.above))).trans (I.base.keep b o e n hb hx)
    · obtain ⟨sl,e1⟩:=I.base.slot b o e n hb hx
      exact ⟨sl,(hs.2 b (Nat.ne_of_lt (Nat.lt_of_lt_of_le (Heap.lt_size e) I.ok.above))).trans e1⟩
    · obtain ⟨o',e1⟩:=I.base.there b o e hx
      exact ⟨o',(hs.2 b (Nat.ne_of_lt (Nat.lt_of_lt_of_le (Heap.lt_size e) I.ok.above))).trans e1⟩
    · by_cases hj:j=i
      · subst hj
        rw [hi] at e1; cases e1
        rw [List.getElem?_set_self hiσ] at e2
        cases e2
        exact ⟨u,r,.inl ⟨hk,by simp⟩⟩
      · rw [List.getElem?_set_ne (Ne.symm hj)] at e2
        obtain ⟨u',r',q⟩:=hl j y v' e1 e2 e3
        refine ⟨u',r',?_⟩
        rcases q with ⟨k,e⟩ | ⟨k,c,e,z⟩
        · refine .inl ⟨k,?_⟩
          have:y≠x:=fun e=>hj (nodup_ix hN e1 (e ▸ hi))
          simp [this,e]
        · exact .inr ⟨k,c,e,z.sameBut hs (cne y c e)⟩
    · obtain ⟨w',z⟩:=I.cell y c e
      exact ⟨w',z.sameBut hs (cne y c e)⟩
    · obtain ⟨e,n,ne,nf,d⟩:=I.pin p hp
      exact ⟨(hs.2 p.1 ne).trans e,n,ne,nf,d⟩
  · have hfn:X.fn x=true:=by
      rcases hf with z | z
      · exact z
      · rw [z] at hk; cases hk
    obtain ⟨c,hc⟩:=I.ok.has x (.inl hk)
    obtain ⟨w',z⟩:=I.cell x c hc
    refine wpAny_storeName_cell I.ok.kind hk hc z (fun h' hc' hs=>?_)
    obtain ⟨oc,hoc,hocd⟩:=id z
    refine h { s with heap:=h' } ⟨I.ok,I.os,I.bare,⟨fun b o e n hb hx=>?_,fun b o e n hb hx=>?_,I.base.free,fun b o e hx=>?_,I.base.tups,I.base.frzs,I.base.tbls⟩,⟨m,hn.sameBut hs (Ne.symm (cne x c hc)),fun j y v' e1 e2 e3=>?_⟩,fun y c' e=>?_,I.free,I.freeC,fun p hp=>?_,tracked ⟨oc,hoc,I.freeC x c hc⟩ hs,by simpa using I.len⟩ ⟨c,hs,.inr hc⟩
    · exact (hs.2 b (Nat.ne_of_lt (Nat.lt_of_lt_of_le (Heap.lt_size e) (I.ok.cab x c hfn hc)))).trans (I.base.keep b o e n hb hx)
    · obtain ⟨sl,e1⟩:=I.base.slot b o e n hb hx
      exact ⟨sl,(hs.2 b (Nat.ne_of_lt (Nat.lt_of_lt_of_le (Heap.lt_size e) (I.ok.cab x c hfn hc)))).trans e1⟩
    · obtain ⟨o',e1⟩:=I.base.there b o e hx
      exact ⟨o',(hs.2 b (Nat.ne_of_lt (Nat.lt_of_lt_of_le (Heap.lt_size e) (I.ok.cab x c hfn hc)))).trans e1⟩
    · by_cases hj:j=i
      · subst hj
        rw [hi] at e1; cases e1
        rw [List.getElem?_set_self hiσ] at e2
        cases e2
        exact ⟨u,r,.inr ⟨.inl hk,c,hc,hc'⟩⟩
      · rw [List.getElem?_set_ne (Ne.symm hj)] at e2
        obtain ⟨u',r',q⟩:=hl j y v' e1 e2 e3
        refine ⟨u',r',?_⟩
        rcases q with q | ⟨k,c',e,z'⟩
        · exact .inl q
        · refine .inr ⟨k,c',e,z'.sameBut hs ?_⟩
          rintro rfl
          exact hj (nodup_ix hN e1 (I.ok.inj _ _ _ e hc ▸ hi))
    · by_cases hcc:c'=c
      · subst hcc; exact ⟨_,hc'⟩
      · obtain ⟨w2,z2⟩:=I.cell y c' e
        exact ⟨w2,z2.sameBut hs hcc⟩
    · obtain ⟨e,n,ne,nf,d⟩:=I.pin p hp
      refine ⟨(hs.2 p.1 ?_).trans e,n,ne,nf,d⟩
      intro q
      rw [q,hoc] at e
      have q':oc=p.2:=Option.some.inj e
      exact d w' (by rw [← q']; exact hocd)
theorem store_ok {M:Model} {A:Around} {E:Value→Shared→Prop} {i:Nat} {x:Str} {v:V} {u:Value} {Q:Unit→Shared→Prop} (I:Inv X pins σ H s) (hN:X.N.Nodup) (hi:X.N[i]?=some x) (hx:Loc X.env.scope x) (r:RelV v u)
    (h:∀ s',Inv X pins (σ.set i (some v)) H s'→Q () s') (hf:X.fn x=true∨X.env.scope.names.lookup x=some .local:=by first | exact .inl rfl | exact .inr rfl | assumption):wpAny M A (storeName X.env x u) Q E s :=
  store_ok2 I hN hi hx r (fun s' I' _=>h s' I') hf
theorem Inv.call' {s':Shared} {ch:List Addr} (I:Inv X pins σ H s) (ho:s'.os=s.os) (u:Un (frs X.stack) ch H H' s.heap s'.heap) (hok:HOk X.prog X.w H' s'.heap) (hg:AllBare s'.gens)
    (hch:∀ b∈ch,(b∈X.ex∨X.s₀.heap.objs.size≤b)∧b≠X.env.locals∧(∀ x c,X.env.cells.lookup x=some c→c≠b)∧∀ p∈X.pn++pins,p.1≠b):Inv X pins σ H' s':=by
  obtain ⟨h',g',d',t',o'⟩:=s'
  have e:o'=s.os:=ho
  subst e
  exact I.call (g':=g') (t':=t') (d':=d') u hok hg hch
end
noncomputable abbrev XK:=Value→Option Addr→Hp→Prop
noncomputable abbrev St:=List (Option V)
noncomputable abbrev VK:=V→Hp→Prop
noncomputable abbrev TE:=St→Hp→VK→Prop
noncomputable abbrev TT:=St→Hp→(Bool→Hp→Prop)→Prop
noncomputable abbrev TA:=St→Hp→(List V→Hp→Prop)→Prop
structure Ends where
  nx:St→Hp→Prop
  rt:VK
  bk:St→Hp→Prop:=fun _ _=>False
  ct:St→Hp→Prop:=fun _ _=>False
noncomputable abbrev TS:=Ends→St→Hp→Prop
noncomputable def EP (X:Cx) (pins:List (Addr×Obj)) (σ:St) (Q:VK) (u:Value) (s':Shared):Prop:=∃ v H',Inv X pins σ H' s'∧RelV v u∧Q v H'
noncomputable def TP (X:Cx) (pins:List (Addr×Obj)) (σ:St) (Q:Bool→Hp→Prop) (b:Bool) (s':Shared):Prop:=∃ H',Inv X pins σ H' s'∧Q b H'
noncomputable def AP (X:Cx) (pins:List (Addr×Obj)) (σ:St) (Q:List V→Hp→Prop) (us:List Value) (s':Shared):Prop:=∃ vs H',Inv X pins σ H' s'∧Vals vs us∧Q vs H'
noncomputable def SP (X:Cx) (pins:List (Addr×Obj)) (D:Ends) (f:Flow) (s':Shared):Prop :=
  match f with
  | .next=>∃ σ' H',Inv X pins σ' H' s'∧D.nx σ' H'
  | .brk=>∃ σ' H',Inv X pins σ' H' s'∧D.bk σ' H'
  | .cont=>∃ σ' H',Inv X pins σ' H' s'∧D.ct σ' H'
  | .ret u=>∃ v σ' H',Inv X pins σ' H' s'∧RelV v u∧D.rt v H'
noncomputable def PE (X:Cx) (e:Expr) (t:TE):Prop :=
  ∀ (pins:List (Addr×Obj)) (s:Shared) (σ:St) (H:Hp) (Q:VK),Inv X pins σ H s→t σ H Q→wpAny (model X.prog X.w) X.A (eval e X.env) (EP X pins σ Q) X.xe s
noncomputable def PT (X:Cx) (e:Expr) (t:TT):Prop :=
  ∀ (pins:List (Addr×Obj)) (s:Shared) (σ:St) (H:Hp) (Q:Bool→Hp→Prop),Inv X pins σ H s→t σ H Q→wpAny (model X.prog X.w) X.A (isTrue e X.env (eval e X.env)) (TP X pins σ Q) X.xe s
noncomputable def PW (X:Cx) (e:Expr) (t:TT):Prop :=
  ∀ (whole:Sem Value) (pins:List (Addr×Obj)) (s:Shared) (σ:St) (H:Hp) (Q:Bool→Hp→Prop),Inv X pins σ H s→t σ H Q→wpAny (model X.prog X.w) X.A (isTrue e X.env whole) (TP X pins σ Q) X.xe s
theorem PW.pt {X:Cx} {e:Expr} {t:TT} (h:PW X e t):PT X e t:=h _
noncomputable def PA (X:Cx) (es:List Expr) (t:TA):Prop :=
  ∀ (pos:Pos) (pins:List (Addr×Obj)) (s:Shared) (σ:St) (H:Hp) (Q:List V→Hp→Prop),Inv X pins σ H s→t σ H Q→wpAny (model X.prog X.w) X.A (spliced (backTo pos (starEach es X.env))) (AP X pins σ Q) X.xe s
noncomputable def PS (X:Cx) (st:Stmt) (t:TS):Prop :=
  ∀ (pins:List (Addr×Obj)) (s:Shared) (σ:St) (H:Hp) (D:Ends),Inv X pins σ H s→t D σ H→wpAny (model X.prog X.w) X.A (exec st X.env) (SP X pins D) X.xe s
noncomputable def PSs (X:Cx) (st:List Stmt) (t:TS):Prop :=
  ∀ (pins:List (Addr×Obj)) (s:Shared) (σ:St) (H:Hp) (D:Ends),Inv X pins σ H s→t D σ H→wpAny (model X.prog X.w) X.A (execs st X.env) (SP X pins D) X.xe s
theorem thn {α:Type} {t:Sem α} {Q Q':α→Shared→Prop} {M:Model} {A:Around} {E:Value→Shared→Prop} {s:Shared} (h:wpAny M A t Q E s) (hQ:∀ a s,Q a s→Q' a s):wpAny M A t Q' E s:=wpAny_mono h hQ fun _ _ x=>x
end L2
namespace L2
open PySem PySem.Spec PyProof.Rows
section
variable {X:Cx}
noncomputable def tVar (i:Nat):TE:=fun σ H Q=>∃ v,σ[i]?=some (some v)∧Q v H
noncomputable def tC (v:V):TE:=fun _ H Q=>Q v H
theorem pe_var {i:Nat} {x:Str} {pos:Pos} (hN:X.N[i]?=some x) (hv:Vis X.env.scope x) (hd:(x==("__debug__" : Str))=false:=by decide) (hcd:(x==("__classdict__" : Str))=false:=by decide):PE X (.Name x pos) (tVar i):=by
  intro pins s σ H Q I h
  obtain ⟨v,e,h⟩:=h
  obtain ⟨m,hn,hl⟩:=I.loc
  obtain ⟨u,r,l⟩:=hl i x v hN e hv
  have fin:EP X pins σ Q u s:=⟨v,H,I,r,h⟩
  rcases l with ⟨hk,hm⟩ | ⟨hk,c,hc,hcell⟩
  · exact wpAny_Name (wpAny_loadName_local I.ok.kind hk hn hm fin) hd
  · rcases hk with hk | hk
    · exact wpAny_Name (wpAny_loadName_cell I.ok.kind hk hc hcell fin) hd
    · exact wpAny_Name (wpAny_loadName_free I.ok.kind hk hc hcell fin hcd) hd
theorem pe_int {i j pos}:PE X (.Constant (.int i) j pos) (tC (.int i)):=fun _ _ _ H _ I h=>wpAny_Constant_int ⟨.int i,H,I.tok _,⟨_,rfl⟩,h⟩
theorem pe_bl {b j pos}:PE X (.Constant (.bool b) j pos) (tC (.bl b)):=fun _ _ _ H _ I h=>Constant_bool ⟨.bl b,H,I,rfl,h⟩
theorem pe_str {x j pos}:PE X (.Constant (.str x) j pos) (tC (.str x)):=fun _ _ _ H _ I h=>Calls.Constant_str ⟨.str x,H,I.tok _,⟨_,rfl⟩,h⟩
noncomputable def Gl (X:Cx) (x:Str):Prop:=X.env.kindOf x=some .globalImplicit
theorem ld_glob {E:Value→Shared→Prop} {pins:List (Addr×Obj)} {s:Shared} {σ:St} {H:Hp} {x:Str} {u:Value} {pos:Pos} {Q:Value→Shared→Prop} (I:Inv X pins σ H s) (hg:Gl X x) (hm:X.mg x=some u) (h:Q u s)
    (hd:(x==("__debug__" : Str))=false:=by decide):wpAny (model X.prog X.w) X.A (eval (.Name x pos) X.env) Q E s :=
  Calls.Name_function_global I.ok.kind hg (Calls.loadGlobal_global (by rw [I.ok.glob]; exact I.mod.glob.keeps I.bk) hm h) hd
theorem ld_blt {E:Value→Shared→Prop} {pins:List (Addr×Obj)} {s:Shared} {σ:St} {H:Hp} {x:Str} {u:Value} {pos:Pos} {Q:Value→Shared→Prop} (I:Inv X pins σ H s) (hg:Gl X x) (hm:X.mg x=none) (hv:bootBuiltins x=some u) (h:Q u s)
    (hn:x ≠ "__name__" := by decide) (hd:(x==("__debug__" : Str))=false:=by decide):wpAny (model X.prog X.w) X.A (eval (.Name x pos) X.env) Q E s:=by
  obtain ⟨mb,h1,h2⟩:=I.mod.blt
  exact Calls.Name_function_global I.ok.kind hg (Calls.loadGlobal_builtin (by rw [I.ok.glob]; exact I.mod.glob.keeps I.bk) hm (by rw [I.ok.blt]; exact h1.keeps I.bk) ((h2 x hn).trans hv) h) hd
theorem pe_glob {x:Str} {v:V} {u:Value} {pos:Pos} (hg:Gl X x) (hm:X.mg x=some u) (r:RelV v u) (hd:(x==("__debug__" : Str))=false:=by decide):PE X (.Name x pos) (tC v) :=
  fun _ _ _ H _ I h=>ld_glob I hg hm ⟨v,H,I,r,h⟩ hd
noncomputable def t2I (ta tb:TE) (k:Int→Int→Hp→Prop):St→Hp→Prop:=fun σ H=>ta σ H fun x H1=>tb σ H1 fun y H2=>∃ i j,x=.int i∧y=.int j∧k i j H2
noncomputable def tAdd (ta tb:TE):TE:=fun σ H Q=>t2I ta tb (fun i j H2=>Q (.int (i+j)) H2) σ H
noncomputable def tSub (ta tb:TE):TE:=fun σ H Q=>t2I ta tb (fun i j H2=>Q (.int (i - j)) H2) σ H
noncomputable def tMul (ta tb:TE):TE:=fun σ H Q=>t2I ta tb (fun i j H2=>(-(2 ^ 64) < i∧i < 2 ^ 64)∧Q (.int (i*j)) H2) σ H
variable {a b:Expr} {ta tb:TE} {pos:Pos}
noncomputable def PC (X:Cx) (op:CmpOp) (a b:Expr) (t:TE):Prop :=
  ∀ (pins:List (Addr×Obj)) (s:Shared) (σ:St) (H:Hp) (Q:VK),Inv X pins σ H s→t σ H Q →
    wpAny (model X.prog X.w) X.A (eval a X.env) (fun v s₁=>wpAny (model X.prog X.w) X.A (eval b X.env) (fun u s₂=>wpAny (model X.prog X.w) X.A (compareOp op v u) (EP X pins σ Q) X.xe s₂) X.xe s₁) X.xe s
noncomputable def tCmp (p:Int→Int→Bool) (ta tb:TE):TE:=fun σ H Q=>t2I ta tb (fun i j H2=>Q (.bl (p i j)) H2) σ H
noncomputable abbrev tLt:TE→TE→TE:=tCmp fun i j=>decide (i < j)
noncomputable abbrev tLe:TE→TE→TE:=tCmp fun i j=>decide (i≤j)
noncomputable abbrev tGt:TE→TE→TE:=tCmp fun i j=>decide (j < i)
noncomputable abbrev tGe:TE→TE→TE:=tCmp fun i j=>decide (j≤i)
noncomputable abbrev tEqI:TE→TE→TE:=tCmp fun i j=>decide (i=j)
noncomputable abbrev tNeI:TE→TE→TE:=tCmp fun i j=>!decide (i=j)
noncomputable def tIsN (ta:TE):TE:=fun σ H Q=>ta σ H fun x H1=>Q (.bl (decide (x=.non))) H1
noncomputable def tNotN (ta:TE):TE:=fun σ H Q=>ta σ H fun x H1=>Q (.bl (!decide (x=.non))) H1
noncomputable def tB (t:TE):TT:=fun σ H Q=>t σ H fun x H1=>∃ c,x=.bl c∧Q c H1
theorem pt_cmp {op:CmpOp} {t:TE} (h:PC X op a b t) (h1:behindInMarks op b=false:=by first | exact nobehind _ (by decide) (by decide) | rfl):PT X (.Compare a [op] [b] pos) (tB t):=by
  intro pins s σ H Q I hw
  refine wpAny_isTrue_Compare1 (thn (h pins s σ H _ I hw) fun v s1 h1=>thn h1 fun u s2 h2=>thn h2 fun c s3 ⟨x,H1,I1,r1,q1⟩=>?_) h1
  obtain ⟨d,rfl,q⟩:=q1
  cases r1
  exact wpAny_truthy_bool ⟨H1,I1,q⟩
theorem pt_val {e:Expr} {t:TE} (h:PE X e t) (he:∀ whole,isTrue e X.env whole=(do let v ← whole; standAt e.pos; holding [v] (truthy v)):=by intro _; rfl):PT X e (tB t):=by
  intro pins s σ H Q I hw
  refine isTrue_plain (thn (h pins s σ H _ I hw) fun v s1 ⟨x,H1,I1,r1,q1⟩=>?_) (he _)
  obtain ⟨d,rfl,q⟩:=q1
  cases r1
  exact wpAny_truthy_bool ⟨H1,I1,q⟩
variable {tA tB':TT} {rest:List Expr}
noncomputable def tAnd (t u:TT):TT:=fun σ H Q=>t σ H fun c H1=>if c=true then u σ H1 Q else Q false H1
noncomputable def tOr (t u:TT):TT:=fun σ H Q=>t σ H fun c H1=>if c=true then Q true H1 else u σ H1 Q
noncomputable def tNot (t:TT):TT:=fun σ H Q=>t σ H fun c H1=>Q (!c) H1
theorem pw_and1 (ha:PT X a tA):PW X (.BoolOp .And [a] pos) tA:=by
  intro wh pins s σ H Q I h
  refine isTrue_and (thn (ha pins s σ H Q I h) fun c s1 e=>?_)
  cases c with
  | true=>exact isTrue_and_nil e
  | false=>exact e
theorem pw_or1 (ha:PT X a tA):PW X (.BoolOp .Or [a] pos) tA:=by
  intro wh pins s σ H Q I h
  refine isTrue_or (thn (ha pins s σ H Q I h) fun c s1 e=>?_)
  cases c with
  | false=>exact isTrue_or_nil e
  | true=>exact e
theorem pw_and (ha:PT X a tA) (hb:PW X (.BoolOp .And (b::rest) pos) tB'):PW X (.BoolOp .And (a::b::rest) pos) (tAnd tA tB'):=by
  intro wh pins s σ H Q I h
  refine isTrue_and (thn (ha pins s σ H _ I h) fun c s1 ⟨H1,I1,q1⟩=>?_)
  cases c with
  | true=>exact hb wh pins s1 σ H1 Q I1 q1
  | false=>exact ⟨H1,I1,q1⟩
theorem pw_or (ha:PT X a tA) (hb:PW X (.BoolOp .Or (b::rest) pos) tB'):PW X (.BoolOp .Or (a::b::rest) pos) (tOr tA tB'):=by
  intro wh pins s σ H Q I h
  refine isTrue_or (thn (ha pins s σ H _ I h) fun c s1 ⟨H1,I1,q1⟩=>?_)
  cases c with
  | true=>exact ⟨H1,I1,q1⟩
  | false=>exact hb wh pins s1 σ H1 Q I1 q1
theorem pt_not (ha:PT X a tA):PT X (.UnaryOp .Not a pos) (tNot tA):=by
  intro pins s σ H Q I h
  exact isTrue_not (ha pins s σ H (fun c H1=>Q (!c) H1) I h)
noncomputable def tAndV (ta tb:TE):TE:=fun σ H Q=>ta σ H fun x H1=>∃ c,x=.bl c∧if c=true then tb σ H1 Q else Q (.bl false) H1
noncomputable def tOrV (ta tb:TE):TE:=fun σ H Q=>ta σ H fun x H1=>∃ c,x=.bl c∧if c=true then Q (.bl true) H1 else tb σ H1 Q
noncomputable def tNotV (ta:TE):TE:=fun σ H Q=>ta σ H fun x H1=>∃ c,x=.bl c∧Q (.bl (!c)) H1
noncomputable def tIf (t:TT) (ta tb:TE):TE:=fun σ H Q=>t σ H fun c H1=>if c=true then ta σ H1 Q else tb σ H1 Q
end
end L2
namespace L2
open PySem PySem.Spec PyProof.Rows
noncomputable def SqL (K:PySem.W.Frag) (H:Hp) (a:Addr) (xs:List V):Prop :=
  Rd H a (.lst xs) ∨
    ∃ (o:Obj) (its:Array Value) (n:Nat),K.lookup a=some o∧o.cls=.type "list" ∧ o.dict=none∧o.data=.seq its n∧its.size≤sizeLine∧Vals xs its.toList
noncomputable def SqT (K:PySem.W.Frag) (H:Hp) (a:Addr) (xs:List V):Prop :=
  Rd H a (.tup xs) ∨
    ∃ (o:Obj) (its:Array Value) (n:Nat),K.lookup a=some o∧o.cls=.type "tuple" ∧ o.data=.seq its n∧its.size≤sizeLine∧Vals xs its.toList
noncomputable def absV:Value→Option V
  | .none=>some .non
  | .bool b=>some (.bl b)
  | .int i _=>some (.int i)
  | .str x _=>some (.str x)
  | .bytes b _=>some (.byt b)
  | .float b _=>some (.flt b)
  | .ref a=>some (.ref a)
  | .type n=>some (.ty n)
  | _=>none
theorem RelV.abs {x:V} {u:Value} (r:RelV x u):absV u=some x:=by
  cases x with
  | non=>cases r; rfl
  | bl _=>cases r; rfl
  | int _=>obtain ⟨t,rfl⟩:=r; rfl
  | str _=>obtain ⟨t,rfl⟩:=r; rfl
  | byt _=>obtain ⟨t,rfl⟩:=r; rfl
  | flt _=>obtain ⟨t,rfl⟩:=r; rfl
  | ref _=>cases r; rfl
  | ty _=>cases r; rfl
theorem RelV.inj {x y:V} {u:Value} (r:RelV x u) (q:RelV y u):x=y:=Option.some.inj (r.abs.symm.trans q.abs)
theorem Vals.inj:∀ {xs ys:List V} {us:List Value},Vals xs us→Vals ys us→xs=ys
  | _,_,_,.nil,.nil=>rfl
  | _,_,_,.cons r t,.cons r' t'=>by rw [r.inj r',Vals.inj t t']
section
variable {X:Cx} {pins:List (Addr×Obj)} {σ:St} {H:Hp} {s:Shared} {a:Addr} {xs ys:List V}
theorem SqL.of {K:PySem.W.Frag} (h:H a=some (.lst xs)):SqL K H a xs:=.inl (.inl h)
theorem SqT.of {K:PySem.W.Frag} (h:H a=some (.tup xs)):SqT K H a xs:=.inl (.inl h)
theorem Inv.list (I:Inv X pins σ H s) (h:SqL X.K H a xs):∃ its:List Value,Vals xs its∧PlainL s.heap a its.toArray∧xs.length≤sizeLine:=by
  rcases h with h | ⟨o,its,n,hk,hc,hd,hs,hz,r⟩
  · obtain ⟨z,its,n,r,e⟩:=h.ok I.hok
    exact ⟨its,r,⟨_,n,e,rfl,rfl,rfl⟩,z⟩
  · refine ⟨its.toList,r,⟨o,n,I.kIn a o hk,hc,hd,by simpa using hs⟩,?_⟩
    have e:=r.length
    simp only [Array.length_toList] at e
    omega
theorem Inv.tuple (I:Inv X pins σ H s) (h:SqT X.K H a xs):∃ its:List Value,Vals xs its∧IsTup s.heap a its.toArray∧xs.length≤sizeLine:=by
  rcases h with h | ⟨o,its,n,hk,hc,hs,hz,r⟩
  · obtain ⟨z,its,r,p⟩:=h.ok I.hok
    exact ⟨its,r,p,z⟩
  · refine ⟨its.toList,r,⟨o,I.kIn a o hk,hc,n,by simpa using hs⟩,?_⟩
    have e:=r.length
    simp only [Array.length_toList] at e
    omega
theorem Inv.list_inj (I:Inv X pins σ H s) (h:SqL X.K H a xs) (h':SqL X.K H a ys):xs=ys:=by
  obtain ⟨its,r,⟨o,n,e,_,_,d⟩,_⟩:=I.list h
  obtain ⟨its',r',⟨o',n',e',_,_,d'⟩,_⟩:=I.list h'
  rw [e] at e'; cases e'
  rw [d] at d'
  injection d' with d1 _
  have:its=its':=by simpa using congrArg Array.toList d1
  subst this
  exact r.inj r'
theorem Inv.tuple_inj (I:Inv X pins σ H s) (h:SqT X.K H a xs) (h':SqT X.K H a ys):xs=ys:=by
  obtain ⟨its,r,⟨o,e,_,n,d⟩,_⟩:=I.tuple h
  obtain ⟨its',r',⟨o',e',_,n',d'⟩,_⟩:=I.tuple h'
  rw [e] at e'; cases e'
  rw [d] at d'
  injection d' with d1 _
  have:its=its':=by simpa using congrArg Array.toList d1
  subst this
  exact r.inj r'
end
noncomputable abbrev Cx.wish (X:Cx) (E:Value→Shared→Prop):Cx:={ X with xe:=E }
noncomputable abbrev Cx.nox (X:Cx):Cx:=X.wish fun _ _=>False
theorem Cx.Ok.wish {X:Cx} (ok:X.Ok) (E:Value→Shared→Prop):(X.wish E).Ok :=
  ⟨ok.mod,ok.kind,ok.glob,ok.blt,ok.above,ok.inj,ok.has,ok.cab,ok.hd,ok.frames,ok.stk,ok.exf,ok.bs,ok.bsz,ok.noex,ok.exfs,ok.funs,ok.frf⟩
theorem Cx.Ok.unwish {X:Cx} {E:Value→Shared→Prop} (ok:(X.wish E).Ok):X.Ok :=
  ⟨ok.mod,ok.kind,ok.glob,ok.blt,ok.above,ok.inj,ok.has,ok.cab,ok.hd,ok.frames,ok.stk,ok.exf,ok.bs,ok.bsz,ok.noex,ok.exfs,ok.funs,ok.frf⟩
section
variable {X:Cx} {pins:List (Addr×Obj)} {σ:St} {H:Hp} {s:Shared} {E:Value→Shared→Prop}
theorem Inv.wish (I:Inv X pins σ H s) (E:Value→Shared→Prop):Inv (X.wish E) pins σ H s:=⟨I.ok.wish E,I.os,I.bare,I.base,I.loc,I.cell,I.free,I.freeC,I.pin,I.hok,I.len⟩
theorem Inv.unwish (I:Inv (X.wish E) pins σ H s):Inv X pins σ H s:=⟨I.ok.unwish,I.os,I.bare,I.base,I.loc,I.cell,I.free,I.freeC,I.pin,I.hok,I.len⟩
theorem SP.unwish {D:Ends} {f:Flow} {s':Shared} (h:SP (X.wish E) pins D f s'):SP X pins D f s':=by
  cases f with
  | next=>obtain ⟨σ',H',I,q⟩:=h; exact ⟨σ',H',I.unwish,q⟩
  | brk=>obtain ⟨σ',H',I,q⟩:=h; exact ⟨σ',H',I.unwish,q⟩
  | cont=>obtain ⟨σ',H',I,q⟩:=h; exact ⟨σ',H',I.unwish,q⟩
  | ret u=>obtain ⟨v,σ',H',I,r,q⟩:=h; exact ⟨v,σ',H',I.unwish,r,q⟩
theorem PSs.nox {st:List Stmt} {t:TS} (h:PSs X.nox st t):PSs X st t:=fun pins s σ H D I hw =>
  wpAny_mono (h pins s σ H D (I.wish _) hw) (fun _ _ q=>q.unwish) fun _ _ z=>False.elim z
end
section
variable {X:Cx} {st:Stmt} {rest:List Stmt} {t u:TS} {e:Expr} {te:TE} {pos:Pos}
noncomputable def tNext:TS:=fun D σ H=>D.nx σ H
noncomputable def tSeq (t u:TS):TS:=fun D σ H=>t { D with nx:=u D } σ H
theorem pss_nil:PSs X [] tNext:=fun _ _ σ H _ I h=>wpAny_execs_nil ⟨σ,H,I,h⟩
theorem pss_cons (h1:PS X st t) (h2:PSs X rest u):PSs X (st::rest) (tSeq t u):=by
  intro pins s σ H D I h
  refine wpAny_execs_cons (thn (h1 pins s σ H { D with nx:=u D } I h) fun f s1 q=>?_)
  cases f with
  | next =>
    obtain ⟨σ',H',I',q⟩:=q
    exact h2 pins s1 σ' H' D I' q
  | ret v=>exact q
  | brk=>exact q
  | cont=>exact q
theorem pss_one (h1:PS X st t):PSs X [st] t:=by
  intro pins s σ H D I h
  refine wpAny_execs_cons (thn (h1 pins s σ H D I h) fun f s1 q=>?_)
  cases f with
  | next=>exact wpAny_execs_nil q
  | ret v=>exact q
  | brk=>exact q
  | cont=>exact q
noncomputable def tBreak:TS:=fun D σ H=>D.bk σ H
noncomputable def tCont:TS:=fun D σ H=>D.ct σ H
theorem Inv.quiet {pins:List (Addr×Obj)} {σ:St} {H:Hp} {s:Shared} (I:Inv X pins σ H s):interactive X.env=false:=by simp [interactive,I.ok.kind]
noncomputable def tDrop (te:TE):TS:=fun D σ H=>te σ H fun _ H1=>D.nx σ H1
theorem ps_expr (he:PE X e te) (hs:swapsWith e none pos.line X.env=pure false:=by rfl):PS X (.Expr e pos) (tDrop te):=by
  intro pins s σ H D I h
  exact wpAny_Expr_any (thn (he pins s σ H _ I h) fun v s1 ⟨x,H1,I1,r1,q1⟩=>⟨σ,H1,I1,q1⟩) I.quiet hs
noncomputable def tRet (te:TE):TS:=fun D σ H=>te σ H D.rt
theorem ps_ret (he:PE X e te):PS X (.Return (some e) pos) (tRet te):=by
  intro pins s σ H D I h
  exact wpAny_Return_some (thn (he pins s σ H _ I h) fun v s1 ⟨x,H1,I1,r1,q1⟩=>⟨x,σ,H1,I1,r1,q1⟩)
noncomputable def tRetN:TS:=fun D _ H=>D.rt .non H
noncomputable def tIfS (c:TT) (t u:TS):TS:=fun D σ H=>c σ H fun b H1=>if b=true then t D σ H1 else u D σ H1
theorem ps_if {c:Expr} {a b:List Stmt} {tc:TT} (hc:PT X c tc) (ha:PSs X a t) (hb:PSs X b u):PS X (.If c a b pos) (tIfS tc t u):=by
  intro pins s σ H D I h
  refine wpAny_If (thn (hc pins s σ H _ I h) fun d s1 ⟨H1,I1,q1⟩=>?_)
  cases d with
  | true=>exact ha pins s1 σ H1 D I1 q1
  | false=>exact hb pins s1 σ H1 D I1 q1
noncomputable def tNever:TS:=fun _ _ _=>False
theorem ps_never:PS X st tNever:=fun _ _ _ _ _ _ h=>h.elim
end
noncomputable abbrev TG:=V→St→Hp→(St→Hp→Prop)→Prop
noncomputable abbrev TGs:=List V→St→Hp→(St→Hp→Prop)→Prop
noncomputable def PG (X:Cx) (target:Expr) (t:TG):Prop :=
  ∀ (pins:List (Addr×Obj)) (s:Shared) (σ:St) (H:Hp) (v:V) (u:Value) (Q:St→Hp→Prop),Inv X pins σ H s→RelV v u→t v σ H Q →
    wpAny (model X.prog X.w) X.A (assign target X.env u) (fun _ s'=>∃ σ' H',Inv X pins σ' H' s'∧Q σ' H') X.xe s
noncomputable def PGs (X:Cx) (ts:List Expr) (t:TGs):Prop :=
  ∀ (pins:List (Addr×Obj)) (s:Shared) (σ:St) (H:Hp) (vs:List V) (us:List Value) (Q:St→Hp→Prop),Inv X pins σ H s→Vals vs us→t vs σ H Q →
    wpAny (model X.prog X.w) X.A (assignInOrder ((assignEach ts X.env).map (·.2)) us) (fun _ s'=>∃ σ' H',Inv X pins σ' H' s'∧Q σ' H') X.xe s
noncomputable abbrev TSet:=V→V→V→Hp→(Hp→Prop)→Prop
noncomputable def PSet (X:Cx) (t:TSet):Prop :=
  ∀ (pins:List (Addr×Obj)) (s:Shared) (σ:St) (H:Hp) (o i v:V) (ov iv u:Value) (Q:Hp→Prop),Inv X pins σ H s→RelV o ov→RelV i iv→RelV v u→t o i v H Q →
    wpAny (model X.prog X.w) X.A (setItem ov iv u) (fun _ s'=>∃ H',Inv X pins σ H' s'∧Q H') X.xe s
noncomputable abbrev TIp:=V→V→Hp→VK→Prop
noncomputable def PIp (X:Cx) (op:Operator) (t:TIp):Prop :=
  ∀ (pins:List (Addr×Obj)) (s:Shared) (σ:St) (H:Hp) (x y:V) (v u:Value) (Q:VK),Inv X pins σ H s→RelV x v→RelV y u→t x y H Q →
    wpAny (model X.prog X.w) X.A (inplaceOp op v u) (EP X pins σ Q) X.xe s
section
variable {X:Cx} {pos:Pos}
noncomputable def gName (i:Nat):TG:=fun v σ H Q=>Q (σ.set i (some v)) H
theorem pg_name {i:Nat} {x:Str} (hN:X.N.Nodup) (hi:X.N[i]?=some x) (hx:Loc X.env.scope x) (hf:X.fn x=true∨X.env.scope.names.lookup x=some .local:=by first | exact .inl rfl | exact .inr rfl | assumption):PG X (.Name x pos) (gName i):=by
  intro pins s σ H v u Q I r h
  exact wpAny_assign_Name (store_ok I hN hi hx r (fun s' I'=>⟨_,H,I',h⟩) hf)
noncomputable def gNil:TGs:=fun vs σ H Q=>vs=[]∧Q σ H
noncomputable def gCons (t:TG) (u:TGs):TGs:=fun vs σ H Q=>∃ v r,vs=v::r∧t v σ H fun σ' H'=>u r σ' H' Q
theorem pgs_nil:PGs X [] gNil:=by
  intro pins s σ H vs us Q I r h
  obtain ⟨e,h⟩:=h
  subst e
  cases r
  exact assignInOrder_nil ⟨σ,H,I,h⟩
theorem pgs_cons {e:Expr} {es:List Expr} {t:TG} {u:TGs} (h1:PG X e t) (h2:PGs X es u)
    (hs:(assignEach (e::es) X.env).map (·.2)=assign e X.env::(assignEach es X.env).map (·.2):=by rfl):PGs X (e::es) (gCons t u):=by
  intro pins s σ H vs us Q I r h
  obtain ⟨v,vr,e1,h⟩:=h
  subst e1
  cases r with
  | cons r rr =>
    rw [hs]
    refine assignInOrder_cons (thn (h1 pins s σ H _ _ _ I r h) fun _ s1 ⟨σ1,H1,I1,q1⟩=>?_)
    exact h2 pins s1 σ1 H1 _ _ Q I1 rr q1
noncomputable def gTup (K:PySem.W.Frag) (n:Nat) (t:TGs):TG:=fun v σ H Q=>∃ a xs,v=.ref a∧SqT K H a xs∧xs.length=n∧t xs σ H Q
theorem pg_tup {es:List Expr} {k:Nat} {t:TGs} {n:Nat} (hc:X.calm=true) (h:PGs X es t)
    (hn:(assignEach es X.env).length=n:=by rfl) (hst:(assignEach es X.env).findIdx? (·.1)=none:=by rfl):PG X (.Tuple es k pos) (gTup X.K n t):=by
  intro pins s σ H v u Q I r hw
  obtain ⟨a,xs,e1,hq,hl,hw⟩:=hw
  subst e1
  cases r
  obtain ⟨its,rv,ht,hz⟩:=I.tuple hq
  refine assign_Tuple_tuple (I.ok.hd hc) ht (by simp [hn,← hl,rv.length]) hst fun h' hx=>?_
  have I1:Inv X pins σ H { s with heap:=h' }:=I.kept (t':=s.toks) fun b o e=>hx b o (Nat.ne_of_lt (Heap.lt_size e)) e
  exact h pins _ σ H xs _ Q I1 (by simpa using rv) hw
noncomputable def gSub (to ti:TE) (t:TSet):TG:=fun v σ H Q=>to σ H fun o H1=>ti σ H1 fun i H2=>t o i v H2 fun H3=>Q σ H3
noncomputable def tAsg (te:TE) (g:TG):TS:=fun D σ H=>te σ H fun x H1=>g x σ H1 D.nx
theorem ps_asg {tg e:Expr} {te:TE} {g:TG} (he:PE X e te) (hg:PG X tg g) (hs:swapsWithSole [tg] e pos.line X.env=pure false:=by rfl) (hw:swappedStores [tg] e X.env=pure none:=by rfl)
    (h1:(assignEach [tg] X.env).map (·.2)=[assign tg X.env]:=by rfl):PS X (.Assign [tg] e pos) (tAsg te g):=by
  intro pins s σ H D I h
  refine wpAny_Assign_stores (thn (he pins s σ H _ I h) fun v s1 ⟨x,H1,I1,r1,q1⟩=>?_) hs hw
  rw [h1]
  exact thn (hg pins s1 σ H1 x v _ I1 r1 q1) fun _ s2 q=>q
theorem ps_set {i:Nat} {x:Str} {e:Expr} {te:TE} {pos':Pos} (hN:X.N.Nodup) (hi:X.N[i]?=some x) (hx:Loc X.env.scope x) (he:PE X e te) (hs:swapsWith e (some (.Name x pos')) pos.line X.env=pure false:=by rfl) (hf:X.fn x=true∨X.env.scope.names.lookup x=some .local:=by first | exact .inl rfl | exact .inr rfl | assumption) :
    PS X (.Assign [.Name x pos'] e pos) (tAsg te (gName i)):=by
  intro pins s σ H D I h
  refine wpAny_Assign_Name (thn (he pins s σ H _ I h) fun v s1 ⟨y,H1,I1,r1,q1⟩=>?_) hs
  exact store_ok I1 hN hi hx r1 (fun s2 I2=>⟨_,H1,I2,q1⟩) hf
noncomputable def tPar (i j:Nat) (ta:TA):TS:=fun D σ H=>ta σ H fun vs H1=>∃ v w,vs=[v,w]∧D.nx ((σ.set i (some v)).set j (some w)) H1
noncomputable def tAug (i:Nat) (te:TE) (ti:TIp):TS:=fun D σ H=>∃ x,σ[i]?=some (some x)∧te σ H fun y H1=>ti x y H1 fun z H2=>D.nx (σ.set i (some z)) H2
noncomputable def tAugS (to ti te:TE) (tget:V→V→Hp→VK→Prop) (tip:TIp) (tset:TSet):TS:=fun D σ H=>to σ H fun o H1=>ti σ H1 fun i H2=>tget o i H2 fun x H3=>te σ H3 fun y H4=>tip x y H4 fun z H5=>tset o i z H5 fun H6=>D.nx σ H6
noncomputable def PGet (X:Cx) (t:V→V→Hp→VK→Prop):Prop :=
  ∀ (pins:List (Addr×Obj)) (s:Shared) (σ:St) (H:Hp) (o i:V) (ov iv:Value) (Q:VK),Inv X pins σ H s→RelV o ov→RelV i iv→t o i H Q →
    wpAny (model X.prog X.w) X.A (getItem ov iv) (EP X pins σ Q) X.xe s
noncomputable def ipI (f:Int→Int→Int):TIp:=fun x y H Q=>∃ i j,x=.int i∧y=.int j∧Q (.int (f i j)) H
end
section
variable {X:Cx} {pos:Pos}
noncomputable def tWhile (c:TT) (tb:TS):TS:=fun D σ H=>∃ W:Nat→St→Hp→Prop,(∃ m,W m σ H)∧∀ m σ H,W m σ H →
  c σ H fun b H1=>if b=true then ∃ N:St→Hp→Prop,(∀ σ' H',N σ' H'→∃ m',m' < m∧W m' σ' H')∧tb { D with nx:=N,ct:=N,bk:=D.nx } σ H1 else D.nx σ H1
end
structure It where
  go:Nat→Hp→Prop
  yld:Nat→Hp→V→Hp→Prop
  stop:Nat→Hp→Prop
noncomputable def FpOk (X:Cx) (pins:List (Addr×Obj)) (H:Hp) (b:Addr):Prop :=
  H b=none∧b≠X.env.locals∧b∉X.fs∧(b∈X.ex∨X.s₀.heap.objs.size≤b)∧(∀ x c,X.env.cells.lookup x=some c→c≠b)∧∀ p∈X.pn++pins,p.1≠b
theorem Inv.fpOk {X:Cx} {pins:List (Addr×Obj)} {σ:St} {H H':Hp} {s:Shared} {b:Addr} (I:Inv X pins σ H s) (hb:s.heap.objs.size≤b) (hn:H' b=none):FpOk X pins H' b:=by
  refine ⟨hn,Nat.ne_of_gt (Nat.lt_of_lt_of_le I.lt hb),I.nofs hb,.inr (Nat.le_trans I.sz hb),fun x c e z=>?_,fun p hp z=>?_⟩
  · obtain ⟨v,q⟩:=I.cell x c e
    exact absurd (Nat.lt_of_lt_of_le q.lt (by rw [z]; exact hb)) (Nat.lt_irrefl _)
  · exact absurd (Nat.lt_of_lt_of_le (Heap.lt_size (I.pin p hp).1) (by rw [z]; exact hb)) (Nat.lt_irrefl _)
structure Turn (P:Program) (w:World) (K:PySem.W.Frag) (tg:Expr) (J:It) (fp:List Addr) (it:Addr) (tn:Nat→Heap→Prop):Prop where
  mem:it∈fp
  obj:∀ i h,tn i h→∀ b∈fp,∃ o,h.get? b=some o∧∀ v,o.data≠.cell v
  keep:∀ i h h',tn i h→(∀ b∈fp,∀ o,h.get? b=some o→h'.get? b=some o)→tn i h'
  item:∀ (X:Cx),X.prog=P→X.w=w→X.K=K→X.calm=true→∀ (i:Nat) (pins:List (Addr×Obj)) (s:Shared) (σ:St) (H:Hp) (E:Value→Shared→Prop),Inv X pins σ H s→(∀ b∈fp,FpOk X pins H b)→tn i s.heap→J.go i H →
    wpAny (model P w) X.A (pyNext (.ref it)) (fun r s1=>∃ u,r=some u ∧
      wpAny (model P w) X.A (letOwnedTupleGo tg (.ref it) u) (fun _ s2=>∃ x H',Inv X pins σ H' s2∧RelV x u∧J.yld i H x H'∧tn (i+1) s2.heap∧∀ b∈fp,H' b=none) E s1) E s
  done:∀ (X:Cx),X.prog=P→X.w=w→X.K=K→X.calm=true→∀ (i:Nat) (pins:List (Addr×Obj)) (s:Shared) (σ:St) (H:Hp) (E:Value→Shared→Prop),Inv X pins σ H s→(∀ b∈fp,FpOk X pins H b)→tn i s.heap→J.stop i H →
    wpAny (model P w) X.A (pyNext (.ref it)) (fun r s1=>r=none∧Inv X pins σ H s1) E s
  self:∀ (A:Around) (i:Nat) (s:Shared) (Q:Value→Shared→Prop) (E:Value→Shared→Prop),tn i s.heap→Q (.ref it) s→wpAny (model P w) A (pyIter (.ref it)) Q E s
noncomputable abbrev TI:=St→Hp→(It→Hp→Prop)→Prop
noncomputable def PIE (X:Cx) (pins:List (Addr×Obj)) (σ:St) (tg:Expr) (R:It→Hp→Prop) (itv:Value) (s2:Shared):Prop :=
  ∃ (it:Addr) (fp:List Addr) (tn:Nat→Heap→Prop) (J:It) (H':Hp),itv=.ref it∧Inv X pins σ H' s2∧Turn X.prog X.w X.K tg J fp it tn∧tn 0 s2.heap∧(∀ b∈fp,FpOk X pins H' b)∧R J H'
noncomputable def PI (X:Cx) (tg iter:Expr) (wi:TI):Prop :=
  ∀ (pins:List (Addr×Obj)) (s:Shared) (σ:St) (H:Hp) (R:It→Hp→Prop),Inv X pins σ H s→wi σ H R →
    wpAny (model X.prog X.w) X.A (eval iter X.env) (fun v s1=>wpAny (model X.prog X.w) X.A (pyIter v) (PIE X pins σ tg R) X.xe s1) X.xe s
theorem go_of {M:Model} {A:Around} {E:Value→Shared→Prop} {s:Shared} {tg:Expr} {it:Addr} {u:Value} {o:Obj} {n:String} {vs:Array Value} {Q:Unit→Shared→Prop} (ho:s.heap.get? it=some o) (hc:o.cls=.type n) (hd:o.data=.fields vs)
    (hn:["enumerate", "zip", "dict_itemiterator", "dict_reverseitemiterator", "odict_iterator", "itertools.zip_longest", "itertools.pairwise"].contains n=false) (hQ:Q () s):wpAny M A (letOwnedTupleGo tg (.ref it) u) Q E s:=by
  unfold letOwnedTupleGo
  cases tg <;> first
    | exact wpAny_pure hQ
    | (cases u <;> first
        | exact wpAny_pure hQ
        | (refine wpAny_bind (wpAny_load ho ?_)
           rw [hc,hd]
           show wpAny M A (if (["enumerate", "zip", "dict_itemiterator", "dict_reverseitemiterator", "odict_iterator", "itertools.zip_longest", "itertools.pairwise"].contains n&&vs[0]?==some (rawInt _))=true then _ else _) Q E s
           rw [if_neg (by intro h; rw [hn,Bool.false_and] at h; cases h)]
           exact wpAny_pure hQ))
noncomputable def Itl (K:PySem.W.Frag) (a:Addr):It :=
  ⟨fun i H=>∃ xs x,SqL K H a xs∧xs[i]?=some x,fun i H x H'=>H'=H∧∀ xs,SqL K H a xs→xs[i]?=some x,fun i H=>∃ xs,SqL K H a xs∧xs.length≤i⟩
noncomputable def Itt (K:PySem.W.Frag) (a:Addr):It :=
  ⟨fun i H=>∃ xs x,SqT K H a xs∧xs[i]?=some x,fun i H x H'=>H'=H∧∀ xs,SqT K H a xs→xs[i]?=some x,fun i H=>∃ xs,SqT K H a xs∧xs.length≤i⟩
noncomputable def Itr (lo:Int) (n:Nat):It:=⟨fun i _=>i < n,fun i H x H'=>H'=H∧x=.int (lo+i),fun i _=>n≤i⟩
theorem turn_list {P:Program} {w:World} {K:PySem.W.Frag} {tg:Expr} (a it:Addr):Turn P w K tg (Itl K a) [it] it (fun i h=>h.IsListIter it a i) where
  mem:=by simp
  obj:=fun i h st b hb=>by
    have e:b=it:=by simpa using hb
    subst e
    obtain ⟨o,e,c,d⟩:=st
    exact ⟨o,e,fun v z=>by rw [d] at z; cases z⟩
  keep:=fun i h h' st k=>st.at fun o e=>k it (by simp) o e
  item:=by
    intro X hP hw hK hc i pins s σ H E I hf st hg
    subst hP hw hK
    obtain ⟨xs,x,hq,hx⟩:=hg
    obtain ⟨its,rv,p,hz⟩:=I.list hq
    obtain ⟨u,hu,ru⟩:=rv.get hx
    obtain ⟨f0,f1,f2,f3,f4,f5⟩:=hf it (by simp)
    refine wpAny_pyNext_list_item st p.isList (x:=u) (by simpa using hu) fun h' st' sb=>?_
    have I1:Inv X pins σ H { s with heap:=h' }:=I.turned (t':=s.toks) (fun b o hb e=>(sb.2 b hb).trans e) f0 f1 f3 f4 f5
    obtain ⟨o,e,c,d⟩:=id st'
    exact ⟨u,rfl,go_of (s:={ s with heap:=h' }) e c d (by decide) ⟨x,H,I1,ru,⟨rfl,fun ys hy=>by rw [I.list_inj hy hq]; exact hx⟩,st',fun b hb=>(hf b hb).1⟩⟩
  done:=by
    intro X hP hw hK hc i pins s σ H E I hf st hg
    subst hP hw hK
    obtain ⟨xs,hq,hx⟩:=hg
    obtain ⟨its,rv,p,hz⟩:=I.list hq
    obtain ⟨f0,f1,f2,f3,f4,f5⟩:=hf it (by simp)
    have hl:=rv.length
    exact wpAny_pyNext_list_end (I.ok.hd hc) st p.isList (by simp; omega) fun h' eb=>⟨rfl,I.turned (t':=s.toks) (fun b o hb e=>eb b o hb e) f0 f1 f3 f4 f5⟩
  self:=fun _ _ _ _ _ st h=>wpAny_pyIter_listiter st h
theorem turn_tuple {P:Program} {w:World} {K:PySem.W.Frag} {tg:Expr} (a it:Addr):Turn P w K tg (Itt K a) [it] it (fun i h=>h.IsTupleIter it a i) where
  mem:=by simp
  obj:=fun i h st b hb=>by
    have e:b=it:=by simpa using hb
    subst e
    obtain ⟨o,e,c,d⟩:=st
    exact ⟨o,e,fun v z=>by rw [d] at z; cases z⟩
  keep:=fun i h h' st k=>st.at fun o e=>k it (by simp) o e
  item:=by
    intro X hP hw hK hc i pins s σ H E I hf st hg
    subst hP hw hK
    obtain ⟨xs,x,hq,hx⟩:=hg
    obtain ⟨its,rv,p,hz⟩:=I.tuple hq
    obtain ⟨u,hu,ru⟩:=rv.get hx
    obtain ⟨f0,f1,f2,f3,f4,f5⟩:=hf it (by simp)
    refine wpAny_pyNext_tuple_item st (show s.heap.IsTuple a its.toArray from p) (x:=u) (by simpa using hu) fun h' st' sb=>?_
    have I1:Inv X pins σ H { s with heap:=h' }:=I.turned (t':=s.toks) (fun b o hb e=>(sb.2 b hb).trans e) f0 f1 f3 f4 f5
    obtain ⟨o,e,c,d⟩:=id st'
    exact ⟨u,rfl,go_of (s:={ s with heap:=h' }) e c d (by decide) ⟨x,H,I1,ru,⟨rfl,fun ys hy=>by rw [I.tuple_inj hy hq]; exact hx⟩,st',fun b hb=>(hf b hb).1⟩⟩
  done:=by
    intro X hP hw hK hc i pins s σ H E I hf st hg
    subst hP hw hK
    obtain ⟨xs,hq,hx⟩:=hg
    obtain ⟨its,rv,p,hz⟩:=I.tuple hq
    obtain ⟨f0,f1,f2,f3,f4,f5⟩:=hf it (by simp)
    have hl:=rv.length
    exact wpAny_pyNext_tuple_end (I.ok.hd hc) st (show s.heap.IsTuple a its.toArray from p) (by simp; omega) fun h' eb=>⟨rfl,I.turned (t':=s.toks) (fun b o hb e=>eb b o hb e) f0 f1 f3 f4 f5⟩
  self:=fun _ _ _ _ _ st h=>wpAny_pyIter_tupleiter st h
theorem turn_range {P:Program} {w:World} {K:PySem.W.Frag} {tg:Expr} (it:Addr) (lo:Int) (n:Nat):Turn P w K tg (Itr lo n) [it] it (fun i h=>IsRangeIter h it (lo+(i:Nat)*1) ((n:Int) - (i:Nat)) 1) where
  mem:=by simp
  obj:=fun i h st b hb=>by
    have e:b=it:=by simpa using hb
    subst e
    exact ⟨_,st,fun v z=>by
      have z':Data.fields _=Data.cell v:=z
      cases z'⟩
  keep:=fun i h h' st k=>k it (by simp) _ st
  item:=by
    intro X hP hw hK hc i pins s σ H E I hf st hg
    subst hP hw hK
    obtain ⟨f0,f1,f2,f3,f4,f5⟩:=hf it (by simp)
    have W:=Walks.range (prog:=X.prog) (w:=X.w) (I.ok.hd hc) it lo 1 n
    refine W.item i s _ _ hg st fun v h' tk hv st' kk=>?_
    obtain ⟨t,rfl⟩:=hv
    have I1:Inv X pins σ H { s with heap:=h',toks:=tk }:=I.turned (fun b o hb e=>kk b o (by simpa using hb) e) f0 f1 f3 f4 f5
    refine ⟨_,rfl,go_of (s:={ s with heap:=h',toks:=tk }) (n := "range_iterator") st' rfl rfl (by decide) ⟨.int (lo+i),H,I1,⟨t,?_⟩,⟨rfl,rfl⟩,st',fun b hb=>(hf b hb).1⟩⟩
    rw [Int.mul_one]
  done:=by
    intro X hP hw hK hc i pins s σ H E I hf st hg
    subst hP hw hK
    obtain ⟨f0,f1,f2,f3,f4,f5⟩:=hf it (by simp)
    exact wpAny_pyNext_range_end (I.ok.hd hc) st (by have:n≤i:=hg; omega) fun h' eb=>⟨rfl,I.turned (t':=s.toks) (fun b o hb e=>eb b o hb e) f0 f1 f3 f4 f5⟩
  self:=fun _ _ _ _ _ st h=>wpAny_pyIter_rangeiter st h
end L2
namespace L2
open PySem PySem.Spec PyProof.Rows
section
variable {X:Cx} {tg:Expr}
noncomputable def iList (K:PySem.W.Frag) (tl:TE):TI:=fun σ H R=>tl σ H fun x H1=>∃ a,x=.ref a∧(∃ xs,SqL K H1 a xs)∧R (Itl K a) H1
noncomputable def iTup (K:PySem.W.Frag) (tl:TE):TI:=fun σ H R=>tl σ H fun x H1=>∃ a,x=.ref a∧(∃ xs,SqT K H1 a xs)∧R (Itt K a) H1
theorem pi_list {l:Expr} {tl:TE} (hl:PE X l tl):PI X tg l (iList X.K tl):=by
  intro pins s σ H R I h
  refine thn (hl pins s σ H _ I h) fun v s1 ⟨x,H1,I1,r1,q1⟩=>?_
  obtain ⟨a,e,⟨xs,hq⟩,q⟩:=q1
  subst e
  cases r1
  obtain ⟨its,rv,p,hz⟩:=I1.list hq
  refine wpAny_pyIter_list p.isList ?_
  refine ⟨s1.heap.objs.size,[s1.heap.objs.size],_,_,H1,rfl,I1.kept (t':=s1.toks) fun b o e=>Heap.get?_push_of_some _ e,turn_list a _,⟨_,Heap.get?_push_size _ rfl,rfl,rfl⟩,fun b hb=>?_,q⟩
  have e:b=s1.heap.objs.size:=by simpa using hb
  subst e
  exact I1.fpOk (Nat.le_refl _) (I1.hok.fresh (Nat.le_refl _))
theorem pi_tup {l:Expr} {tl:TE} (hl:PE X l tl):PI X tg l (iTup X.K tl):=by
  intro pins s σ H R I h
  refine thn (hl pins s σ H _ I h) fun v s1 ⟨x,H1,I1,r1,q1⟩=>?_
  obtain ⟨a,e,⟨xs,hq⟩,q⟩:=q1
  subst e
  cases r1
  obtain ⟨its,rv,p,hz⟩:=I1.tuple hq
  refine wpAny_pyIter_tuple (show s1.heap.IsTuple a its.toArray from p) ?_
  refine ⟨s1.heap.objs.size,[s1.heap.objs.size],_,_,H1,rfl,I1.kept (t':=s1.toks) fun b o e=>Heap.get?_push_of_some _ e,turn_tuple a _,⟨_,Heap.get?_push_size _ rfl,rfl,rfl⟩,fun b hb=>?_,q⟩
  have e:b=s1.heap.objs.size:=by simpa using hb
  subst e
  exact I1.fpOk (Nat.le_refl _) (I1.hok.fresh (Nat.le_refl _))
theorem range_it {pins:List (Addr×Obj)} {σ:St} {H:Hp} {s:Shared} {R:It→Hp→Prop} {E:Value→Shared→Prop} {lo hi:Int} {t u v:Tok} {tk:Nat} (I:Inv X pins σ H s) (h1:-(2 ^ 62)≤lo) (h2:lo < 2 ^ 62) (h3:-(2 ^ 62)≤hi) (h4:hi < 2 ^ 62)
    (q:R (Itr lo (hi - lo).toNat) H):wpAny (model X.prog X.w) X.A (pyIter (.ref s.heap.objs.size)) (PIE X pins σ tg R) E { s with heap:=s.heap.push { cls:=.type "range", data:=.fields #[.int lo t,.int hi u,.int 1 v] },toks:=tk }:=by
  refine wpAny_pyIter_range (IsRange.new ..) (small_one h1 h2 h3 h4) ?_
  have I1:Inv X pins σ H { s with heap:=s.heap.push { cls:=.type "range", data:=.fields #[.int lo t,.int hi u,.int 1 v] },toks:=tk }:=I.kept fun b o e=>Heap.get?_push_of_some _ e
  refine ⟨(s.heap.push { cls:=.type "range", data:=.fields #[.int lo t,.int hi u,.int 1 v] }).objs.size,[(s.heap.push { cls:=.type "range", data:=.fields #[.int lo t,.int hi u,.int 1 v] }).objs.size],_,_,H,rfl,
    I1.kept (t':=tk) fun b o e=>Heap.get?_push_of_some _ e,turn_range _ lo (hi - lo).toNat,?_,fun b hb=>?_,q⟩
  · have e1:lo+((0:Nat):Int)*1=lo:=by simp
    have e2:(((hi - lo).toNat:Nat):Int) - ((0:Nat):Int)=Builtin.Range.rangeSize lo hi 1:=by rw [rangeSize_one]; split <;> omega
    show IsRangeIter _ _ (lo+((0:Nat):Int)*1) ((((hi - lo).toNat:Nat):Int) - ((0:Nat):Int)) 1
    rw [e1,e2]
    exact Heap.get?_push_size _ rfl
  · have e:b=(s.heap.push { cls:=.type "range", data:=.fields #[.int lo t,.int hi u,.int 1 v] }).objs.size:=by simpa using hb
    subst e
    exact I1.fpOk (Nat.le_refl _) (I1.hok.fresh (Nat.le_refl _))
noncomputable def iRng1 (ta:TA):TI:=fun σ H R=>ta σ H fun vs H1=>∃ j:Int,vs=[.int j]∧-(2 ^ 62)≤j∧j < 2 ^ 62∧R (Itr 0 j.toNat) H1
noncomputable def iRng2 (ta:TA):TI:=fun σ H R=>ta σ H fun vs H1=>∃ i j:Int,vs=[.int i,.int j]∧(-(2 ^ 62)≤i∧i < 2 ^ 62∧-(2 ^ 62)≤j∧j < 2 ^ 62)∧R (Itr i (j - i).toNat) H1
theorem pi_range1 {a:Expr} {ta:TA} {p pos:Pos} (hg:Gl X "range") (hm:X.mg "range" = none) (ha:PA X [a] ta) (hs:starEach [a] X.env=[(false,eval a X.env)]:=by rfl):PI X tg (.Call (.Name "range" p) [a] [] pos) (iRng1 ta):=by
  intro pins s σ H R I h
  refine Call_ (ld_blt I hg hm boot_range (PyProof.Rows.callWith_type1 (thn (ha pos pins s σ H _ I h) fun us s1 ⟨vs,H1,I1,r1,q1⟩=>?_) hs rfl))
  obtain ⟨j,e,q1,q2,q⟩:=q1
  subst e
  cases r1 with
  | cons r rr =>
    cases rr
    obtain ⟨t,rfl⟩:=r
    exact call_range_1 (range_it I1 (by omega) (by omega) q1 q2 (by simpa using q))
noncomputable def tFor (wi:TI) (g:TG) (tb:TS):TS:=fun D σ H=>wi σ H fun J H1=>∃ W:Nat→Nat→St→Hp→Prop,(∃ m,W 0 m σ H1)∧∀ i m σ H,W i m σ H →
  (J.stop i H∧D.nx σ H)∨(J.go i H∧∃ N:St→Hp→Prop,(∀ σ' H',N σ' H'→∃ m',m' < m∧W (i+1) m' σ' H')∧∀ x H',J.yld i H x H'→g x σ H' fun σ2 H2=>tb { D with nx:=N,ct:=N,bk:=D.nx } σ2 H2)
noncomputable def pinsAt (fp:List Addr) (h:Heap):List (Addr×Obj):=fp.filterMap fun b=>(h.get? b).map fun o=>(b,o)
theorem mem_pinsAt {fp:List Addr} {h:Heap} {b:Addr} {o:Obj} (hb:b∈fp) (e:h.get? b=some o):(b,o)∈pinsAt fp h:=List.mem_filterMap.mpr ⟨b,hb,by rw [e]; rfl⟩
theorem of_pinsAt {fp:List Addr} {h:Heap} {p:Addr×Obj} (hp:p∈pinsAt fp h):p.1∈fp∧h.get? p.1=some p.2:=by
  obtain ⟨b,hb,e⟩:=List.mem_filterMap.mp hp
  cases q:h.get? b with
  | none=>rw [q] at e; cases e
  | some o =>
    rw [q] at e
    have e':(b,o)=p:=Option.some.inj e
    subst e'
    exact ⟨hb,q⟩
theorem Inv.pinned {pins:List (Addr×Obj)} {σ:St} {H:Hp} {s:Shared} {fp:List Addr} (I:Inv X pins σ H s) (hf:∀ b∈fp,FpOk X pins H b) (ho:∀ b∈fp,∃ o,s.heap.get? b=some o∧∀ v,o.data≠.cell v):Inv X (pins++pinsAt fp s.heap) σ H s :=
  I.pins_of fun p hp=>(List.mem_append.mp hp).elim (fun z=>I.pin p (List.mem_append_right _ z)) fun z=>by
    obtain ⟨hb,e⟩:=of_pinsAt z
    obtain ⟨f0,f1,f2,_⟩:=hf p.1 hb
    obtain ⟨o,e',d⟩:=ho p.1 hb
    rw [e] at e'; cases e'
    exact ⟨e,f0,f1,f2,d⟩
theorem Inv.unpinned {pins pl:List (Addr×Obj)} {σ:St} {H:Hp} {s:Shared} (I:Inv X (pins++pl) σ H s):Inv X pins σ H s:=I.pins_of fun p hp=>I.pin p (List.mem_append_right _ (List.mem_append_left _ hp))
theorem ps_for {iter:Expr} {body:List Stmt} {wi:TI} {g:TG} {tb:TS} {pos:Pos} (hp:PassesOwn (model X.prog X.w) X.A X.env X.xe) (hc:X.calm=true) (hi:PI X tg iter wi) (hg:PG X tg g) (hb:PSs X body tb)
    (hs:∀ x,foldedSetIterable iter X.env x=pure x:=by intro _; rfl):PS X (.For tg iter body [] pos) (tFor wi g tb):=by
  intro pins s σ H D I h
  refine wpAny_For (thn (hi pins s σ H _ I h) fun v s1 h1=>thn h1 fun itv s2 h2=>?_) hs
  obtain ⟨it,fp,tn,J,H2,e,I2,T,st2,f2,W,⟨m0,w0⟩,turn⟩:=h2
  subst e
  have stat:∀ {H':Hp},(∀ b∈fp,H' b=none)→∀ b∈fp,FpOk X pins H' b:=fun hn b hb=>⟨hn b hb,(f2 b hb).2⟩
  refine codeAny_forLoop_any (fun n s'=>∃ i σ' H',Inv X pins σ' H' s'∧tn i s'.heap∧(∀ b∈fp,H' b=none)∧W i n σ' H') ?_ m0 ⟨0,σ,H2,I2,st2,fun b hb=>(f2 b hb).1,w0⟩
  rintro n s3 ⟨i,σ3,H3,I3,st3,fr3,w3⟩
  rcases turn i n σ3 H3 w3 with ⟨stop,qn⟩ | ⟨go,N,hN,step⟩
  · refine wpAny_passesOwn hp (thn (T.done X rfl rfl rfl hc i pins s3 σ3 H3 X.xe I3 (stat fr3) st3 stop) fun r s4 ⟨hr,I4⟩=>?_)
    subst hr
    exact wpAny_execs_nil ⟨σ3,H3,I4,qn⟩
  · refine wpAny_passesOwn hp (thn (T.item X rfl rfl rfl hc i pins s3 σ3 H3 X.xe I3 (stat fr3) st3 go) fun r s4 ⟨u,hr,h4⟩=>?_)
    subst hr
    refine wpAny_passesOwn hp (thn h4 fun _ s5 ⟨x,H5,I5,r5,y5,st5,fr5⟩=>?_)
    have I5':=I5.pinned (stat fr5) (T.obj _ _ st5)
    refine wpAny_passesOwn hp (thn (hg _ s5 σ3 H5 x u _ I5' r5 (step x H5 y5)) fun _ s6 ⟨σ6,H6,I6,q6⟩=>?_)
    refine wpAny_passesOwn hp (thn (hb _ s6 σ6 H6 _ I6 q6) fun f s7 q7=>?_)
    have again:∀ {σ7:St} {H7:Hp},Inv X (pins++pinsAt fp s5.heap) σ7 H7 s7→N σ7 H7→∃ m,m < n∧∃ i σ' H',Inv X pins σ' H' s7∧tn i s7.heap∧(∀ b∈fp,H' b=none)∧W i m σ' H':=fun {σ7 H7} I7 n7=>by
      obtain ⟨m',hm,w7⟩:=hN σ7 H7 n7
      refine ⟨m',hm,i+1,σ7,H7,I7.unpinned,T.keep _ _ _ st5 fun b hb o e=>(I7.pin (b,o) (List.mem_append_right _ (List.mem_append_right _ (mem_pinsAt hb e)))).1,fun b hb=>?_,w7⟩
      obtain ⟨o,e,d⟩:=T.obj _ _ st5 b hb
      exact (I7.pin (b,o) (List.mem_append_right _ (List.mem_append_right _ (mem_pinsAt hb e)))).2.1
    cases f with
    | next=>obtain ⟨σ7,H7,I7,n7⟩:=q7; exact again I7 n7
    | cont=>obtain ⟨σ7,H7,I7,n7⟩:=q7; exact again I7 n7
    | brk=>obtain ⟨σ7,H7,I7,q7⟩:=q7; exact ⟨σ7,H7,I7.unpinned,q7⟩
    | ret v=>obtain ⟨x7,σ7,H7,I7,r7,q7⟩:=q7; exact ⟨x7,σ7,H7,I7.unpinned,r7,q7⟩
end
end L2
namespace L2
open PySem PySem.Spec PyProof.Rows
noncomputable abbrev R2:=V→V→Hp→VK→Prop
noncomputable def OpR (X:Cx) (f:Value→Value→Sem Value) (r:R2):Prop :=
  ∀ (pins:List (Addr×Obj)) (s:Shared) (σ:St) (H:Hp) (x y:V) (v u:Value) (Q:VK),Inv X pins σ H s→RelV x v→RelV y u→r x y H Q →
    wpAny (model X.prog X.w) X.A (f v u) (EP X pins σ Q) X.xe s
noncomputable def UnR (X:Cx) (f:Value→Sem Value) (r:V→Hp→VK→Prop):Prop :=
  ∀ (pins:List (Addr×Obj)) (s:Shared) (σ:St) (H:Hp) (x:V) (v:Value) (Q:VK),Inv X pins σ H s→RelV x v→r x H Q →
    wpAny (model X.prog X.w) X.A (f v) (EP X pins σ Q) X.xe s
noncomputable def CallR (X:Cx) (f:Value) (r:List V→Hp→VK→Prop):Prop :=
  ∀ (pins:List (Addr×Obj)) (s:Shared) (σ:St) (H:Hp) (xs:List V) (us:List Value) (Q:VK),Inv X pins σ H s→Vals xs us→r xs H Q →
    wpAny (model X.prog X.w) X.A (call f us) (EP X pins σ Q) X.xe s
noncomputable def TruR (X:Cx) (r:V→Hp→(Bool→Hp→Prop)→Prop):Prop :=
  ∀ (pins:List (Addr×Obj)) (s:Shared) (σ:St) (H:Hp) (x:V) (v:Value) (Q:Bool→Hp→Prop),Inv X pins σ H s→RelV x v→r x H Q →
    wpAny (model X.prog X.w) X.A (truthy v) (TP X pins σ Q) X.xe s
noncomputable def tOp (r:R2) (ta tb:TE):TE:=fun σ H Q=>ta σ H fun x H1=>tb σ H1 fun y H2=>r x y H2 Q
noncomputable def tUn (r:V→Hp→VK→Prop) (ta:TE):TE:=fun σ H Q=>ta σ H fun x H1=>r x H1 Q
noncomputable def rI (C:Int→Int→Prop) (g:Int→Int→V):R2:=fun x y H Q=>∃ i j,x=.int i∧y=.int j∧C i j∧Q (g i j) H
noncomputable def rI0 (g:Int→Int→V):R2:=fun x y H Q=>∃ i j,x=.int i∧y=.int j∧Q (g i j) H
noncomputable def rU (g:Int→V):V→Hp→VK→Prop:=fun x H Q=>∃ i,x=.int i∧Q (g i) H
section
variable {X:Cx} {a b c:Expr} {ta tb tc:TE} {pos:Pos}
theorem binT (ha:PE X a ta) (hb:PE X b tb) {pins:List (Addr×Obj)} {s:Shared} {σ:St} {H:Hp} {R:V→V→Hp→Prop} (I:Inv X pins σ H s)
    (h:ta σ H fun x H1=>tb σ H1 fun y H2=>R x y H2) {Q:Value→Shared→Prop} {f:Value→Value→Sem Value}
    (hf:∀ v u s2 x y H2,Inv X pins σ H2 s2→RelV x v→RelV y u→R x y H2→wpAny (model X.prog X.w) X.A (f v u) Q X.xe s2) :
    wpAny (model X.prog X.w) X.A (eval a X.env) (fun v s₁=>wpAny (model X.prog X.w) X.A (eval b X.env) (fun u s₂=>wpAny (model X.prog X.w) X.A (f v u) Q X.xe s₂) X.xe s₁) X.xe s:=by
  refine thn (ha pins s σ H _ I h) fun v s1 ⟨x,H1,I1,r1,q1⟩=>?_
  refine thn (hb pins s1 σ H1 _ I1 q1) fun u s2 ⟨y,H2,I2,r2,q2⟩=>?_
  exact hf v u s2 x y H2 I2 r1 r2 q2
theorem pe_op {op:Operator} {r:R2} (ho:OpR X (binaryOp op) r) (ha:PE X a ta) (hb:PE X b tb):PE X (.BinOp a op b pos) (tOp r ta tb):=by
  intro pins s σ H Q I h
  exact wpAny_BinOp (binT ha hb I h fun v u s2 x y H2 I2 rx ry q=>ho pins s2 σ H2 x y v u Q I2 rx ry q)
theorem opI {f:Value→Value→Sem Value} {C:Int→Int→Prop} {g:Int→Int→Int}
    (rule:∀ (i j:Int) (t u:Tok) (s:Shared) (Q:Value→Shared→Prop) (E:Value→Shared→Prop),C i j→Q (.int (g i j) s.toks) { s with toks:=s.toks+1 }→wpAny (model X.prog X.w) X.A (f (.int i t) (.int j u)) Q E s) :
    OpR X f (rI C fun i j=>.int (g i j)):=by
  intro pins s σ H x y v u Q I rx ry h
  obtain ⟨i,j,rfl,rfl,hc,q⟩:=h
  obtain ⟨t,rfl⟩:=rx
  obtain ⟨t',rfl⟩:=ry
  exact rule i j t t' s _ _ hc ⟨.int (g i j),H,I.tok _,⟨_,rfl⟩,q⟩
theorem opI0 {f:Value→Value→Sem Value} {g:Int→Int→Int}
    (rule:∀ (i j:Int) (t u:Tok) (s:Shared) (Q:Value→Shared→Prop) (E:Value→Shared→Prop),Q (.int (g i j) s.toks) { s with toks:=s.toks+1 }→wpAny (model X.prog X.w) X.A (f (.int i t) (.int j u)) Q E s) :
    OpR X f (rI0 fun i j=>.int (g i j)):=by
  intro pins s σ H x y v u Q I rx ry h
  obtain ⟨i,j,rfl,rfl,q⟩:=h
  obtain ⟨t,rfl⟩:=rx
  obtain ⟨t',rfl⟩:=ry
  exact rule i j t t' s _ _ ⟨.int (g i j),H,I.tok _,⟨_,rfl⟩,q⟩
theorem opB0 {f:Value→Value→Sem Value} {g:Int→Int→Bool}
    (rule:∀ (i j:Int) (t u:Tok) (s:Shared) (Q:Value→Shared→Prop) (E:Value→Shared→Prop),Q (.bool (g i j)) s→wpAny (model X.prog X.w) X.A (f (.int i t) (.int j u)) Q E s) :
    OpR X f (rI0 fun i j=>.bl (g i j)):=by
  intro pins s σ H x y v u Q I rx ry h
  obtain ⟨i,j,rfl,rfl,q⟩:=h
  obtain ⟨t,rfl⟩:=rx
  obtain ⟨t',rfl⟩:=ry
  exact rule i j t t' s _ _ ⟨.bl (g i j),H,I,rfl,q⟩
noncomputable def CDiv (i j:Int):Prop:=0 < j∧j < 1073741824
noncomputable def CDivN (i j:Int):Prop:=j≠0∧j.natAbs < 1073741824
noncomputable def CPow (i j:Int):Prop:=0≤j∧j≤1000000∧i.natAbs < 2 ^ 64
noncomputable def CMul (i j:Int):Prop:=(-(2 ^ 64) < i∧i < 2 ^ 64)∨(-(2 ^ 64) < j∧j < 2 ^ 64)
theorem CMul.ok {i j:Int} (h:CMul i j):IntMulOk i j:=by
  rcases h with ⟨h1,h2⟩ | ⟨h1,h2⟩
  · exact .of_left (intBits_le_64 h1 h2)
  · exact .of_right (intBits_le_64 h1 h2)
theorem op_add:OpR X (binaryOp .Add) (rI0 fun i j=>.int (i+j)):=opI0 fun _ _ _ _ _ _ _ q=>add_int q
theorem op_sub:OpR X (binaryOp .Sub) (rI0 fun i j=>.int (i - j)):=opI0 fun _ _ _ _ _ _ _ q=>sub_int q
theorem op_mul:OpR X (binaryOp .Mult) (rI CMul fun i j=>.int (i*j)):=opI fun _ _ _ _ _ _ _ hc q=>mul_int q hc.ok
theorem op_fdiv:OpR X (binaryOp .FloorDiv) (rI CDiv fun i j=>.int (i / j)):=opI fun i j _ _ _ _ _ hc q=>by
  have h1:(0:Int) < j:=hc.1
  have h2:j < 1073741824:=hc.2
  exact floordiv_int (by omega) (by rw [Int.fdiv_eq_ediv_of_nonneg i (by omega)]; exact q) (.inl (PyProof.noPylong_small (by omega)))
theorem op_mod:OpR X (binaryOp .Mod) (rI (fun _ j=>0 < j) fun i j=>.int (i % j)):=opI fun i j _ _ _ _ _ hc q=>by
  have h1:(0:Int) < j:=hc
  exact mod_int' (by omega) (by rw [Int.fmod_eq_emod_of_nonneg i (by omega)]; exact q)
end
noncomputable def scal:V→V→Bool
  | .non,.non=>true | .non,.int _=>true | .int _,.non=>true | .non,.bl _=>true | .bl _,.non=>true | .non,.str _=>true | .str _,.non=>true
  | .int _,.int _=>true | .bl _,.bl _=>true | .str _,.str _=>true | .byt _,.byt _=>true
  | .int _,.str _=>true | .str _,.int _=>true | .bl _,.str _=>true | .str _,.bl _=>true
  | _,_=>false
noncomputable def rEq:R2:=fun x y H Q=>scal x y=true∧Q (.bl (decide (x=y))) H
noncomputable def rNe:R2:=fun x y H Q=>scal x y=true∧Q (.bl (!decide (x=y))) H
section
variable {X:Cx} {a b c:Expr} {ta tb tc:TE} {pos:Pos}
theorem op_lt:OpR X (compareOp .Lt) (rI0 fun i j=>.bl (decide (i < j))):=opB0 fun _ _ _ _ _ _ _ q=>lt_int q
noncomputable def isObj:HO→Bool
  | .lst _=>true
  | .ins _ _ _=>true
  | _=>false
theorem OpR.or {f:Value→Value→Sem Value} {r r':R2} (h:OpR X f r) (h':OpR X f r'):OpR X f (fun x y H Q=>r x y H Q∨r' x y H Q):=by
  intro pins s σ H x y v u Q I rx ry q
  rcases q with q | q
  · exact h pins s σ H x y v u Q I rx ry q
  · exact h' pins s σ H x y v u Q I rx ry q
theorem nomark (b:Expr) {op:CmpOp} (h:op≠.In:=by decide) (h2:op≠.NotIn:=by decide):behindInMarks op b=false:=by
  have e1:(op==CmpOp.In)=false:=by cases op <;> first | rfl | exact absurd rfl h
  have e2:(op==CmpOp.NotIn)=false:=by cases op <;> first | rfl | exact absurd rfl h2
  cases b <;> simp [behindInMarks,e1,e2]
theorem pe_cmpR {op:CmpOp} {r:R2} (ho:OpR X (compareOp op) r) (ha:PE X a ta) (hb:PE X b tb) (hm:behindInMarks op b=false):PE X (.Compare a [op] [b] pos) (tOp r ta tb):=by
  intro pins s σ H Q I h
  exact wpAny_Compare1 (binT ha hb I h fun v u s2 x y H2 I2 rx ry q=>ho pins s2 σ H2 x y v u Q I2 rx ry q) hm
noncomputable def tTest (t:TE):TT:=fun σ H Q=>t σ H fun x H'=>∃ k,x=.bl k∧Q k H'
theorem pt_cmpR {op:CmpOp} {r:R2} (ho:OpR X (compareOp op) r) (ha:PE X a ta) (hb:PE X b tb) (hm:behindInMarks op b=false):PT X (.Compare a [op] [b] pos) (tTest (tOp r ta tb)):=by
  intro pins s σ H Q I h
  refine wpAny_isTrue_Compare1 (thn (ha pins s σ H _ I h) fun v s1 ⟨x,H1,I1,r1,q1⟩=>thn (hb pins s1 σ H1 _ I1 q1) fun u s2 ⟨y,H2,I2,r2,q2⟩ =>
    thn (ho pins s2 σ H2 x y v u _ I2 r1 r2 q2) fun c s3 ⟨z,H3,I3,r3,k,e,q3⟩=>?_) hm
  subst e
  cases r3
  exact wpAny_truthy_bool ⟨H3,I3,q3⟩
noncomputable def tChain (r r':R2) (ta tb tc:TE):TE:=fun σ H Q=>ta σ H fun x H1=>tb σ H1 fun y H2=>r x y H2 fun z H3=>∃ k,z=.bl k ∧
  (if k=true then tc σ H3 fun w' H4=>r' y w' H4 Q else Q (.bl false) H3)
noncomputable def TruV (K:PySem.W.Frag) (x:V) (H:Hp) (k:Bool):Prop :=
  match x with
  | .non=>k=false
  | .bl b=>k=b
  | .int i=>k=(i != 0)
  | .str y=>y.length≤sizeLine∧k=((y.length:Int) != 0)
  | .byt y=>y.size≤sizeLine∧k=((y.size:Int) != 0)
  | .ref p=>(∃ xs,SqL K H p xs∧k=!xs.isEmpty)∨(∃ xs,SqT K H p xs∧k=!xs.isEmpty)∨∃ kvs,H p=some (.dK kvs)∧k=!kvs.isEmpty
  | _=>False
theorem line63:(sizeLine:Nat) < 2 ^ 63:=by rw [sizeLine_eq]; decide
theorem op_add_str:OpR X (binaryOp .Add) (fun x y H Q=>∃ i j,x=.str i∧y=.str j∧i.length+j.length≤sizeLine∧Q (.str (i++j)) H):=by
  intro pins s σ H x y v u Q I rx ry h
  obtain ⟨i,j,rfl,rfl,hz,q⟩:=h
  obtain ⟨t,rfl⟩:=rx
  obtain ⟨t',rfl⟩:=ry
  exact add_str (fun t' tk=>⟨.str (i++j),H,I.tok _,⟨_,rfl⟩,q⟩) hz
noncomputable def PlainIxT (b:Expr):Prop:=∀ o i,subscripted b false o i=operate [o,i] (getItem o i)
theorem vals1 {x:V} {us:List Value} (r:Vals [x] us):∃ u,us=[u]∧RelV x u:=by
  cases r with
  | cons r1 r2=>cases r2; exact ⟨_,rfl,r1⟩
noncomputable def LenV (K:PySem.W.Frag) (x:V) (H:Hp) (n:Nat):Prop :=
  match x with
  | .str y=>y.length≤sizeLine∧n=y.length
  | .byt y=>y.size≤sizeLine∧n=y.size
  | .ref p=>(∃ xs,SqL K H p xs∧n=xs.length)∨∃ xs,SqT K H p xs∧n=xs.length
  | _=>False
end
end L2
namespace L2
open PySem PySem.Spec PyProof.Rows
structure ObjM (h:Heap) (x dx C:Addr) (mA:Str→Option Value):Prop where
  obj:h.get? x=some (PySem.W.instObj C dx)
  ns:h.Ns1 dx mA
  ne:dx≠x
theorem lookIn_ns {h:Heap} {dx:Addr} {mA:Str→Option Value} (n:h.Ns1 dx mA):∃ od,h.get? dx=some od∧∀ name,PySem.W.lookIn name od=some (mA name):=by
  obtain ⟨o,es,ep,ho,hd,hk,_,hm⟩:=n
  refine ⟨o,ho,fun name=>?_⟩
  have e:=hm name
  unfold nsFind findBy at e
  rw [← Array.find?_toList] at e
  unfold PySem.W.lookIn
  rw [hd]
  dsimp only
  split
  · rename_i y q
    rw [q] at e
    exact congrArg some e
  · rename_i q
    rw [q] at e
    have a:es.toList.any (·.refKey)=false:=by
      rw [List.any_eq_false]
      intro y hy
      obtain ⟨z,t,hkey⟩:=hk y (Array.mem_toList_iff.mp hy)
      simp [DictEntry.refKey,hkey]
    have a':¬ es.toList.any (·.refKey)=true:=by rw [a]; exact Bool.false_ne_true
    rw [if_neg a']
    exact congrArg some e
theorem ObjM.look {h:Heap} {x dx C:Addr} {mA:Str→Option Value} (I:ObjM h x dx C mA):∃ od,PySem.W.InstAt h x (PySem.W.instObj C dx) C (some od)∧∀ name,PySem.W.lookIn name od=some (mA name) :=
  let ⟨od,ho,hl⟩:=lookIn_ns I.ns
  ⟨od,⟨I.obj,rfl,rfl,ho⟩,hl⟩
section
variable {prog:Program} {w:World} {A:Around} {E:Value→Shared→Prop} {s:Shared} {K:PySem.W.Frag} {x dx C f:Addr} {mA:Str→Option Value} {name:Str} {v:Value}
theorem get_map {expr:Bool} {Q:Value→Shared→Prop} (X:K.In s.heap) (I:ObjM s.heap x dx C mA) (hg:PySem.W.plainGet K C name=true) (hh:PySem.W.hasDictIn K C=true)
    (ha:PySem.W.findIn K (.ref C) name=some none) (hv:mA name=some v) (hv':PySem.W.handedIn v=true) (h:Q v { s with toks:=s.toks+1 }) :
    wpAny (model prog w) A (getAttr (.ref x) name expr) Q E s:=by
  obtain ⟨od,J,hl⟩:=I.look
  exact PySem.W.get_value X J (PySem.W.plainGet_of hg).1 (PySem.W.findObj_own hh ha rfl (by rw [hl,hv])) hv' h
theorem get_meth {pl:Sem Bool} {Q:Value×List Value→Shared→Prop} (X:K.In s.heap) (I:ObjM s.heap x dx C mA) (hg:PySem.W.plainGet K C name=true)
    (hf:PySem.W.findIn K (.ref C) name=some (some (.ref f))) (ht:PySem.W.isFn K (.ref f)=true) (hv:mA name=none) (h:Q (.ref f,[.ref x]) s) :
    wpAny (model prog w) A (getMethod (.ref x) name pl) Q E s:=by
  obtain ⟨od,J,hl⟩:=I.look
  exact PySem.W.method_fn X J (PySem.W.plainGet_of hg).1 (PySem.W.plainGet_of hg).2 hf (beq_iff_eq.mp ht) (by show (PySem.W.lookIn name od).map (·.isSome)=some false; rw [hl,hv]; rfl) h
theorem set_map {ns:List Str} {Q:Unit→Shared→Prop} (X:K.In s.heap) (I:ObjM s.heap x dx C mA)
    (hs:PySem.W.findIn K (.ref C) "__setattr__" = some (some (.builtin "object.__setattr__"))) (hp:PySem.W.plainOver K C=true) (ht:PySem.W.takerIn K C name=some none) (hh:PySem.W.hasDictIn K C=true)
    (hw:PySem.Within mA ns) (hsz:ns.length≤sizeLine)
    (h:∀ h',ObjM h' x dx C (fun y=>if y=name then some v else mA y)→Heap.SameBut dx s.heap h'→Q () { s with heap:=h',toks:=s.toks+2 }) :
    wpAny (model prog w) A (setAttr (.ref x) name v) Q E s:=by
  obtain ⟨od,J,hl⟩:=I.look
  refine PySem.W.set_plain X J hs (PySem.W.osa_open (s:={ s with toks:=s.toks+1 }) (r:=none) X J hp ht fun b=>?_)
  obtain ⟨cd,hc,hd'⟩:=PySem.W.any_some hh
  have hx:s.heap.get? x=some ⟨.ref C,some dx,.plain,#[]⟩:=I.obj
  refine wpAny_bind (wpAny_pure (wpAny_bind (wpAny_bind (wpAny_loadPart hx (wpAny_bind (PySem.W.Looks.here (s:={ s with toks:=s.toks+1 }) (PySem.W.looks_clsIn X hc) ?_))))))
  rw [hd']
  refine wpAny_pure (a:=some dx) (wpAny_bind (wpAny_pure (wpAny_bind ?_)))
  refine wpAny_nsSet1 (s:={ s with toks:=s.toks+1 }) I.ns fun h' hn2 hs2=>?_
  obtain ⟨oD,esD,epD,hoD,hdD,hcD⟩:=hn2.count (PySem.Within.cons name v hw)
  refine wpAny_bind (wpAny_lookBehind hoD (by rw [hdD]; exact pastItsLine_dict (Nat.le_trans hcD (by rw [List.length_cons]; omega))) ?_)
  exact wpAny_pure (h _ ⟨(hs2.2 _ (Ne.symm I.ne)).trans I.obj,hn2,I.ne⟩ hs2)
theorem make_map {R:Result→Shared→Prop} {vs:List Value} {kw:List (Str×Value)} (X:K.In s.heap) (hm:PySem.W.makesIn K C=true)
    (hi:PySem.W.findIn K (.ref C) "__init__" = some (some (.ref f))) (hf:PySem.W.typeIn K (.ref f)=some (.type "function"))
    (h:codeAny (model prog w) (A.under (.builtin "type.__call__" ⟨.ref C::vs,kw⟩)) (.call (.ref f) ⟨.ref (s.heap.objs.size+1)::vs,kw⟩) (PySem.W.InitBack (s.heap.objs.size+1) R)
      { s with heap:=(s.heap.push PySem.W.emptyDict).push (PySem.W.instObj C s.heap.objs.size) }) :
    codeAny (model prog w) A (.call (.ref C) ⟨vs,kw⟩) R s:=by
  obtain ⟨hh,g,d,t,os⟩:=s
  exact PySem.W.make_core (PySem.W.makes_of X hm) (PySem.W.looks_findIn X hi) (fun self=>PySem.W.bind_fn X self hf) (.inl rfl) h
end
noncomputable def putF (f:Str) (v:V):List (Str×V)→List (Str×V)
  | []=>[(f,v)]
  | (g,x)::r=>if g=f then (g,v)::r else (g,x)::putF f v r
theorem lookup_putF (f g:Str) (v:V):∀ fs:List (Str×V),(putF f v fs).lookup g=if g=f then some v else fs.lookup g
  | []=>by
    show List.lookup g [(f,v)]=_
    by_cases h:g=f
    · have hb:(g==f)=true:=beq_iff_eq.mpr h
      simp only [List.lookup,hb,if_pos h]
    · have hb:(g==f)=false:=beq_eq_false_iff_ne.mpr h
      simp only [List.lookup,hb,if_neg h]
  | (k,x)::r=>by
    have ih:=lookup_putF f g v r
    rw [show putF f v ((k,x)::r)=(if k=f then (k,v)::r else (k,x)::putF f v r) from rfl]
    by_cases hk:k=f
    · rw [if_pos hk]
      by_cases h:g=k
      · have hb:(g==k)=true:=beq_iff_eq.mpr h
        simp only [List.lookup,hb,if_pos (h.trans hk)]
      · have hb:(g==k)=false:=beq_eq_false_iff_ne.mpr h
        simp only [List.lookup,hb,if_neg (fun e:g=f=>h (e.trans hk.symm))]
    · rw [if_neg hk]
      by_cases h:g=k
      · have hb:(g==k)=true:=beq_iff_eq.mpr h
        simp only [List.lookup,hb,if_neg (fun e:g=f=>hk (h.symm.trans e))]
      · have hb:(g==k)=false:=beq_eq_false_iff_ne.mpr h
        simp only [List.lookup,hb]
        exact ih
theorem keys_putF (f:Str) (v:V):∀ fs:List (Str×V),f∈(putF f v fs).map (·.1)∧∀ g,g∈fs.map (·.1)→g∈(putF f v fs).map (·.1)
  | []=>⟨by simp [putF],fun g h=>by simp at h⟩
  | (k,x)::r=>by
    obtain ⟨i1,i2⟩:=keys_putF f v r
    rw [show putF f v ((k,x)::r)=(if k=f then (k,v)::r else (k,x)::putF f v r) from rfl]
    by_cases hk:k=f
    · rw [if_pos hk]
      subst hk
      exact ⟨by simp,fun g h=>by simpa using h⟩
    · rw [if_neg hk]
      refine ⟨?_,fun g h=>?_⟩
      · rw [List.map_cons]
        exact List.mem_cons_of_mem _ i1
      · rw [List.map_cons] at h ⊢
        rcases List.mem_cons.mp h with e | e
        · exact List.mem_cons.mpr (.inl e)
        · exact List.mem_cons_of_mem _ (i2 g e)
theorem length_putF (f:Str) (v:V):∀ fs:List (Str×V),(putF f v fs).length≤fs.length+1
  | []=>by simp [putF]
  | (k,x)::r=>by
    have ih:=length_putF f v r
    rw [show putF f v ((k,x)::r)=(if k=f then (k,v)::r else (k,x)::putF f v r) from rfl]
    by_cases hk:k=f
    · rw [if_pos hk,List.length_cons,List.length_cons]; omega
    · rw [if_neg hk,List.length_cons,List.length_cons]; omega
theorem RelO.some_of {v:V} {o:Option Value} (r:RelO (some v) o):∃ u,o=some u∧RelV v u:=by
  cases o with
  | none=>exact (show False from r).elim
  | some u=>exact ⟨u,rfl,r⟩
theorem RelO.none_of {o:Option Value} (r:RelO none o):o=none:=by
  cases o with
  | none=>rfl
  | some u=>exact (show False from r).elim
theorem handed_of {v:V} {u:Value} (r:RelV v u):PySem.W.handedIn u=true:=by
  cases v with
  | non=>cases (show u=Value.none from r); rfl
  | bl b=>cases (show u=Value.bool b from r); rfl
  | int i=>obtain ⟨t,e⟩:=(show ∃ t,u=Value.int i t from r); cases e; rfl
  | str x=>obtain ⟨t,e⟩:=(show ∃ t,u=Value.str x t from r); cases e; rfl
  | byt b=>obtain ⟨t,e⟩:=(show ∃ t,u=Value.bytes b t from r); cases e; rfl
  | flt b=>obtain ⟨t,e⟩:=(show ∃ t,u=Value.float b t from r); cases e; rfl
  | ref a=>cases (show u=Value.ref a from r); rfl
  | ty n=>cases (show u=Value.type n from r); rfl
section
variable {P:Program} {w:World} {H H':Hp} {h h':Heap} {a C dx:Addr} {fs fs':List (Str×V)}
theorem ins_get (hok:HOk P w H h) (e:H a=some (.ins C dx fs)):∃ mA,ObjM h a dx C mA∧(∀ f,RelO (fs.lookup f) (mA f))∧PySem.Within mA (fs.map (·.1))∧fs.length≤1000∧H dx=some (.own a):=by
  obtain ⟨d,z,ne,ob,mA,n,r,q⟩:=(show ObjOk P w H h a (.ins C dx fs) from hok a _ e)
  exact ⟨mA,⟨ob,n,ne⟩,r,q,z,d⟩
end
structure Cls (K:PySem.W.Frag) (C:Addr):Prop where
  pg:PySem.W.plainGet K C Str.empty=true
  hd:PySem.W.hasDictIn K C=true
  po:PySem.W.plainOver K C=true
  sa:PySem.W.findIn K (.ref C) "__setattr__" = some (some (.builtin "object.__setattr__"))
theorem Cls.get {K:PySem.W.Frag} {C:Addr} (c:Cls K C) (f:Str):PySem.W.plainGet K C f=true:=c.pg
noncomputable def NoAttr (K:PySem.W.Frag) (C:Addr) (f:Str):Prop:=PySem.W.findIn K (.ref C) f=some none
theorem NoAttr.taker {K:PySem.W.Frag} {C:Addr} {f:Str} (n:NoAttr K C f):PySem.W.takerIn K C f=some none:=by
  unfold PySem.W.takerIn
  rw [show PySem.W.findIn K (.ref C) f=some none from n]
  rfl
structure Con (K:PySem.W.Frag) (C:Addr) (f:Str) (v:V) (u:Value):Prop where
  at_:PySem.W.findIn K (.ref C) f=some (some u)
  rel:RelV v u
  get:PySem.W.specialIn K u "__get__" = some none
  cp:PySem.W.copiedNames.contains f=false
structure Meth (K:PySem.W.Frag) (C:Addr) (m:Str) (f:Addr):Prop where
  at_:PySem.W.findIn K (.ref C) m=some (some (.ref f))
  fn:PySem.W.isFn K (.ref f)=true
  kp:PySem.W.keepIn K (.ref f)=true
section
variable {X:Cx} {pins:List (Addr×Obj)} {σ:St} {H:Hp} {s:Shared} {a C dx:Addr} {fs:List (Str×V)} {f:Str} {v:V} {A:Around} {E:Value→Shared→Prop}
theorem getattr_ok {b:Bool} {Q:Value→Shared→Prop} (I:Inv X pins σ H s) (e:H a=some (.ins C dx fs)) (c:Cls X.K C) (n:NoAttr X.K C f) (l:fs.lookup f=some v)
    (h:∀ u s',Inv X pins σ H s'→RelV v u→Q u s'):wpAny (model X.prog X.w) A (getAttr (.ref a) f b) Q E s:=by
  obtain ⟨mA,O,r,_,_,_⟩:=ins_get I.hok e
  obtain ⟨u,hu,ru⟩:=RelO.some_of (v:=v) (o:=mA f) (by rw [← l]; exact r f)
  exact get_map I.kIn O (c.get f) c.hd n hu (handed_of ru) (h u _ (I.tok _) ru)
theorem getmeth_ok {m:Str} {g:Addr} {pl:Sem Bool} {Q:Value×List Value→Shared→Prop} (I:Inv X pins σ H s) (e:H a=some (.ins C dx fs)) (c:Cls X.K C) (k:Meth X.K C m g) (l:fs.lookup m=none)
    (h:Q (.ref g,[.ref a]) s):wpAny (model X.prog X.w) A (getMethod (.ref a) m pl) Q E s:=by
  obtain ⟨mA,O,r,_,_,_⟩:=ins_get I.hok e
  have hn:mA m=none:=RelO.none_of (by rw [← l]; exact r m)
  exact get_meth I.kIn O (c.get m) k.at_ k.fn hn h
theorem setattr_ok {y:V} {u:Value} {Q:Unit→Shared→Prop} (I:Inv X pins σ H s) (e:H a=some (.ins C dx fs)) (c:Cls X.K C) (n:NoAttr X.K C f) (hl:fs.length < 1000) (ry:RelV y u)
    (h:∀ s',Inv X pins σ (upd H a (.ins C dx (putF f y fs))) s'→Q () s'):wpAny (model X.prog X.w) A (setAttr (.ref a) f u) Q E s:=by
  obtain ⟨mA,O,r,wi,_,ho⟩:=ins_get I.hok e
  have hz:(fs.map (·.1)).length≤sizeLine:=by rw [List.length_map,sizeLine_eq]; omega
  refine set_map I.kIn O c.sa c.po n.taker c.hd wi hz fun h' O' sb=>h _ ?_
  have hd:∃ o,h'.get? dx=some o:=let ⟨o,_,_,e',_⟩:=O'.ns; ⟨o,e'⟩
  refine I.write (x:=a) (e:=dx) (by rw [e]; exact True.intro) (.inr ho) (fun b q hb z=>(sb.2 b hb).trans z) hd ?_
  refine ⟨by rw [upd_ne O.ne]; exact ho,?_,O.ne,O'.obj,_,O'.ns,fun g=>?_,fun g hg=>?_⟩
  · have:=length_putF f y fs; omega
  · show RelO ((putF f y fs).lookup g) (if g=f then some u else mA g)
    rw [lookup_putF]
    by_cases q:g=f
    · rw [if_pos q,if_pos q]; exact ry
    · rw [if_neg q,if_neg q]; exact r g
  · by_cases q:g=f
    · rw [q]; exact (keys_putF f y fs).1
    · refine (keys_putF f y fs).2 g (wi g fun z=>hg ?_)
      show (if g=f then some u else mA g)=none
      rw [if_neg q]; exact z
theorem Inv.made (I:Inv X pins σ H s):Inv X pins σ (upd (upd H s.heap.objs.size (.own (s.heap.objs.size+1))) (s.heap.objs.size+1) (.ins C s.heap.objs.size []))
    { s with heap:=(s.heap.push PySem.W.emptyDict).push (PySem.W.instObj C s.heap.objs.size) }:=by
  have e1:(s.heap.push PySem.W.emptyDict).get? s.heap.objs.size=some PySem.W.emptyDict:=Heap.get?_push_size s.heap rfl
  have e2:((s.heap.push PySem.W.emptyDict).push (PySem.W.instObj C s.heap.objs.size)).get? (s.heap.objs.size+1)=some (PySem.W.instObj C s.heap.objs.size):=by
    have:=Heap.get?_push_size (s.heap.push PySem.W.emptyDict) (o:=PySem.W.instObj C s.heap.objs.size) rfl
    rwa [Heap.size_push] at this
  have e3:(s.heap.push PySem.W.emptyDict).Ns s.heap.objs.size (fun _=>none):=⟨PySem.W.emptyDict,#[],_,e1,rfl,(fun e he=>absurd he (by simp)),fun _=>rfl⟩
  have I1:=I.laid (a:=s.heap.objs.size) (o:=.own (s.heap.objs.size+1)) (h':=s.heap.push PySem.W.emptyDict) (t':=s.toks) (fun b u q=>Heap.get?_push_of_some _ q) (Nat.le_refl _) ⟨_,e1⟩
  refine I1.laid (a:=s.heap.objs.size+1) (o:=.ins C s.heap.objs.size []) (t':=s.toks) (fun b u q=>Heap.get?_push_of_some _ q) (Nat.le_of_eq (Heap.size_push _ _)) ?_
  have ne:s.heap.objs.size≠s.heap.objs.size+1:=Nat.ne_of_lt (Nat.lt_succ_self _)
  refine ⟨by rw [upd_ne ne,upd_same],Nat.zero_le _,ne,e2,fun _=>none,(Heap.Ns1.of_empty e3).at fun o q=>Heap.get?_push_of_some _ q,fun _=>True.intro,fun y hy=>absurd rfl hy⟩
theorem attr_of {prog:Program} {w:World} {env:Env} {e:Expr} {f:Str} {pos:Pos} {s:Shared} {Q:Value→Shared→Prop} (hb:attributeBase e f env (eval e env)=eval e env)
    (h:wpAny (model prog w) A (eval e env) (fun o s₁=>wpAny (model prog w) A (getAttr o f true) Q E s₁) E s):wpAny (model prog w) A (eval (.Attribute e f pos) env) Q E s :=
  Attribute_any_ h (by rw [arm_eval_Attribute,hb])
end
noncomputable def tFld (K:PySem.W.Frag) (ta:TE) (f:Str):TE:=fun σ H Q=>ta σ H fun x H1=>∃ a C dx fs v,x=.ref a∧H1 a=some (.ins C dx fs)∧Cls K C∧NoAttr K C f∧fs.lookup f=some v∧Q v H1
noncomputable def tCon (K:PySem.W.Frag) (ta:TE) (f:Str):TE:=fun σ H Q=>ta σ H fun x H1=>∃ a C dx fs v u,x=.ref a∧H1 a=some (.ins C dx fs)∧Cls K C∧Con K C f v u∧fs.lookup f=none∧Q v H1
noncomputable def sFld (K:PySem.W.Frag) (ta tv:TE) (f:Str):TS:=fun D σ H=>tv σ H fun y H1=>ta σ H1 fun x H2=>∃ a C dx fs,x=.ref a∧H2 a=some (.ins C dx fs)∧Cls K C∧NoAttr K C f∧fs.length < 1000 ∧
  D.nx σ (upd H2 a (.ins C dx (putF f y fs)))
noncomputable def InOp (X:Cx) (op:Operator) (rd:V→V→Hp→VK→Prop):Prop :=
  ∀ (pins:List (Addr×Obj)) (s:Shared) (σ:St) (H:Hp) (x y:V) (u v:Value) (Q:VK),Inv X pins σ H s→RelV x u→RelV y v→rd x y H Q→wpAny (model X.prog X.w) X.A (inplaceOp op u v) (EP X pins σ Q) X.xe s
noncomputable def sFldAug (K:PySem.W.Frag) (ta tv:TE) (rd:V→V→Hp→VK→Prop) (f:Str):TS:=fun D σ H=>ta σ H fun x H1=>∃ a C dx fs v,x=.ref a∧H1 a=some (.ins C dx fs)∧Cls K C∧NoAttr K C f∧fs.lookup f=some v ∧
  tv σ H1 fun y H2=>rd v y H2 fun z H3=>∃ dx' fs',H3 a=some (.ins C dx' fs')∧fs'.length < 1000∧D.nx σ (upd H3 a (.ins C dx' (putF f z fs')))
section
variable {X:Cx} {o e value:Expr} {f:Str} {pos pos' tpos:Pos} {ta tv:TE}
theorem pe_fld (he:PE X e ta) (hb:attributeBase e f X.env (eval e X.env)=eval e X.env):PE X (.Attribute e f pos) (tFld X.K ta f):=by
  intro pins s σ H Q I h
  refine attr_of hb (thn (he pins s σ H _ I h) fun u s1 ⟨x,H1,I1,rx,a,C,dx,fs,v,ex,ea,c,n,l,q⟩=>?_)
  subst ex
  obtain rfl:u=Value.ref a:=rx
  exact getattr_ok I1 ea c n l fun u' s2 I2 ru=>⟨v,H1,I2,ru,q⟩
theorem ps_fld (ha:PE X o ta) (hv:PE X value tv) (hs:swapsWith value (some (.Attribute o f pos')) pos.line X.env=pure false):PS X (.Assign [.Attribute o f pos'] value pos) (sFld X.K ta tv f):=by
  intro pins s σ H D I h
  refine plainObj_wpAny_Assign_Attribute (thn (hv pins s σ H _ I h) fun u s1 ⟨y,H1,I1,ry,q⟩=>thn (ha pins s1 σ H1 _ I1 q) fun ov s2 ⟨x,H2,I2,rx,a,C,dx,fs,ex,ea,c,n,l,q2⟩=>?_) hs
  subst ex
  obtain rfl:ov=Value.ref a:=rx
  exact setattr_ok I2 ea c n l ry fun s3 I3=>⟨σ,_,I3,q2⟩
theorem ps_fldaug {op:Operator} {rd:V→V→Hp→VK→Prop} (ha:PE X o ta) (hv:PE X value tv) (hop:InOp X op rd):PS X (.AugAssign (.Attribute o f tpos) op value pos) (sFldAug X.K ta tv rd f):=by
  intro pins s σ H D I h
  refine wpAny_AugAssign_AttributeAny (thn (ha pins s σ H _ I h) fun ov s1 ⟨x,H1,I1,rx,a,C,dx,fs,v,ex,ea,c,n,l,q⟩=>?_)
  subst ex
  obtain rfl:ov=Value.ref a:=rx
  refine getattr_ok I1 ea c n l fun u s2 I2 ru=>thn (hv pins s2 σ H1 _ I2 q) fun w3 s3 ⟨y,H2,I3,ry,q3⟩=>thn (hop pins s3 σ H2 v y u w3 _ I3 ru ry q3) fun w4 s4 ⟨z,H3,I4,rz,dx',fs',ea',l',q4⟩=>?_
  exact setattr_ok I4 ea' c n l' rz fun s5 I5=>⟨σ,_,I5,q4⟩
noncomputable def rAdd:V→V→Hp→VK→Prop:=fun x y H Q=>∃ i j,x=.int i∧y=.int j∧Q (.int (i+j)) H
noncomputable def rSub:V→V→Hp→VK→Prop:=fun x y H Q=>∃ i j,x=.int i∧y=.int j∧Q (.int (i - j)) H
theorem in_add:InOp X .Add rAdd:=by
  rintro pins s σ H x y u v Q I rx ry ⟨i,j,rfl,rfl,q⟩
  obtain ⟨t,rfl⟩:=(show ∃ t,u=Value.int i t from rx)
  obtain ⟨t',rfl⟩:=(show ∃ t',v=Value.int j t' from ry)
  exact PyProof.Rows.iadd_int ⟨.int (i+j),H,I.tok _,⟨_,rfl⟩,q⟩
end
section
variable {X:Cx} {pins:List (Addr×Obj)} {σ:St} {H:Hp} {s:Shared} {A:Around} {E:Value→Shared→Prop} {Q:Value→Shared→Prop} {c:Value} {b:Bool}
inductive TyOf (K:PySem.W.Frag) (H:Hp):V→Value→Prop where
  | non:TyOf K H .non (.type "NoneType")
  | bl (x:Bool):TyOf K H (.bl x) (.type "bool")
  | int (i:Int):TyOf K H (.int i) (.type "int")
  | str (x:Str):TyOf K H (.str x) (.type "str")
  | flt (x:UInt64):TyOf K H (.flt x) (.type "float")
  | lst {a:Addr} {xs:List V} (e:H a=some (.lst xs)):TyOf K H (.ref a) (.type "list")
  | frz {a:Addr} {o:Obj} {xs:List V} (e:H a=some (.frz o (.lst xs))):TyOf K H (.ref a) (.type "list")
  | tup {a:Addr} {xs:List V} (e:H a=some (.tup xs)):TyOf K H (.ref a) (.type "tuple")
  | dK {a:Addr} {kvs:List (Key×V)} (e:H a=some (.dK kvs)):TyOf K H (.ref a) (.type "dict")
  | dT {a:Addr} {kvs:List (List Key×V)} (e:H a=some (.dT kvs)):TyOf K H (.ref a) (.type "dict")
  | ins {a C dx:Addr} {fs:List (Str×V)} (e:H a=some (.ins C dx fs)) (cl:Cls K C) (ha:PySem.W.findIn K (.ref C) "__class__" = some (some (.builtin "object.__class__")))
      (hn:PySem.W.specialIn K (.builtin "object.__class__") "__get__" = some (some (.builtin "getset_descriptor.__get__"))) (htk:PySem.W.takesIn K (.builtin "object.__class__")=some true)
      (hm:PySem.W.mroIn K C (.type "object")=some true):TyOf K H (.ref a) (.ref C)
end
end L2
namespace L2
open PySem PySem.Spec PyProof.Rows
structure Room (k:Nat) (A:Around):Prop where
  hd:A.handled=none
  dp:A.depth+3*k+5 < recursionLimit
  un:A.units+16*k+200 < cLine
theorem Room.mono {j k:Nat} {A:Around} (r:Room k A) (h:j≤k):Room j A:=⟨r.hd,by have:=r.dp; omega,by have:=r.un; omega⟩
theorem Room.deeper {k:Nat} {A:Around} (r:Room (k+1) A) (env:Env):Room k (A.deeper env) :=
  ⟨r.hd,by have:=r.dp; show A.depth+1+3*k+5 < _; omega,by have:=r.un; show A.units+3+16*k+200 < _; omega⟩
theorem make_depth {A:Around} {C:Addr} {us:List Value} {kw:List (Str×Value)}:(A.under (.builtin "type.__call__" ⟨.ref C::us,kw⟩)).depth=A.depth+1:=by
  first | rfl | simp [Around.under,Code.weight,Code.isCreation,Code.isGuard,Code.isCaller,Code.frames,Code.isFrame,guardIds]
theorem make_units {A:Around} {C:Addr} {us:List Value} {kw:List (Str×Value)}:(A.under (.builtin "type.__call__" ⟨.ref C::us,kw⟩)).units=A.units+1:=by
  first | rfl | simp [Around.under,Code.cUnits,Code.frames,Code.isFrame]
theorem Room.make {k:Nat} {A:Around} (r:Room (k+1) A) (C:Addr) (us:List Value) (kw:List (Str×Value)):Room k (A.under (.builtin "type.__call__" ⟨.ref C::us,kw⟩)) :=
  ⟨r.hd,by have:=r.dp; rw [make_depth]; omega,by have:=r.un; rw [make_units]; omega⟩
theorem Room.depth {k:Nat} {A:Around} (r:Room k A):A.depth < recursionLimit:=by have:=r.dp; omega
theorem Room.units {k:Nat} {A:Around} (r:Room k A):A.units+64 < cLine:=by have:=r.un; omega
noncomputable def tNil:TA:=fun _ H Q=>Q [] H
noncomputable def tCons (ta:TE) (tr:TA):TA:=fun σ H Q=>ta σ H fun x H1=>tr σ H1 fun xs H2=>Q (x::xs) H2
section
variable {X:Cx} {e:Expr} {es:List Expr} {te:TE} {t:TA} {pos:Pos}
theorem pa_nil:PA X [] tNil:=fun _ _ _ _ H Q I h=>Calls.spliced_nil ⟨[],H,I,.nil,h⟩
theorem pa_cons (ha:PE X e te) (hr:PA X es t) (hs:starEach (e::es) X.env=(false,eval e X.env)::starEach es X.env:=by rfl):PA X (e::es) (tCons te t):=by
  intro pos pins s σ H Q I h
  rw [hs]
  show wpAny _ _ (spliced ((false,eval e X.env)::backTo pos (starEach es X.env))) _ _ s
  refine Calls.spliced_cons (thn (ha pins s σ H _ I h) fun u s1 ⟨x,H1,I1,r1,q1⟩=>?_)
  exact thn (hr pos pins s1 σ H1 _ I1 q1) fun us s2 ⟨xs,H2,I2,r2,q2⟩=>⟨x::xs,H2,I2,.cons r1 r2,q2⟩
noncomputable def tTup (t:TA):TE:=fun σ H Q=>t σ H fun xs H1=>xs.length≤sizeLine∧∀ p,H1 p=none→Q (.ref p) (upd H1 p (.tup xs))
noncomputable def tLst (t:TA):TE:=fun σ H Q=>t σ H fun xs H1=>xs.length≤sizeLine∧∀ p,H1 p=none→Q (.ref p) (upd H1 p (.lst xs))
theorem pe_tup {x1} (h:PA X es t):PE X (.Tuple es x1 pos) (tTup t):=by
  intro pins s σ H Q I hq
  refine wpAny_Tuple_spliced (thn (h pos pins s σ H _ I hq) fun us s1 ⟨xs,H1,I1,r,z,q⟩=>⟨by rw [← r.length]; exact z,?_⟩)
  have hf:H1 s1.heap.objs.size=none:=I1.hok.fresh (Nat.le_refl _)
  refine ⟨.ref s1.heap.objs.size,upd H1 s1.heap.objs.size (.tup xs),I1.laid (t':=s1.toks) (fun b u e=>Heap.get?_push_of_some _ e) (Nat.le_refl _) ?_,rfl,q _ hf⟩
  exact ⟨z,us,r,⟨_,Heap.get?_push_size _ rfl,rfl,_,rfl⟩⟩
theorem pe_lst (h:PA X es t):PE X (.List es pos) (tLst t):=by
  intro pins s σ H Q I hq
  refine wpAny_List_spliced (thn (h pos pins s σ H _ I hq) fun us s1 ⟨xs,H1,I1,r,z,q⟩=>⟨by rw [← r.length]; exact z,?_⟩)
  have hf:H1 s1.heap.objs.size=none:=I1.hok.fresh (Nat.le_refl _)
  refine ⟨.ref s1.heap.objs.size,upd H1 s1.heap.objs.size (.lst xs),I1.laid (t':=s1.toks) (fun b u e=>Heap.get?_push_of_some _ e) (Nat.le_refl _) ?_,rfl,q _ hf⟩
  exact ⟨z,us,0,r,Heap.get?_push_size _ rfl⟩
end
noncomputable abbrev Sp:=List V→Hp→VK→XK→Prop
noncomputable abbrev CXT:=List Env→Hp→Shared→XK→Value→Shared→Prop
structure Env0 (P:Program) (w:World) (K:PySem.W.Frag) (mg:Str→Option Value) (base:Heap) (A:Around) (outer:List Env) (s:Shared) (H:Hp):Prop where
  frames:A.frames=some outer
  mod:Mod K mg base
  bs:∀ b o,base.get? b=some o→s.heap.get? b=some o∧H b=none
  bsz:base.objs.size≤s.heap.objs.size
  funs:s.heap.FunFrames base outer
  frf:∀ b∈frs outer,H b=none
  hok:HOk P w H s.heap
  bare:AllBare s.gens
noncomputable def CE (outer:List Env) (P:Program) (w:World) (H:Hp) (s:Shared) (Q:VK) (u:Value) (s':Shared):Prop :=
  ∃ v H',s'.os=s.os∧AllBare s'.gens∧Un (frs outer) [] H H' s.heap s'.heap∧HOk P w H' s'.heap∧RelV v u∧Q v H'
noncomputable def CR (CX:CXT) (outer:List Env) (P:Program) (w:World) (H:Hp) (s:Shared) (Q:VK) (E:XK) (r:Result) (s':Shared):Prop :=
  match r with
  | .ok (.ret u)=>CE outer P w H s Q u s'
  | .ok _=>False
  | .error e=>CX outer H s E e s'
structure FnOk (P:Program) (w:World) (K:PySem.W.Frag) (mg:Str→Option Value) (base:Heap) (CX:CXT) (k:Nat) (f:Addr) (fd:FuncData) (ps:List Str) (sp:Sp):Prop where
  len:∀ vs H Q E,sp vs H Q E→vs.length=ps.length
  run:∀ (A:Around) (outer:List Env) (s:Shared) (H:Hp) (args:Args) (us:List Value) (vs:List V) (Q:VK) (E:XK),Room k A→Env0 P w K mg base A outer s H→BindsTo s fd args (ps.zip us)→Vals vs us→sp vs H Q E →
    codeAny (model P w) A (.call (.ref f) args) (CR CX outer P w H s Q E) s
theorem FnOk.mono {P:Program} {w:World} {K:PySem.W.Frag} {mg:Str→Option Value} {base:Heap} {CX:CXT} {j k:Nat} {f:Addr} {fd:FuncData} {ps:List Str} {sp:Sp} (F:FnOk P w K mg base CX j f fd ps sp) (h:j≤k) :
    FnOk P w K mg base CX k f fd ps sp:=⟨F.len,fun A outer s H args us vs Q E hr=>F.run A outer s H args us vs Q E (hr.mono h)⟩
theorem FnOk.imp {P:Program} {w:World} {K:PySem.W.Frag} {mg:Str→Option Value} {base:Heap} {CX:CXT} {k:Nat} {f:Addr} {fd:FuncData} {ps:List Str} {sp sp':Sp} (F:FnOk P w K mg base CX k f fd ps sp)
    (h:∀ vs H Q E,sp' vs H Q E→sp vs H Q E):FnOk P w K mg base CX k f fd ps sp' :=
  ⟨fun vs H Q E q=>F.len vs H Q E (h _ _ _ _ q),fun A outer s H args us vs Q E hr he hb hv hs=>F.run A outer s H args us vs Q E hr he hb hv (h _ _ _ _ hs)⟩
theorem Env0.make {P:Program} {w:World} {K:PySem.W.Frag} {mg:Str→Option Value} {base:Heap} {A:Around} {outer:List Env} {s:Shared} {H:Hp} (e:Env0 P w K mg base A outer s H) (C:Addr) (us:List Value) (kw:List (Str×Value)) :
    Env0 P w K mg base (A.under (.builtin "type.__call__" ⟨.ref C::us,kw⟩)) outer s H:=⟨by first | exact e.frames | (simpa [Around.under,Code.envs,Code.isFrame,pushEnvs] using e.frames),e.mod,e.bs,e.bsz,e.funs,e.frf,e.hok,e.bare⟩
section
variable {X:Cx} {pins:List (Addr×Obj)} {σ:St} {H:Hp} {s s':Shared}
theorem Inv.env0 (I:Inv X pins σ H s):Env0 X.prog X.w X.K X.mg X.base X.A X.stack s H :=
  ⟨I.ok.frames,I.ok.mod,I.bs,Nat.le_trans I.ok.bsz I.sz,I.stack,I.stkFree,I.hok,I.bare⟩
theorem Inv.after {Q:VK} {u:Value} (I:Inv X pins σ H s) (h:CE X.stack X.prog X.w H s Q u s'):EP X pins σ Q u s':=by
  obtain ⟨v,H',os,bare,un,hok,r,q⟩:=h
  obtain ⟨hh,g,d,t,os'⟩:=s'
  obtain rfl:os'=s.os:=os
  exact ⟨v,H',I.call (h':=hh) (g':=g) (d':=d) (t':=t) (ch:=[]) un hok bare (fun b z=>absurd z (by simp)),r,q⟩
end
noncomputable def tCall (sp:Sp) (dvs:List V) (E:XK) (t:TA):TE:=fun σ H Q=>t σ H fun vs H1=>sp (vs++dvs) H1 Q E
noncomputable def tMeth (C:Addr) (m:Str) (sp:Sp) (dvs:List V) (E:XK) (ta:TE) (t:TA):TE:=fun σ H Q=>ta σ H fun x H1=>∃ a dx fs,x=.ref a∧H1 a=some (.ins C dx fs)∧fs.lookup m=none ∧
  t σ H1 fun vs H2=>sp (x::(vs++dvs)) H2 Q E
noncomputable def tMake (C:Addr) (sp:Sp) (dvs:List V) (E:XK) (t:TA):TE:=fun σ H Q=>t σ H fun vs H1=>∀ x dx,H1 x=none→H1 dx=none→dx≠x →
  sp (.ref x::(vs++dvs)) (upd (upd H1 dx (.own x)) x (.ins C dx [])) (fun v H2=>v=.non∧Q (.ref x) H2) E
noncomputable def Binds (K:PySem.W.Frag) (fd:FuncData) (ps:List Str) (ds:List Value):Prop :=
  ∀ (s:Shared) (us:List Value),K.In s.heap→(us++ds).length=ps.length→BindsTo s fd ⟨us,[]⟩ (ps.zip (us++ds))
theorem Binds.all {K:PySem.W.Frag} {fd:FuncData} {ps:List Str} (h:∀ us:List Value,us.length=ps.length→bindArgs fd ⟨us,[]⟩=pure (ps.zip us)):Binds K fd ps []:=fun s us _ hl=>by
  rw [List.append_nil] at hl ⊢
  exact .of_eq (h us hl)
noncomputable def Passes (CX:CXT) (X:Cx) (E:XK):Prop:=∀ (pins:List (Addr×Obj)) (σ:St) (H:Hp) (s:Shared) (e:Value) (s':Shared),Inv X pins σ H s→CX X.stack H s E e s'→X.xe e s'
section
variable {X:Cx} {CX:CXT} {k:Nat} {f C:Addr} {fd:FuncData} {ps:List Str} {sp:Sp} {dvs:List V} {ds:List Value} {E:XK} {x m:Str} {p pos apos:Pos} {e o:Expr} {es:List Expr} {ta:TE} {t:TA}
theorem run_fn {pins:List (Addr×Obj)} {σ:St} {H:Hp} {s:Shared} {Q:VK} {us:List Value} {vs:List V} (F:FnOk X.prog X.w X.K X.mg X.base CX k f fd ps sp) (hr:Room k X.A) (hb:Binds X.K fd ps ds) (hd:Vals dvs ds) (hx:Passes CX X E)
    (I:Inv X pins σ H s) (r:Vals vs us) (h:sp (vs++dvs) H Q E):wpAny (model X.prog X.w) X.A (call (.ref f) us) (EP X pins σ Q) X.xe s:=by
  have r2:Vals (vs++dvs) (us++ds):=r.append hd
  have hl:(us++ds).length=ps.length:=by rw [← r2.length]; exact F.len _ _ _ _ h
  refine wpAny_call (codeAny_mono (F.run X.A X.stack s H ⟨us,[]⟩ (us++ds) (vs++dvs) Q E hr I.env0 (hb s us I.kIn hl) r2 h) fun r s' hq=>?_)
  cases r with
  | error e=>exact hx pins σ H s e s' I hq
  | ok fl =>
    cases fl with
    | ret u=>exact I.after hq
    | next=>exact False.elim hq
    | brk=>exact False.elim hq
    | cont=>exact False.elim hq
theorem pe_call (F:FnOk X.prog X.w X.K X.mg X.base CX k f fd ps sp) (hr:Room k X.A) (hg:Gl X x) (hm:X.mg x=some (.ref f)) (hk:PySem.W.keepIn X.K (.ref f)=true) (hb:Binds X.K fd ps ds) (hd:Vals dvs ds) (hx:Passes CX X E)
    (ha:PA X (e::es) t) (hdb:(x==("__debug__" : Str))=false:=by decide) (he:starEach (e::es) X.env=(false,eval e X.env)::starEach es X.env:=by rfl) (hpl:(backTo pos (starEach es X.env)).any (·.1)=false:=by rfl) :
    PE X (.Call (.Name x p) (e::es) [] pos) (tCall sp dvs E t):=by
  intro pins s σ H Q I h
  refine wpAny_Call_Name_kw (ld_glob I hg hm ?_ hdb)
  refine PySem.W.callWith_K (h₀:=X.base) I.ok.mod.kin hk (thn (ha pos pins s σ H _ I h) fun us s1 ⟨vs,H1,I1,r,q⟩=>⟨I1.kIn,?_⟩) he hpl
  exact run_fn F hr hb hd hx I1 r q
theorem pe_meth {pl:Sem Bool} (he:PE X o ta) (c:Cls X.K C) (hm:Meth X.K C m f) (F:FnOk X.prog X.w X.K X.mg X.base CX k f fd ps sp) (hr:Room k X.A) (hb:Binds X.K fd ps ds) (hd:Vals dvs ds) (hx:Passes CX X E) (ha:PA X (e::es) t)
    (hst:starEach (e::es) X.env=(false,eval e X.env)::starEach es X.env:=by rfl) (hpl:(backTo pos (starEach es X.env)).any (·.1)=false:=by rfl)
    (ht:eval (.Call (.Attribute o m apos) (e::es) [] pos) X.env=(do
      let ov ← eval o X.env
      standAt apos.atName
      let (f,first) ← holding [ov] (getMethod ov m pl)
      callWith pos f first (backTo pos (starEach (e::es) X.env)) (backToKw pos (keywordEach [] X.env))):=by rfl) :
    PE X (.Call (.Attribute o m apos) (e::es) [] pos) (tMeth C m sp dvs E ta t):=by
  intro pins s σ H Q I h
  refine PySem.W.methodCall_KW (pl:=pl) (thn (he pins s σ H _ I h) fun u s1 ⟨x,H1,I1,rx,a,dx,fs,ex,ea,l,q⟩=>?_) ht
  subst ex
  obtain rfl:u=Value.ref a:=rx
  refine getmeth_ok I1 ea c hm l ?_
  refine PySem.W.callWith_K (first:=[.ref a]) (h₀:=X.base) I.ok.mod.kin hm.kp (thn (ha pos pins s1 σ H1 _ I1 q) fun us s2 ⟨vs,H2,I2,r,q2⟩=>⟨I2.kIn,?_⟩) hst hpl
  exact run_fn (us:=.ref a::us) (vs:=.ref a::vs) F hr hb hd hx I2 (.cons rfl r) q2
structure Mk (K:PySem.W.Frag) (C f:Addr):Prop where
  makes:PySem.W.makesIn K C=true
  init:PySem.W.findIn K (.ref C) "__init__" = some (some (.ref f))
  fn:PySem.W.isFn K (.ref f)=true
  kp:PySem.W.keepIn K (.ref C)=true
theorem run_make {pins:List (Addr×Obj)} {σ:St} {H:Hp} {s:Shared} {Q:VK} {us:List Value} {vs:List V} (M:Mk X.K C f) (F:FnOk X.prog X.w X.K X.mg X.base CX k f fd ps sp) (hr:Room (k+1) X.A) (hb:Binds X.K fd ps ds) (hd:Vals dvs ds)
    (hx:Passes CX X E) (I:Inv X pins σ H s) (r:Vals vs us)
    (h:∀ x dx,H x=none→H dx=none→dx≠x→sp (.ref x::(vs++dvs)) (upd (upd H dx (.own x)) x (.ins C dx [])) (fun v H2=>v=.non∧Q (.ref x) H2) E) :
    wpAny (model X.prog X.w) X.A (call (.ref C) us) (EP X pins σ Q) X.xe s:=by
  have hq:=h (s.heap.objs.size+1) s.heap.objs.size (I.hok.fresh (Nat.le_succ _)) (I.hok.fresh (Nat.le_refl _)) (Nat.ne_of_lt (Nat.lt_succ_self _))
  have I2:=Inv.made (C:=C) I
  have r2:Vals (V.ref (s.heap.objs.size+1)::(vs++dvs)) (Value.ref (s.heap.objs.size+1)::(us++ds)):=.cons rfl (r.append hd)
  have hl:(Value.ref (s.heap.objs.size+1)::us++ds).length=ps.length:=by
    have e:=r2.length
    rw [F.len _ _ _ _ hq] at e
    exact e.symm
  refine wpAny_call (make_map (f:=f) I.kIn M.makes M.init (beq_iff_eq.mp M.fn) (codeAny_mono (F.run _ X.stack _ _ ⟨Value.ref (s.heap.objs.size+1)::us,[]⟩ (Value.ref (s.heap.objs.size+1)::(us++ds)) _ _ E (hr.make C us [])
    (I2.env0.make C us []) (hb _ (Value.ref (s.heap.objs.size+1)::us) I2.kIn hl) r2 hq) fun r s' hq'=>?_))
  cases r with
  | error e=>exact hx pins σ _ _ e s' I2 hq'
  | ok fl =>
    cases fl with
    | ret u =>
      obtain ⟨v,H',I3,rv,ev,q3⟩:=I2.after hq'
      subst ev
      exact ⟨rv,⟨V.ref (s.heap.objs.size+1),H',I3,rfl,q3⟩⟩
    | next=>exact False.elim hq'
    | brk=>exact False.elim hq'
    | cont=>exact False.elim hq'
theorem pe_make (M:Mk X.K C f) (F:FnOk X.prog X.w X.K X.mg X.base CX k f fd ps sp) (hr:Room (k+1) X.A) (hg:Gl X x) (hm:X.mg x=some (.ref C)) (hb:Binds X.K fd ps ds) (hd:Vals dvs ds) (hx:Passes CX X E)
    (ha:PA X (e::es) t) (hdb:(x==("__debug__" : Str))=false:=by decide) (he:starEach (e::es) X.env=(false,eval e X.env)::starEach es X.env:=by rfl) (hpl:(backTo pos (starEach es X.env)).any (·.1)=false:=by rfl) :
    PE X (.Call (.Name x p) (e::es) [] pos) (tMake C sp dvs E t):=by
  intro pins s σ H Q I h
  refine wpAny_Call_Name_kw (ld_glob I hg hm ?_ hdb)
  refine PySem.W.callWith_K (h₀:=X.base) I.ok.mod.kin M.kp (thn (ha pos pins s σ H _ I h) fun us s1 ⟨vs,H1,I1,r,q⟩=>⟨I1.kIn,?_⟩) he hpl
  exact run_make M F hr hb hd hx I1 r q
end
noncomputable def PK (X:Cx) (kws:List Keyword) (t:TA):Prop :=
  ∀ (pos:Pos) (pins:List (Addr×Obj)) (s:Shared) (σ:St) (H:Hp) (Q:List V→Hp→Prop),Inv X pins σ H s→t σ H Q→wpAny (model X.prog X.w) X.A (evalAll ((backToKw pos (keywordEach kws X.env)).map (·.2))) (AP X pins σ Q) X.xe s
section
variable {X:Cx} {CX:CXT} {k:Nat} {f C:Addr} {fd:FuncData} {ps ks:List Str} {sp:Sp} {E:XK} {x m:Str} {p pos apos kpos:Pos} {e o:Expr} {es:List Expr} {kws:List Keyword} {te ta:TE} {t tk:TA} {nm:Option Str}
structure KBinds (K:PySem.W.Frag) (fd:FuncData) (ps ks:List Str) (g:List Value→List Value→List Value) (gV:List V→List V→List V):Prop where
  to:∀ (s:Shared) (us ws:List Value),K.In s.heap→(g us ws).length=ps.length→BindsTo s fd ⟨us,ks.zip ws⟩ (ps.zip (g us ws))
  rel:∀ {vs:List V} {us:List Value} {zs:List V} {ws:List Value},Vals vs us→Vals zs ws→Vals (gV vs zs) (g us ws)
noncomputable def tCallK (sp:Sp) (gV:List V→List V→List V) (E:XK) (t tk:TA):TE:=fun σ H Q=>t σ H fun vs H1=>tk σ H1 fun zs H2=>sp (gV vs zs) H2 Q E
variable {g:List Value→List Value→List Value} {gV:List V→List V→List V}
end
structure FnScope (N P:List Str) (sc:Scope):Prop where
  kind:sc.kind=.function
  co:sc.isCoroutine=false
  gen:sc.isGenerator=false
  nd:N.Nodup
  pre:N.take P.length=P
  par:∀ x∈P,sc.names.lookup x=some .local∨sc.names.lookup x=some .cell
  nofree:∀ y∈sc.names,y.2≠.free
theorem bindL_out {kindOf:Str→Option NameKind} {x:Str}:∀ {binds:List (Str×Value)} {m:Str→Option Value},(∀ v,(x,v)∉binds)→bindL kindOf binds m x=m x
  | [],_,_=>rfl
  | (n,v)::r,m,h=>by
    unfold bindL
    rw [bindL_out fun w hw=>h w (List.mem_cons_of_mem _ hw)]
    split
    · have:x≠n:=by rintro rfl; exact h v List.mem_cons_self
      simp [this]
    · rfl
theorem bindC_out {kindOf:Str→Option NameKind} {x:Str}:∀ {binds:List (Str×Value)} {m:Str→Option Value},(∀ v,(x,v)∉binds)→bindC kindOf binds m x=m x
  | [],_,_=>rfl
  | (n,v)::r,m,h=>by
    unfold bindC
    rw [bindC_out fun w hw=>h w (List.mem_cons_of_mem _ hw)]
    split
    · rfl
    · have:x≠n:=by rintro rfl; exact h v List.mem_cons_self
      simp [this]
theorem bindL_get {kindOf:Str→Option NameKind} {x:Str} {v:Value}:∀ {P:List Str} {vs:List Value} {i:Nat} {m:Str→Option Value},P.Nodup→P[i]?=some x→vs[i]?=some v→kindOf x=some .local →
    bindL kindOf (P.zip vs) m x=some v
  | [],_,_,_,_,h,_,_=>by simp at h
  | _::_,[],_,_,_,_,h,_=>by simp at h
  | p::P,w::vs,0,m,nd,h1,h2,hk=>by
    simp at h1 h2; subst h1; subst h2
    show bindL kindOf ((p,w)::P.zip vs) m p=_
    unfold bindL
    rw [bindL_out fun v hv=>(List.nodup_cons.mp nd).1 (List.of_mem_zip hv).1,if_pos hk]
    simp
  | p::P,w::vs,i+1,m,nd,h1,h2,hk=>by
    show bindL kindOf ((p,w)::P.zip vs) m x=_
    unfold bindL
    exact bindL_get (i:=i) (List.nodup_cons.mp nd).2 (by simpa using h1) (by simpa using h2) hk
theorem bindC_get {kindOf:Str→Option NameKind} {x:Str} {v:Value}:∀ {P:List Str} {vs:List Value} {i:Nat} {m:Str→Option Value},P.Nodup→P[i]?=some x→vs[i]?=some v→kindOf x≠some .local →
    bindC kindOf (P.zip vs) m x=some v
  | [],_,_,_,_,h,_,_=>by simp at h
  | _::_,[],_,_,_,_,h,_=>by simp at h
  | p::P,w::vs,0,m,nd,h1,h2,hk=>by
    simp at h1 h2; subst h1; subst h2
    show bindC kindOf ((p,w)::P.zip vs) m p=_
    unfold bindC
    rw [bindC_out fun v hv=>(List.nodup_cons.mp nd).1 (List.of_mem_zip hv).1,if_neg hk]
    simp
  | p::P,w::vs,i+1,m,nd,h1,h2,hk=>by
    show bindC kindOf ((p,w)::P.zip vs) m x=_
    unfold bindC
    exact bindC_get (i:=i) (List.nodup_cons.mp nd).2 (by simpa using h1) (by simpa using h2) hk
noncomputable def start (N:List Str) (vs:List V):St:=vs.map some++List.replicate (N.length - vs.length) none
noncomputable def cxOf (CX:CXT) (P:Program) (w:World) (K:PySem.W.Frag) (mg:Str→Option Value) (base:Heap) (N:List Str) (qual:Str) (scope:Scope) (f:Addr) (cd:Value) (A:Around) (outer:List Env) (s:Shared) (H:Hp) (E:XK):Cx where
  prog:=P
  w:=w
  K:=K
  mg:=mg
  base:=base
  A:=A.deeper (envOfC qual scope s.heap.objs.size f cd)
  N:=N
  s₀:=s
  H₀:=H
  env:=envOfC qual scope s.heap.objs.size f cd
  outer:=outer
  stack:=envOfC qual scope s.heap.objs.size f cd::outer
  ex:=[]
  calm:=true
  fn:=fun _=>true
  pn:=[]
  xe:=fun e s'=>wpAny (model P w) (A.deeper (envOfC qual scope s.heap.objs.size f cd)) (leaving (envOfC qual scope s.heap.objs.size f cd) e) (fun _ s''=>CX outer H s E e s'') (fun e' s''=>CX outer H s E e' s'') s'
theorem cell_has {sc:Scope} {n:Nat} {x:Str} (h:sc.names.lookup x=some .cell):∃ c,(cellsFrom n sc.names []).lookup x=some c:=by
  have q:=PySem.W.cellsFrom_some sc.names n [] (.inl h)
  exact Option.isSome_iff_exists.mp q
theorem inv_start {CX:CXT} {P:Program} {w:World} {K:PySem.W.Frag} {mg:Str→Option Value} {base:Heap} {N ps:List Str} {qual:Str} {scope:Scope} {f:Addr} {cd:Value} {A:Around} {outer:List Env} {s s1:Shared} {H:Hp} {E:XK} {us:List Value} {vs:List V}
    (S:FnScope N ps scope) (hd:A.handled=none) (e0:Env0 P w K mg base A outer s H) (hl:vs.length=ps.length) (r:Vals vs us)
    (x:InCallC s s.heap.objs.size (bindL (envOfC qual scope s.heap.objs.size f cd).kindOf (ps.zip us) fun _=>none) (cellsFrom (s.heap.objs.size+1) scope.names []) (bindC (envOfC qual scope s.heap.objs.size f cd).kindOf (ps.zip us) fun _=>none) s1) :
    Inv (cxOf CX P w K mg base N qual scope f cd A outer s H E) [] (start N vs) H s1:=by
  have hpl:ps.length≤N.length:=by have:=congrArg List.length S.pre; rw [List.length_take] at this; omega
  obtain ⟨h1,tk,rfl,hk⟩:=x.done
  have noA:∀ b:Addr,b∉(cxOf CX P w K mg base N qual scope f cd A outer s H E).ex:=fun b z=>absurd (show b∈([]:List Addr) from z) (by simp)
  refine ⟨⟨e0.mod,S.kind,rfl,rfl,Nat.le_refl _,fun y z c h1 h2=>?_,fun y hy=>?_,fun y c _ h=>?_,fun _=>hd,Around.frames_deeper e0.frames,.inr ⟨rfl,rfl⟩,fun b z=>absurd z (noA b),e0.bs,e0.bsz,fun b _ _=>noA b,fun b z=>absurd z (noA b),e0.funs,e0.frf⟩,
    rfl,e0.bare,Un.kept hk,⟨_,x.toInCall.ns,fun i y v h1 h2 h3=>?_⟩,fun y c h=>⟨_,x.cell y c h⟩,e0.hok.fresh (Nat.le_refl _),fun y c h=>?_,fun p hp=>absurd (show p∈([]:List (Addr×Obj)) from hp) (by simp),e0.hok.kept hk,?_⟩
  · exact name_of_addr x.apart (PySem.mem_of_lookup h1) (PySem.mem_of_lookup h2)
  · have hy:scope.names.lookup y=some .cell∨scope.names.lookup y=some .free:=hy
    rcases hy with hy | hy
    · exact cell_has hy
    · exact absurd rfl (S.nofree _ (PySem.mem_of_lookup hy))
  · exact Nat.le_of_lt (x.above y c (PySem.mem_of_lookup h))
  · have hi:i < vs.length:=by
      unfold start at h2
      by_cases hi:i < vs.length
      · exact hi
      · rw [List.getElem?_append_right (by simpa using hi)] at h2
        rw [List.getElem?_replicate] at h2
        split at h2 <;> cases h2
    have ha:vs[i]?=some v:=by
      unfold start at h2
      rw [List.getElem?_append_left (by simpa using hi),List.getElem?_map] at h2
      cases e:vs[i]? with
      | none=>rw [e] at h2; cases h2
      | some a=>rw [e] at h2; cases h2; rfl
    obtain ⟨u,hu,rv⟩:=r.get ha
    have hp:ps[i]?=some y:=by
      rw [← S.pre,List.getElem?_take_of_lt (by omega)]; exact h1
    have ndP:ps.Nodup:=by rw [← S.pre]; exact S.nd.sublist (List.take_sublist _ _)
    refine ⟨u,rv,?_⟩
    rcases S.par y (List.mem_of_getElem? hp) with k | k
    · exact .inl ⟨k,bindL_get ndP hp hu k⟩
    · obtain ⟨c,e⟩:=cell_has (n:=s.heap.objs.size+1) k
      refine .inr ⟨.inl k,c,e,?_⟩
      have q:=x.cell y c e
      rw [bindC_get ndP hp hu (by show scope.names.lookup y≠_; rw [k]; decide)] at q
      exact q
  · exact e0.hok.fresh (Nat.le_of_lt (x.above y c (PySem.mem_of_lookup h)))
  · unfold start
    show _=N.length
    rw [List.length_append,List.length_map,List.length_replicate]
    omega
theorem fn_of {CX:CXT} {P:Program} {w:World} {K:PySem.W.Frag} {mg:Str→Option Value} {base:Heap} {k:Nat} {f:Addr} {name qual:Str} {params:Arguments} {body:List Stmt} {scope:Scope} {dV kV doc pm cdv ct oc:Value} {an od:Option Addr}
    {osl:Array (Option Value)} {N ps:List Str} {sp:Sp} (lk:K.lookup f=some ⟨oc,od,.func (PySem.W.fnOf name qual params body scope dV kV doc pm an cdv ct),osl⟩) (hcd:PySem.W.codeIn K cdv qual=true) (S:FnScope N ps scope)
    (len:∀ vs H Q E,sp vs H Q E→vs.length=ps.length)
    (hbody:∀ (A:Around) (outer:List Env) (s:Shared) (H:Hp) (vs:List V) (Q:VK) (E:XK),Room k (A.deeper (envOfC qual scope s.heap.objs.size f cdv))→sp vs H Q E →
      ∃ t,PSs (cxOf CX P w K mg base N qual scope f cdv A outer s H E) body t∧t { nx:=fun _ H'=>Q .non H',rt:=Q } (start N vs) H) :
    FnOk P w K mg base CX (k+1) f (PySem.W.fnOf name qual params body scope dV kV doc pm an cdv ct) ps sp:=by
  refine ⟨len,fun A outer s H args us vs Q E hr e0 hb r hsp=>?_⟩
  have hl:=len _ _ _ _ hsp
  have KX:K.In s.heap:=e0.mod.kin.keeps fun b o e=>(e0.bs b o e).1
  have lim:s.heap.NoLimit:=e0.mod.nolimit.keeps fun b o e=>(e0.bs b o e).1
  have hkind:∀ y∈ps.zip us,scope.names.lookup y.1=some .local∨(scope.names.lookup y.1=some .cell∧((cellsFrom (s.heap.objs.size+1) scope.names []).lookup y.1).isSome=true):=fun ⟨n,v⟩ hy=>by
    rcases S.par n (List.of_mem_zip hy).1 with q | q
    · exact .inl q
    · exact .inr ⟨q,PySem.W.cellsFrom_some _ _ _ (.inl q)⟩
  refine codeAny_call_function hr.depth (KX _ _ lk) rfl S.co S.gen rfl (PySem.W.codeRec_of KX hcd) (hb _ _ _ _ ?_)
  refine wpAny_newFunctionEnv_cells S.kind hkind fun env he s1 x=>?_
  subst he
  refine ⟨lim.keeps x.toInCall.keep,codeAny_func ?_⟩
  obtain ⟨t,ht,hq⟩:=hbody A outer s H vs Q E (hr.deeper _) hsp
  have I:Inv (cxOf CX P w K mg base N qual scope f cdv A outer s H E) [] (start N vs) H s1:=inv_start S hr.hd e0 hl r x
  refine wpAny_mono (ht [] s1 (start N vs) H _ I hq) (fun fl s' hs=>?_) fun e s' hs=>hs
  have fin:∀ {σ':St} {H':Hp} {v:V} {u:Value},Inv (cxOf CX P w K mg base N qual scope f cdv A outer s H E) [] σ' H' s'→RelV v u→Q v H'→CE outer P w H s Q u s' :=
    fun {σ' H' v u} J rv q=>⟨v,H',J.os,J.bare,J.base,J.hok,rv,q⟩
  cases fl with
  | ret u =>
    obtain ⟨v,σ',H',J,rv,q⟩:=hs
    exact fin J rv q
  | next =>
    obtain ⟨σ',H',J,q⟩:=hs
    exact fin (v:=V.non) (u:=Value.none) J rfl q
  | brk =>
    obtain ⟨_,_,_,q⟩:=hs
    exact False.elim q
  | cont =>
    obtain ⟨_,_,_,q⟩:=hs
    exact False.elim q
end L2
namespace L2
open PySem PySem.Spec PyProof.Rows
section
variable {X:Cx} {x:Str} {p pos:Pos} {e:Expr} {es:List Expr} {t:TA} {id T:String} {r:List V→Hp→VK→Prop}
noncomputable def tCB (r:List V→Hp→VK→Prop) (t:TA):TE:=fun σ H Q=>t σ H fun vs H1=>r vs H1 Q
theorem pe_callB (hc:CallR X (.builtin id) r) (hg:Gl X x) (hm:X.mg x=none) (hv:bootBuiltins x=some (.builtin id)) (ha:PA X (e::es) t) (hn:x ≠ "__name__" := by decide) (hdb:(x==("__debug__" : Str))=false:=by decide)
    (he:starEach (e::es) X.env=(false,eval e X.env)::starEach es X.env:=by rfl) (hpl:(backTo pos (starEach es X.env)).any (·.1)=false:=by rfl):PE X (.Call (.Name x p) (e::es) [] pos) (tCB r t):=by
  intro pins s σ H Q I h
  refine wpAny_Call_Name_kw (ld_blt I hg hm hv ?_ hn hdb)
  exact PyProof.Rows.callWith_builtin1 (thn (ha pos pins s σ H _ I h) fun us s1 ⟨vs,H1,I1,r1,q1⟩=>hc pins s1 σ H1 vs us Q I1 r1 q1) he hpl
theorem pe_callTy (hc:CallR X (.type T) r) (hg:Gl X x) (hm:X.mg x=none) (hv:bootBuiltins x=some (.type T)) (ha:PA X (e::es) t) (hn:x ≠ "__name__" := by decide) (hdb:(x==("__debug__" : Str))=false:=by decide)
    (he:starEach (e::es) X.env=(false,eval e X.env)::starEach es X.env:=by rfl) (hpl:(backTo pos (starEach es X.env)).any (·.1)=false:=by rfl):PE X (.Call (.Name x p) (e::es) [] pos) (tCB r t):=by
  intro pins s σ H Q I h
  refine wpAny_Call_Name_kw (ld_blt I hg hm hv ?_ hn hdb)
  exact PyProof.Rows.callWith_type1 (thn (ha pos pins s σ H _ I h) fun us s1 ⟨vs,H1,I1,r1,q1⟩=>hc pins s1 σ H1 vs us Q I1 r1 q1) he hpl
end
end L2
namespace HT
open PySem PyProof.Rows
noncomputable def lexLt:List Int→List Int→Bool
  | [],[]=>false
  | [],_::_=>true
  | _::_,[]=>false
  | x::xs,y::ys=>if x=y then lexLt xs ys else decide (x < y)
section
open PySem.SeqAt
open PySem.AutoSeq1 (wpAny_loadPart')
open PySem.MeetsSeq PySem.MeetsSeq2 PySem.MeetsSeq3
end
section
variable {prog:Program} {w:World} {A:Around} {E:Value→Shared→Prop} {s:Shared}
theorem cat_tup {t b:Addr} {vs ws:List Value} {Q:Value→Shared→Prop} (ht:IsTup s.heap t vs.toArray) (hb:IsTup s.heap b ws.toArray) (hv:vs≠[])
    (h1:ws=[]→Q (.ref t) s) (h2:ws≠[]→Q (.ref s.heap.objs.size) { s with heap:=s.heap.push { cls:=.type "tuple", data:=.seq (vs++ws).toArray } })
    (hsz:vs.length+ws.length≤sizeLine):wpAny (model prog w) A (binaryOp .Add (.ref t) (.ref b)) Q E s:=by
  obtain ⟨⟨cls,dd,data,sl⟩,ho,hc,n,hd⟩:=id ht
  obtain ⟨⟨cls2,dd2,data2,sl2⟩,ho2,hc2,n2,hd2⟩:=id hb
  simp only at hc hd hc2 hd2
  subst hc hd hc2 hd2
  have e:vs.toArray++ws.toArray=(vs++ws).toArray:=by simp
  by_cases hw:ws=[]
  · exact concat_meets ⟨_,ho,rfl⟩ ⟨_,ho2,rfl⟩ noFill_tuple_add seq_tuple_add PySem.F.slot_tuple_add PySem.F.entry_tuple_add (PySem.F.args_tuple_add_2 _ _)
      (tuple_addW1 t b vs.toArray ws.toArray n n2 dd dd2 sl sl2 (by simpa using hv) (by simp [hw])) ⟨ho,ho2,h1 hw⟩
  · refine concat_meets ⟨_,ho,rfl⟩ ⟨_,ho2,rfl⟩ noFill_tuple_add seq_tuple_add PySem.F.slot_tuple_add PySem.F.entry_tuple_add (PySem.F.args_tuple_add_2 _ _)
      (tuple_addW2 t b vs.toArray ws.toArray n n2 dd dd2 sl sl2 (by simpa using hv) (by simpa using hw) (by rw [List.size_toArray,List.size_toArray]; exact hsz)) ⟨ho,ho2,?_⟩
    rw [e]
    exact h2 hw
noncomputable def sIx (n d:Nat):Option Int→Nat
  | none=>d
  | some v=>if v < 0 then (v+(n:Int)).toNat else min v.toNat n
theorem sIx_none (n d:Nat):sIx n d none=d:=rfl
theorem sIx_nat (n d k:Nat):sIx n d (some (k:Int))=min k n:=by
  show (if (k:Int) < 0 then ((k:Int)+(n:Int)).toNat else min (k:Int).toNat n)=min k n
  rw [if_neg (by omega),Int.toNat_natCast]
theorem sIx_le (n d:Nat) (hd:d≤n) (o:Option Int):sIx n d o≤n:=by
  cases o with
  | none=>exact hd
  | some v =>
    show (if v < 0 then (v+(n:Int)).toNat else min v.toNat n)≤n
    by_cases hv:v < 0
    · rw [if_pos hv]; omega
    · rw [if_neg hv]; exact Nat.min_le_right _ _
theorem clip_eq (v:Int) (n d:Nat):(if v < 0 then max (v+(n:Int)) 0 else min v (n:Int))=((sIx n d (some v):Nat):Int):=by
  show (if v < 0 then max (v+(n:Int)) 0 else min v (n:Int))=(((if v < 0 then (v+(n:Int)).toNat else min v.toNat n):Nat):Int)
  by_cases hv:v < 0
  · simp only [if_pos hv]; omega
  · simp only [if_neg hv]; omega
theorem adjust_gen (lo hi:Option Int) (n:Nat):Builtin.Slice.sliceAdjust lo hi 1 (n:Int)=(((sIx n 0 lo:Nat):Int),((sIx n n hi:Nat):Int)):=by
  have h1:¬ ((1:Int) < 0):=by omega
  unfold Builtin.Slice.sliceAdjust
  simp only [h1,if_false]
  refine Prod.ext ?_ ?_
  · cases lo with
    | none=>rfl
    | some v=>exact clip_eq v n 0
  · cases hi with
    | none=>rfl
    | some v=>exact clip_eq v n n
theorem places_gen (i j:Nat):Builtin.Slice.slicePlaces (i:Int) (j:Int) 1=j - i:=by
  unfold Builtin.Slice.slicePlaces
  have h1:(1:Int) > 0:=by omega
  simp only [h1,if_true,Int.ediv_one]
  split <;> omega
theorem slicePart_ {v:Value} {o:Option Int} {Q:Option Int→Shared→Prop} (p:IsPart v o) (h:Q o s):wpAny (model prog w) A (Builtin.Slice.slicePartIndex v) Q E s:=by
  cases p with
  | none=>exact slicePart_none h
  | int i t=>exact slicePart_int h
theorem sliceApplied_gen {sl:Addr} {vl vu:Value} {lo hi:Option Int} {n:Nat} {Q:Int×Int×Nat→Shared→Prop} (hs:s.heap.IsSliceOf sl vl vu .none) (pl:IsPart vl lo) (pu:IsPart vu hi)
    (h:Q (((sIx n 0 lo:Nat):Int),1,sIx n n hi - sIx n 0 lo) s):wpAny (model prog w) A (Builtin.Slice.sliceApplied (.ref sl) (pure (n:Int))) Q E s:=by
  obtain ⟨os,hos,hcs,hds⟩:=id hs
  unfold Builtin.Slice.sliceApplied Builtin.Slice.sliceFields
  refine wpAny_bind (wpAny_bind (wpAny_field hos hds (x:=vl) rfl (wpAny_bind (wpAny_field hos hds (x:=vu) rfl (wpAny_bind (wpAny_field hos hds (x:=.none) rfl (wpAny_pure ?_)))))))
  refine wpAny_bind (slicePart_none ?_)
  show wpAny _ _ (if ((1:Int)==0)=true then _ else _) _ _ s
  rw [if_neg (by decide)]
  refine wpAny_bind (slicePart_ pl (wpAny_bind (slicePart_ pu (wpAny_bind (wpAny_pure ?_)))))
  show wpAny _ _ (match Builtin.Slice.sliceAdjust lo hi 1 (n:Int) with | (lo,hi)=>pure (lo,(1:Int),Builtin.Slice.slicePlaces lo hi 1)) _ _ s
  rw [adjust_gen lo hi n]
  show wpAny _ _ (pure (((sIx n 0 lo:Nat):Int),(1:Int),Builtin.Slice.slicePlaces ((sIx n 0 lo:Nat):Int) ((sIx n n hi:Nat):Int) 1)) _ _ s
  rw [places_gen]
  exact wpAny_pure h
theorem pick_gen (xs:Array Value) (i k:Nat):((List.range k).filterMap fun (m:Nat)=>xs[((i:Int)+(m:Int)*1).toNat]?).toArray=((xs.toList.drop i).take k).toArray:=by
  have e:(fun (m:Nat)=>xs[((i:Int)+(m:Int)*1).toNat]?)=fun m=>xs[i+m]?:=by
    funext m
    have:((i:Int)+(m:Int)*1).toNat=i+m:=by omega
    rw [this]
  rw [e]
  have:=pick_run xs i k
  rw [List.filterMap_map] at this
  have e2:((fun x=>xs[x]?)∘fun x=>i+x)=fun m=>xs[i+m]?:=rfl
  rw [e2] at this
  rw [this]
theorem getItem_tuple_cut {t sl:Addr} {items:Array Value} {vl vu:Value} {lo hi:Option Int} {Q:Value→Shared→Prop} (ht:IsTup s.heap t items) (hs:s.heap.IsSliceOf sl vl vu .none) (pl:IsPart vl lo) (pu:IsPart vu hi)
    (hw:¬ (sIx items.size 0 lo=0∧sIx items.size items.size hi=items.size))
    (h:Q (.ref s.heap.objs.size) { s with heap:=s.heap.push { cls:=.type "tuple", data:=.seq ((items.toList.drop (sIx items.size 0 lo)).take (sIx items.size items.size hi - sIx items.size 0 lo)).toArray } })
    (hsz:items.size≤sizeLine):wpAny (model prog w) A (getItem (.ref t) (.ref sl)) Q E s:=by
  have htake:sizeOk (.seq ((items.toList.drop (sIx items.size 0 lo)).take (sIx items.size items.size hi - sIx items.size 0 lo)).toArray):=by
    show ((items.toList.drop (sIx items.size 0 lo)).take (sIx items.size items.size hi - sIx items.size 0 lo)).toArray.size≤sizeLine
    rw [List.size_toArray,List.length_take,List.length_drop,Array.length_toList]
    omega
  have hj:sIx items.size items.size hi≤items.size:=sIx_le _ _ (Nat.le_refl _) hi
  obtain ⟨os,hos,hcs,hds⟩:=id hs
  have hTs:s.TypeIs (.ref sl) "slice" := ⟨os,hos,hcs⟩
  unfold getItem
  try with_reducible refine wpAny_holding ?_
  first | refine wpAny_bind (wpAny_pure ?_) | skip
  refine wpAny_bind (wpAny_sequenceKey ht.typeIs (by decide) ?_)
  refine wpAny_bind (wpAny_callSpecial?_slot (name:=Str.ofString "__getitem__") ht.typeIs PyProof.Rows.slot_tuple_getitem
    (wpAny_call_entry PyProof.Rows.slot_tuple_getitem ht.typeIs entry_tuple_getitem ?_ (args_tuple_getitem _ _)))
  show wpAny _ _ (Builtin.Tuple.tupleItemsOf (.ref t) >>= _) _ _ s
  refine wpAny_bind (tupleItemsOf_ ht ?_)
  refine wpAny_bind (wpAny_typeOf hTs ?_)
  rw [if_pos (by decide)]
  refine wpAny_bind (sliceApplied_gen hs pl pu ?_)
  have hno:¬ ((((sIx items.size 0 lo:Nat):Int)==0&&(1:Int)==1&&(sIx items.size items.size hi - sIx items.size 0 lo)==items.size)=true):=by
    intro q
    rw [Bool.and_eq_true,Bool.and_eq_true] at q
    have q1:((sIx items.size 0 lo:Nat):Int)=0:=eq_of_beq q.1.1
    have q2:sIx items.size items.size hi - sIx items.size 0 lo=items.size:=eq_of_beq q.2
    exact hw ⟨by omega,by omega⟩
  show wpAny _ _ (if (((sIx items.size 0 lo:Nat):Int)==0&&(1:Int)==1&&(sIx items.size items.size hi - sIx items.size 0 lo)==items.size)=true then _ else _) _ _ s
  rw [if_neg hno,pick_gen]
  first
    | exact wpAny_bind (m:=Builtin.Tuple.tupleExact _) (wpAny_newObj_type (wpAny_pure ⟨_,rfl,wpAny_pure h⟩) htake)
    | exact wpAny_bind (m:=Builtin.Tuple.tupleExact _) (wpAny_newObj_type (wpAny_bind (wpAny_pure (wpAny_pure ⟨_,rfl,wpAny_pure h⟩))) htake)
    | exact wpAny_bind (wpAny_bind (m:=Builtin.Tuple.tupleExact _) (wpAny_newObj_type (wpAny_pure (wpAny_pure ⟨_,rfl,wpAny_pure h⟩)) htake))
    | exact wpAny_bind (wpAny_bind (m:=Builtin.Tuple.tupleExact _) (wpAny_newObj_type (wpAny_pure ⟨_,rfl,wpAny_pure h⟩) htake))
end
end HT
namespace L2
open PySem PySem.Spec PyProof.Rows
noncomputable abbrev TO:=St→Hp→(Option Int→Hp→Prop)→Prop
noncomputable def PO (X:Cx) (e:Option Expr) (t:TO):Prop :=
  ∀ (pins:List (Addr×Obj)) (s:Shared) (σ:St) (H:Hp) (Q:Option Int→Hp→Prop),Inv X pins σ H s→t σ H Q →
    wpAny (model X.prog X.w) X.A (evalPart e X.env) (fun u s'=>∃ o H',Inv X pins σ H' s'∧IsPart u o∧Q o H') X.xe s
noncomputable def tNoPart:TO:=fun _ H Q=>Q none H
noncomputable def tPart (t:TE):TO:=fun σ H Q=>t σ H fun x H1=>∃ i,x=.int i∧Q (some i) H1
theorem intsAre_of {ns:List Int}:∀ {us:List Value},Vals (ns.map V.int) us→IntsAre us ns:=by
  induction ns with
  | nil=>intro us r; rw [List.map_nil] at r; cases r; exact .nil
  | cons n ns ih =>
    intro us r
    rw [List.map_cons] at r
    cases r with
    | cons r1 r2 =>
      obtain ⟨t,e⟩:=r1
      subst e
      exact .cons n t (ih r2)
section
variable {X:Cx} {e:Expr} {te:TE} {lo hi:Option Expr} {tl th:TO} {pos p2:Pos}
theorem po_none:PO X none tNoPart:=by
  intro pins s σ H Q I h
  rw [evalPart_none]
  exact wpAny_pure ⟨none,H,I,.none,h⟩
theorem po_some (h:PE X e te):PO X (some e) (tPart te):=by
  intro pins s σ H Q I hw
  rw [evalPart_some]
  refine thn (h pins s σ H _ I hw) fun u s1 ⟨x,H1,I1,r1,q1⟩=>?_
  obtain ⟨i,rfl,q⟩:=q1
  obtain ⟨t,rfl⟩:=r1
  exact ⟨some i,H1,I1,.int i t,q⟩
noncomputable def SlR (X:Cx) (r:V→Option Int→Option Int→Hp→VK→Prop):Prop :=
  ∀ (pins:List (Addr×Obj)) (s:Shared) (σ:St) (H:Hp) (x:V) (v vl vu:Value) (lo hi:Option Int) (sl:Addr) (Q:VK),Inv X pins σ H s→RelV x v→s.heap.IsSliceOf sl vl vu .none→IsPart vl lo→IsPart vu hi→r x lo hi H Q →
    ∃ T id,typeLookup (.type T) "__getitem__" = pure (some (.builtin id))∧s.TypeIs v T∧wpAny (model X.prog X.w) X.A (getItem v (.ref sl)) (EP X pins σ Q) X.xe s
theorem SlR.or {r r':V→Option Int→Option Int→Hp→VK→Prop} (h:SlR X r) (h':SlR X r'):SlR X (fun x lo hi H Q=>r x lo hi H Q∨r' x lo hi H Q):=by
  intro pins s σ H x v vl vu lo hi sl Q I rx hs pl pu q
  rcases q with q | q
  · exact h pins s σ H x v vl vu lo hi sl Q I rx hs pl pu q
  · exact h' pins s σ H x v vl vu lo hi sl Q I rx hs pl pu q
noncomputable def tSl (r:V→Option Int→Option Int→Hp→VK→Prop) (te:TE) (tl th:TO):TE:=fun σ H Q=>te σ H fun x H1=>tl σ H1 fun l H2=>th σ H2 fun u H3=>r x l u H3 Q
theorem pe_slice {r:V→Option Int→Option Int→Hp→VK→Prop} (hr:SlR X r) (he:PE X e te) (hl:PO X lo tl) (hu:PO X hi th):PE X (.Subscript e (.Slice lo hi none p2) pos) (tSl r te tl th):=by
  intro pins s σ H Q I h
  refine Subscript_ (thn (he pins s σ H _ I h) fun v s1 ⟨x,H1,I1,r1,q1⟩=>?_)
  refine wpAny_Slice (thn (hl pins s1 σ H1 _ I1 q1) fun vl s2 ⟨l,H2,I2,pl,q2⟩=>thn (hu pins s2 σ H2 _ I2 q2) fun vu s3 ⟨u,H3,I3,pu,q3⟩=>?_)
  rw [evalPart_none]
  refine wpAny_pure ?_
  have I4:Inv X pins σ H3 { s3 with heap:=s3.heap.push { cls:=.type "slice", data:=.fields #[vl,vu,.none] } }:=I3.kept (t':=s3.toks) fun b ob q=>Heap.get?_push_of_some _ q
  obtain ⟨T,id,hT,ht,hg⟩:=hr pins { s3 with heap:=s3.heap.push { cls:=.type "slice", data:=.fields #[vl,vu,.none] } } σ H3 x v vl vu l u s3.heap.objs.size Q I4 r1 (Heap.IsSliceOf.new ..) pl pu q3
  show wpAny (model X.prog X.w) X.A (subscriptTail e (.Slice lo hi none p2) v (.ref s3.heap.objs.size)) (EP X pins σ Q) X.xe { s3 with heap:=s3.heap.push { cls:=.type "slice", data:=.fields #[vl,vu,.none] } }
  exact tail_any (ops:=[.ref s3.heap.objs.size,v]) ht hT hg (by with_unfolding_all rfl)
noncomputable def cutV (xs:List V) (lo hi:Option Int):List V:=(xs.drop (HT.sIx xs.length 0 lo)).take (HT.sIx xs.length xs.length hi - HT.sIx xs.length 0 lo)
theorem cutV_length (xs:List V) (lo hi:Option Int):(cutV xs lo hi).length≤xs.length:=by
  unfold cutV
  rw [List.length_take,List.length_drop]
  omega
noncomputable def rSlT (K:PySem.W.Frag):V→Option Int→Option Int→Hp→VK→Prop:=fun x lo hi H Q=>∃ a xs,x=.ref a∧SqT K H a xs ∧
  ¬ (HT.sIx xs.length 0 lo=0∧HT.sIx xs.length xs.length hi=xs.length)∧∀ p,H p=none→Q (.ref p) (upd H p (.tup (cutV xs lo hi)))
theorem sl_tup:SlR X (rSlT X.K):=by
  intro pins s σ H x v vl vu lo hi sl Q I rx hs pl pu h
  obtain ⟨a,xs,rfl,hx,hw,q⟩:=h
  cases rx
  obtain ⟨its,r,ht,hz⟩:=I.tuple hx
  have hlen:its.toArray.size=xs.length:=by rw [List.size_toArray]; exact r.length.symm
  refine ⟨"tuple", _,PyProof.Rows.slot_tuple_getitem.lookup,ht.typeIs,?_⟩
  refine HT.getItem_tuple_cut ht hs pl pu (by rw [hlen]; exact hw) ?_ (by rw [hlen]; exact hz)
  rw [hlen]
  refine ⟨.ref s.heap.objs.size,_,I.laid (t':=s.toks) (o:=.tup (cutV xs lo hi)) (fun b ob q=>Heap.get?_push_of_some _ q) (Nat.le_refl _) ?_,rfl,q _ (I.hok.fresh (Nat.le_refl _))⟩
  exact ⟨Nat.le_trans (cutV_length xs lo hi) hz,_,(r.drop (HT.sIx xs.length 0 lo)).take (HT.sIx xs.length xs.length hi - HT.sIx xs.length 0 lo),IsTup.new _ _⟩
noncomputable def rLtT (K:PySem.W.Frag):R2:=fun x y H Q=>∃ a b ns ms,x=.ref a∧y=.ref b∧SqT K H a (ns.map V.int)∧SqT K H b (ms.map V.int)∧Q (.bl (HT.lexLt ns ms)) H
noncomputable def rCatT (K:PySem.W.Frag):R2:=fun x y H Q=>∃ a b xs ys,x=.ref a∧y=.ref b∧SqT K H a xs∧SqT K H b ys∧xs≠[]∧xs.length+ys.length≤sizeLine ∧
  (ys=[]→Q (.ref a) H)∧(ys≠[]→∀ p,H p=none→Q (.ref p) (upd H p (.tup (xs++ys))))
theorem Vals.nil_iff {xs:List V} {us:List Value} (r:Vals xs us):us=[]↔xs=[]:=by
  cases r with
  | nil=>simp
  | cons _ _=>simp
end
end L2
namespace L2
open PySem PySem.Spec PyProof.Rows
noncomputable def ixN (n:Nat) (i:Int):Option Nat:=if 0≤i then (if i < n then some i.toNat else none) else if -(n:Int)≤i then some (i+n).toNat else none
noncomputable def atI {α:Type} (xs:List α) (i:Int):Option α:=(ixN xs.length i).bind fun j=>xs[j]?
theorem ixN_seq {n:Nat} {i:Int} {j:Nat} (h:ixN n i=some j):seqIndex? i n=some j∧j < n∧-(n:Int)≤i∧i < n:=by
  unfold ixN at h
  by_cases h0:0≤i
  · rw [if_pos h0] at h
    by_cases h1:i < n
    · rw [if_pos h1] at h
      have e:i.toNat=j:=Option.some.inj h
      exact ⟨by rw [seqIndex_of h0 h1,e],by omega,by omega,h1⟩
    · rw [if_neg h1] at h; cases h
  · rw [if_neg h0] at h
    by_cases h1:-(n:Int)≤i
    · rw [if_pos h1] at h
      have e:(i+n).toNat=j:=Option.some.inj h
      exact ⟨by rw [seqIndex_neg (by omega) h1,e],by omega,h1,by omega⟩
    · rw [if_neg h1] at h; cases h
theorem atI_get {α:Type} {xs:List α} {i:Int} {v:α} (h:atI xs i=some v):∃ j,seqIndex? i xs.length=some j∧xs[j]?=some v∧j < xs.length∧-(xs.length:Int)≤i∧i < xs.length:=by
  unfold atI at h
  cases e:ixN xs.length i with
  | none=>rw [e] at h; cases h
  | some j =>
    rw [e] at h
    obtain ⟨h1,h2,h3,h4⟩:=ixN_seq e
    exact ⟨j,h1,h,h2,h3,h4⟩
theorem atI_nat {α:Type} {xs:List α} {j:Nat} {v:α} (h:xs[j]?=some v):atI xs (j:Int)=some v:=by
  have hj:j < xs.length:=(List.getElem?_eq_some_iff.mp h).1
  have e:ixN xs.length (j:Int)=some j:=by
    unfold ixN
    rw [if_pos (by omega),if_pos (by omega)]; simp
  unfold atI; rw [e]; exact h
noncomputable def PlainIx (b:Expr):Prop:=∀ o i,subscripted b false o i=operate [o,i] (getItem o i)
noncomputable def IxR (X:Cx) (r:R2):Prop :=
  ∀ (value slice:Expr) (pins:List (Addr×Obj)) (s:Shared) (σ:St) (H:Hp) (x y:V) (v u:Value) (Q:VK),Inv X pins σ H s→RelV x v→RelV y u→r x y H Q →
    subscripted slice false v u=operate [v,u] (getItem v u)→wpAny (model X.prog X.w) X.A (subscriptTail value slice v u) (EP X pins σ Q) X.xe s
noncomputable def MtR (X:Cx) (id:String) (r:V→List V→Hp→VK→Prop):Prop :=
  ∀ (pins:List (Addr×Obj)) (s:Shared) (σ:St) (H:Hp) (x:V) (xs:List V) (v:Value) (us:List Value) (Q:VK),Inv X pins σ H s→RelV x v→Vals xs us→r x xs H Q →
    wpAny (model X.prog X.w) X.A (call (.builtin id) (v::us)) (EP X pins σ Q) X.xe s
section
variable {X:Cx} {a b:Expr} {ta tb:TE} {pos:Pos}
theorem IxR.or {r r':R2} (h:IxR X r) (h':IxR X r'):IxR X (fun x y H Q=>r x y H Q∨r' x y H Q):=by
  intro value slice pins s σ H x y v u Q I rx ry q hs
  rcases q with q | q
  · exact h value slice pins s σ H x y v u Q I rx ry q hs
  · exact h' value slice pins s σ H x y v u Q I rx ry q hs
theorem pe_ix {r:R2} (hr:IxR X r) (ha:PE X a ta) (hb:PE X b tb) (hs:PlainIx b):PE X (.Subscript a b pos) (tOp r ta tb):=by
  intro pins s σ H Q I h
  exact Subscript_ (binT ha hb I h fun v u s2 x y H2 I2 rx ry q=>hr a b pins s2 σ H2 x y v u Q I2 rx ry q (hs _ _))
noncomputable def rIxL (K:PySem.W.Frag):R2:=fun x y H Q=>∃ p xs i v,x=.ref p∧y=.int i∧SqL K H p xs∧atI xs i=some v∧Q v H
noncomputable def rIxT (K:PySem.W.Frag):R2:=fun x y H Q=>∃ p xs i v,x=.ref p∧y=.int i∧SqT K H p xs∧atI xs i=some v∧Q v H
noncomputable def rIxS:R2:=fun x y H Q=>∃ z i c,x=.str z∧y=.int i∧z.length≤sizeLine∧atI z.cps.toList i=some c∧Q (.str ⟨#[c]⟩) H
theorem ix_list:IxR X (rIxL X.K):=by
  intro value slice pins s σ H x y v u Q I rx ry h hs
  obtain ⟨p,xs,i,z,rfl,rfl,hq,he,q⟩:=h
  cases rx
  obtain ⟨t,rfl⟩:=ry
  obtain ⟨its,r,pl,hz⟩:=I.list hq
  obtain ⟨j,h1,h2,h3,h4,h5⟩:=atI_get he
  obtain ⟨w,ew,rw'⟩:=r.get h2
  have hl:=r.length
  have hn:=line63
  have fin:EP X pins σ Q w s:=⟨z,H,I,rw',q⟩
  by_cases h0:0≤i
  · have hj:i.toNat=j:=by
      rw [seqIndex_of h0 h5] at h1
      exact Option.some.inj h1
    exact item_listR pl.isList h0 (by omega) (by rw [hj]; simpa using ew) fin hs
  · have hj:(i+(its.toArray.size:Int)).toNat=j:=by
      rw [seqIndex_neg (by omega) h4] at h1
      rw [List.size_toArray,← hl]
      exact Option.some.inj h1
    exact subscriptTail_builtinR (x:=w) pl.isList.typeIs slot_list_getitem.lookup
      (wpAny_getItem_list_neg (Q:=fun r s'=>r=w∧EP X pins σ Q r s') pl.isList (by omega) (by rw [List.size_toArray] <;> omega) (by omega) (by rw [hj]; simpa using ew) ⟨rfl,fin⟩) hs
theorem ix_tup:IxR X (rIxT X.K):=by
  intro value slice pins s σ H x y v u Q I rx ry h hs
  obtain ⟨p,xs,i,z,rfl,rfl,hq,he,q⟩:=h
  cases rx
  obtain ⟨t,rfl⟩:=ry
  obtain ⟨its,r,pl,hz⟩:=I.tuple hq
  obtain ⟨j,h1,h2,h3,h4,h5⟩:=atI_get he
  obtain ⟨w,ew,rw'⟩:=r.get h2
  have hl:=r.length
  have hn:=line63
  have fin:EP X pins σ Q w s:=⟨z,H,I,rw',q⟩
  exact subscriptTail_builtinR (x:=w) pl.typeIs slot_tuple_getitem.lookup
    (getItem_tuple (j:=j) (Q:=fun r s'=>r=w∧EP X pins σ Q r s') pl (by omega) (by omega) (by rw [List.size_toArray,← hl]; exact h1) (by simpa using ew) ⟨rfl,fin⟩) hs
theorem ix_str:IxR X rIxS:=by
  intro value slice pins s σ H x y v u Q I rx ry h hs
  obtain ⟨z,i,c,rfl,rfl,hz,he,q⟩:=h
  obtain ⟨t,rfl⟩:=rx
  obtain ⟨t',rfl⟩:=ry
  obtain ⟨j,h1,h2,h3,h4,h5⟩:=atI_get he
  have hl:z.cps.toList.length=z.length:=by simp [Str.length]
  rw [hl] at h1 h4 h5
  have hn:=line63
  exact tail_any (typeIs_str s z t) slot_str_getitem.lookup (getItem_str (c:=c) (by
    have e1:decide (i < -(2 ^ 63:Int))=false:=decide_eq_false (by omega)
    have e2:decide (i ≥ 2 ^ 63)=false:=decide_eq_false (by omega)
    rw [e1,e2,Bool.or_false]) (by rw [h1]; simpa using h2) ⟨.str ⟨#[c]⟩,H,I.tok _,⟨_,rfl⟩,q⟩) hs
noncomputable def rIx (K:PySem.W.Frag):R2:=fun x y H Q=>rIxL K x y H Q∨rIxT K x y H Q∨rIxS x y H Q
theorem ix_seq:IxR X (rIx X.K):=ix_list.or (ix_tup.or ix_str)
noncomputable def rSetL:V→V→V→Hp→(Hp→Prop)→Prop:=fun o i v H Q=>∃ p xs k j,o=.ref p∧i=.int k∧H p=some (.lst xs)∧ixN xs.length k=some j∧Q (upd H p (.lst (xs.set j v)))
theorem slice_bounds (lo hi:Option Int) (n:Nat):(sliceBounds lo hi none n).1=((HT.sIx n 0 lo:Nat):Int)∧(sliceBounds lo hi none n).2.1=((HT.sIx n n hi:Nat):Int)∧(sliceBounds lo hi none n).2.2=1:=by
  refine ⟨?_,?_,rfl⟩
  · cases lo with
    | none=>simp [sliceBounds,HT.sIx]
    | some i =>
      simp only [sliceBounds,HT.sIx,Option.getD_none,show (1:Int) > 0 by decide,if_true]
      by_cases h:i < 0
      · simp only [h,if_true] <;> omega
      · simp only [h,if_false] <;> omega
  · cases hi with
    | none=>simp [sliceBounds,HT.sIx]
    | some i =>
      simp only [sliceBounds,HT.sIx,Option.getD_none,show (1:Int) > 0 by decide,if_true]
      by_cases h:i < 0
      · simp only [h,if_true] <;> omega
      · simp only [h,if_false] <;> omega
theorem slicePick_cut (its:List Value) (lo hi:Option Int):slicePick its.toArray lo hi none=((its.drop (HT.sIx its.length 0 lo)).take (HT.sIx its.length its.length hi - HT.sIx its.length 0 lo)).toArray:=by
  obtain ⟨h1,h2,h3⟩:=slice_bounds lo hi its.toArray.size
  unfold slicePick
  rw [h1,h2,h3]
  simp only [sliceRange_one,pick_run,List.size_toArray] <;> rfl
noncomputable def rSlL (K:PySem.W.Frag):V→Option Int→Option Int→Hp→VK→Prop:=fun x lo hi H Q=>∃ a xs,x=.ref a∧SqL K H a xs∧∀ p,H p=none→Q (.ref p) (upd H p (.lst (cutV xs lo hi)))
theorem sl_list:SlR X (rSlL X.K):=by
  intro pins s σ H x v vl vu lo hi sl Q I rx hs pl pu h
  obtain ⟨a,xs,rfl,hx,q⟩:=h
  cases rx
  obtain ⟨its,r,ht,hz⟩:=I.list hx
  have hlen:=r.length
  refine ⟨"list", _,slot_list_getitem.lookup,ht.isList.typeIs,?_⟩
  refine wpAny_getItem_list_slice ht.isList hs pl pu .none (by simp) ?_ (by rw [List.size_toArray] <;> omega)
  rw [slicePick_cut,← hlen]
  refine ⟨.ref s.heap.objs.size,_,I.laid (t':=s.toks) (o:=.lst (cutV xs lo hi)) (fun b ob q=>Heap.get?_push_of_some _ q) (Nat.le_refl _) ?_,rfl,q _ (I.hok.fresh (Nat.le_refl _))⟩
  exact ⟨Nat.le_trans (cutV_length xs lo hi) hz,_,0,(r.drop (HT.sIx xs.length 0 lo)).take (HT.sIx xs.length xs.length hi - HT.sIx xs.length 0 lo),Heap.get?_push_size _ rfl⟩
noncomputable def flatV:V→Bool
  | .non=>true
  | .bl _=>true
  | .int _=>true
  | .str _=>true
  | _=>false
noncomputable def eqV:V→V→Bool
  | .non,.non=>true
  | .bl a,.bl b=>a==b
  | .bl a,.int b=>(if a then 1 else 0)==b
  | .int a,.bl b=>a==(if b then 1 else 0)
  | .int a,.int b=>a==b
  | .str a,.str b=>a==b
  | _,_=>false
noncomputable def eqU (x:V) (u:Value):Bool:=match u with
  | .none=>eqV .non x
  | .bool b=>eqV (.bl b) x
  | .int i _=>eqV (.int i) x
  | .str z _=>eqV (.str z) x
  | _=>false
noncomputable def inV (x:V) (xs:List V):Bool:=xs.any fun y=>eqV y x
noncomputable def rIn (K:PySem.W.Frag) (neg:Bool):R2:=fun x y H Q=>∃ p xs,y=.ref p∧(SqL K H p xs∨SqT K H p xs)∧flatV x=true∧xs.all flatV=true∧Q (.bl (if neg then !inV x xs else inV x xs)) H
theorem call_len_seq:CallR X (.builtin "len") (fun xs H Q=>∃ p ys,xs=[.ref p]∧(SqL X.K H p ys∨SqT X.K H p ys)∧Q (.int ys.length) H):=by
  intro pins s σ H xs us Q I r h
  obtain ⟨p,ys,rfl,hq,q⟩:=h
  obtain ⟨u,rfl,rx⟩:=vals1 r
  cases rx
  have hn:=line63
  rcases hq with hq | hq
  · obtain ⟨its,r',pl,hz⟩:=I.list hq
    have hlen:=r'.length
    exact Calls.call_len_list pl.isList (by simp only [List.size_toArray] <;> omega) ⟨.int ys.length,H,I.tok _,⟨s.toks+1,by rw [List.size_toArray,hlen]⟩,q⟩
  · obtain ⟨its,r',pl,hz⟩:=I.tuple hq
    have hlen:=r'.length
    exact len_tuple pl (by simp only [List.size_toArray] <;> omega) ⟨.int ys.length,H,I.tok _,⟨s.toks+1,by rw [List.size_toArray,hlen]⟩,q⟩
theorem call_len_str:CallR X (.builtin "len") (fun xs H Q=>∃ z,xs=[.str z]∧z.length≤sizeLine∧Q (.int z.length) H):=by
  intro pins s σ H xs us Q I r h
  obtain ⟨z,rfl,hz,q⟩:=h
  obtain ⟨u,rfl,t,rfl⟩:=vals1 r
  have hn:=line63
  exact len_str (by omega) ⟨.int z.length,H,I.tok _,⟨_,rfl⟩,q⟩
theorem CallR.or {f:Value} {r r':List V→Hp→VK→Prop} (h:CallR X f r) (h':CallR X f r'):CallR X f (fun xs H Q=>r xs H Q∨r' xs H Q):=by
  intro pins s σ H xs us Q I rs q
  rcases q with q | q
  · exact h pins s σ H xs us Q I rs q
  · exact h' pins s σ H xs us Q I rs q
theorem call_tuple_of:CallR X (.type "tuple") (fun xs H Q=>∃ p ys,xs=[.ref p]∧((SqL X.K H p ys∧∀ l,H l=none→Q (.ref l) (upd H l (.tup ys)))∨(SqT X.K H p ys∧Q (.ref p) H))):=by
  intro pins s σ H xs us Q I r h
  obtain ⟨p,ys,rfl,h⟩:=h
  obtain ⟨u,rfl,rx⟩:=vals1 r
  cases rx
  rcases h with ⟨hq,q⟩ | ⟨hq,q⟩
  · obtain ⟨its,r',pl,hz⟩:=I.list hq
    have hlen:=r'.length
    refine call_tuple_list pl.isList (fun h' kp=>?_) (by simp only [List.size_toArray] <;> omega)
    have I1:Inv X pins σ H { s with heap:=h' }:=I.kept (t':=s.toks) kp
    have I2:Inv X pins σ (upd H h'.objs.size (.tup ys)) { s with heap:=h'.push { cls:=.type "tuple", data:=.seq its.toArray } } :=
      I1.laid (t':=s.toks) (fun b o e=>Heap.get?_push_of_some _ e) (Nat.le_refl _) (show ObjOk X.prog X.w _ _ _ (.tup ys) from ⟨hz,its,r',IsTup.new _ _⟩)
    exact ⟨.ref h'.objs.size,_,I2,rfl,q _ (I1.hok.fresh (Nat.le_refl _))⟩
  · obtain ⟨its,r',pl,hz⟩:=I.tuple hq
    exact call_tuple_same pl ⟨.ref p,H,I,rfl,q⟩
noncomputable def tyV (K:PySem.W.Frag) (T:String) (x:V) (H:Hp):Prop:=match x with
  | .str _=>T = "str"
  | .int _=>T = "int"
  | .ref p=>(T = "list" ∧ ∃ xs,SqL K H p xs)∨(T = "tuple" ∧ ∃ o,K.lookup p=some o∧o.cls=.type "tuple" ∧ o.dict=none) ∨
      (T = "dict" ∧ ((∃ kvs,H p=some (.dK kvs))∨∃ kvs,H p=some (.dT kvs)))∨(T = "set" ∧ ∃ S n,H p=some (.set S n))
  | _=>False
theorem tyV_is {pins:List (Addr×Obj)} {σ:St} {H:Hp} {s:Shared} {T:String} {x:V} {v:Value} (I:Inv X pins σ H s) (r:RelV x v) (ty:tyV X.K T x H) :
    s.TypeIs v T∧∀ a,v=.ref a→∃ ob,s.heap.get? a=some ob∧ob.dict=none:=by
  cases x with
  | str z =>
    obtain ⟨t,rfl⟩:=r
    cases (show T = "str" from ty)
    exact ⟨typeIs_str s z t,fun _ e=>nomatch e⟩
  | int i =>
    obtain ⟨t,rfl⟩:=r
    cases (show T = "int" from ty)
    exact ⟨typeIs_int s i t,fun _ e=>nomatch e⟩
  | ref p =>
    cases r
    rcases ty with ⟨rfl,xs,hq⟩ | ⟨rfl,o,hk,hc,hd⟩ | ⟨rfl,hk⟩ | ⟨rfl,S,n,hk⟩
    · obtain ⟨its,_,pl,_⟩:=I.list hq
      refine ⟨pl.isList.typeIs,fun a e=>?_⟩
      cases e
      obtain ⟨o,n,e,c,hd,_⟩:=pl
      exact ⟨o,e,hd⟩
    · refine ⟨⟨o,I.kIn p o hk,hc⟩,fun a e=>?_⟩
      cases e
      exact ⟨o,I.kIn _ o hk,hd⟩
    · have z:∃ o,s.heap.get? p=some o∧o.ExactDict:=by
        rcases hk with ⟨kvs,hk⟩ | ⟨kvs,hk⟩
        · obtain ⟨_,_,_,_,o,_,_,e,ex,_⟩:=I.hok p _ hk
          exact ⟨o,e,ex⟩
        · obtain ⟨_,_,_,_,o,_,_,e,ex,_⟩:=I.hok p _ hk
          exact ⟨o,e,ex⟩
      obtain ⟨o,e,ex⟩:=z
      refine ⟨⟨o,e,ex.1⟩,fun a e2=>?_⟩
      cases e2
      exact ⟨o,e,ex.2.1⟩
    · obtain ⟨o,_,_,_,e,ex,_⟩:=I.hok p _ hk
      refine ⟨⟨o,e,ex.1⟩,fun a e2=>?_⟩
      cases e2
      exact ⟨o,e,ex.2.1⟩
  | _=>exact False.elim ty
noncomputable def tBM0 (K:PySem.W.Frag) (T:String) (r:V→List V→Hp→VK→Prop) (to:TE):TE:=fun σ H Q=>to σ H fun x H1=>tyV K T x H1∧r x [] H1 Q
noncomputable def tBM (K:PySem.W.Frag) (T:String) (r:V→List V→Hp→VK→Prop) (to:TE) (t:TA):TE:=fun σ H Q=>to σ H fun x H1=>tyV K T x H1∧t σ H1 fun xs H2=>r x xs H2 Q
variable {o e:Expr} {es:List Expr} {to:TE} {t:TA} {name:Str} {apos cpos:Pos} {T id:String} {r:V→List V→Hp→VK→Prop}
theorem pe_bm (pa:PlainAttrs T) (slot:Slot T name id) (hty:typeOf (.builtin id)=pure (.type "method_descriptor")) (hm:MtR X id r) (ho:PE X o to) (ha:PA X (e::es) t)
    (hbase:attributeBase o name X.env (eval o X.env)=eval o X.env:=by rfl)
    (hfew:((backTo cpos (starEach (e::es) X.env)).all (fun x=>!x.1)&&(backToKw cpos (keywordEach [] X.env)).all (fun x=>x.1.isSome)
      && decide ((e::es).length+([]:List Keyword).length+(if ([]:List Keyword).isEmpty then 0 else 1) < 30))=true:=by rfl)
    (hline:(apos.endLine==cpos.line)=true:=by rfl) (hs:starEach (e::es) X.env=(false,eval e X.env)::starEach es X.env:=by rfl) (hplain:(backTo cpos (starEach es X.env)).any (·.1)=false:=by rfl) :
    PE X (.Call (.Attribute o name apos) (e::es) [] cpos) (tBM X.K T r to t):=by
  intro pins s σ H Q I h
  refine wpAny_Call_method_late hbase hfew hline rfl (thn (ho pins s σ H _ I h) fun v s1 ⟨x,H1,I1,r1,ty,q1⟩=>?_)
  obtain ⟨h1,h2⟩:=tyV_is I1 r1 ty
  refine ⟨T,id,pa,slot,hty,h1,h2,?_⟩
  have hA:=ha cpos pins s1 σ H1 _ I1 q1
  rw [hs] at hA ⊢
  refine Calls.callWith_builtin (by show (false||(backTo cpos (starEach es X.env)).any (·.1))=false; rw [hplain] <;> rfl) (Calls.evalArgs_plain ?_)
  exact thn hA fun us s2 ⟨vs,H2,I2,r2,q2⟩=>hm pins s2 σ H2 x vs v us Q I2 r1 r2 q2
/- xs.append(e),list.index on a module's tuple .. are MtR facts of 06m -/
end
end L2
namespace L2
open PySem PySem.Spec PyProof.Rows
noncomputable def MtM (X:Cx) (id:String) (r:V→List V→Hp→VK→Prop):Prop :=
  ∀ (pins:List (Addr×Obj)) (s:Shared) (σ:St) (H:Hp) (x:V) (xs:List V) (v:Value) (us:List Value) (Q:VK),Inv X pins σ H s→RelV x v→Vals xs us→r x xs H Q →
    wpAny (model X.prog X.w) X.A (call (.builtin id) (v::us)) (EP X pins σ Q) X.xe s
theorem Vals.one:∀ {x:V} {us:List Value},Vals [x] us→∃ u,us=[u]∧RelV x u
  | _,_,.cons r .nil=>⟨_,rfl,r⟩
section
variable {X:Cx} {pins:List (Addr×Obj)} {σ:St} {H:Hp} {s:Shared} {l b:Addr} {xs ys zs:List V}
theorem Inv.lset {its its':List Value} {n:Nat} {f:Array Value→Array Value} {t':Nat} (I:Inv X pins σ H s) (hH:H l=some (.lst xs))
    (e:s.heap.get? l=some { cls:=.type "list", data:=.seq its.toArray n }) (hf:f its.toArray=its'.toArray) (hv:Vals ys its') (hz:ys.length≤sizeLine) :
    Inv X pins σ (upd H l (.lst ys)) { s with heap:=s.heap.update l (Obj.mapSeq f),toks:=t' }:=by
  have q:=PySem.IsL.update e f
  rw [hf] at q
  refine I.write (x:=l) (e:=l) (by rw [hH]; exact trivial) (.inl rfl) (fun b' u hb hu=>(Heap.get?_update_other s.heap (Obj.mapSeq f) (Ne.symm hb)).trans hu) ⟨_,q⟩ ?_
  exact ⟨hz,its',_,hv,q⟩
theorem Inv.lnew {its:List Value} {t':Nat} (I:Inv X pins σ H s) (hv:Vals ys its) (hz:ys.length≤sizeLine) :
    Inv X pins σ (upd H s.heap.objs.size (.lst ys)) { s with heap:=s.heap.push { cls:=.type "list", data:=.seq its.toArray },toks:=t' } :=
  I.laid (fun _ _ q=>Heap.get?_push_of_some _ q) (Nat.le_refl _) ⟨hz,its,0,hv,Heap.get?_push_size _ rfl⟩
theorem Inv.fresh (I:Inv X pins σ H s):H s.heap.objs.size=none:=I.hok.fresh (Nat.le_refl _)
theorem Inv.lstM (I:Inv X pins σ H s) (hH:H l=some (.lst xs)):xs.length≤sizeLine∧∃ (its:List Value) (n:Nat),Vals xs its∧xs.length=its.length∧s.heap.get? l=some { cls:=.type "list", data:=.seq its.toArray n }:=by
  obtain ⟨z,its,n,r,e⟩:=I.hok l _ hH
  exact ⟨z,its,n,r,r.length,e⟩
end
section
variable {X:Cx}
noncomputable def rAppend:V→List V→Hp→VK→Prop:=fun x vs H Q=>∃ l xs y,x=.ref l∧vs=[y]∧H l=some (.lst xs)∧xs.length < sizeLine∧Q .non (upd H l (.lst (xs++[y])))
theorem mt_append:MtM X "list.append" rAppend:=by
  intro pins s σ H x vs v us Q I rx rv h
  obtain ⟨l,xs,y,rfl,rfl,hH,hz,q⟩:=h
  cases rx
  obtain ⟨u,rfl,ru⟩:=rv.one
  obtain ⟨z,its,n,r,hl,e⟩:=I.lstM hH
  refine call_meets F.slot_list_append ⟨_,e,rfl⟩ F.entry_list_append (F.args_list_append_2 _ _) (PySem.list_append l its.toArray n u (by rw [List.size_toArray]; omega)) ⟨e,?_⟩
  refine ⟨.non,_,I.lset (its':=its++[u]) hH e (by simp) (r.append (.cons ru .nil)) ?_,rfl,q⟩
  rw [List.length_append,List.length_singleton]
  omega
noncomputable def rExtend:V→List V→Hp→VK→Prop:=fun x vs H Q=>∃ l b xs zs,x=.ref l∧vs=[.ref b]∧H l=some (.lst xs)∧H b=some (.lst zs)∧xs.length+zs.length≤sizeLine∧Q .non (upd H l (.lst (xs++zs)))
noncomputable def rPop:V→List V→Hp→VK→Prop:=fun x vs H Q=>∃ l xs y,x=.ref l∧vs=[]∧H l=some (.lst xs)∧xs[xs.length - 1]?=some y∧Q y (upd H l (.lst xs.dropLast))
noncomputable def rPopAt:V→List V→Hp→VK→Prop:=fun x vs H Q=>∃ l xs i k y,x=.ref l∧vs=[.int i]∧H l=some (.lst xs)∧-(2 ^ 63)≤i∧i < 2 ^ 63∧seqIndex? i xs.length=some k∧xs[k]?=some y∧Q y (upd H l (.lst (xs.eraseIdx k)))
noncomputable def rReverse:V→List V→Hp→VK→Prop:=fun x vs H Q=>∃ l xs,x=.ref l∧vs=[]∧H l=some (.lst xs)∧Q .non (upd H l (.lst xs.reverse))
noncomputable def rClear:V→List V→Hp→VK→Prop:=fun x vs H Q=>∃ l xs,x=.ref l∧vs=[]∧H l=some (.lst xs)∧Q .non (upd H l (.lst []))
noncomputable def rCat:R2:=fun x y H Q=>∃ l b xs zs,x=.ref l∧y=.ref b∧H l=some (.lst xs)∧H b=some (.lst zs)∧xs.length+zs.length≤sizeLine∧∀ p,H p=none→Q (.ref p) (upd H p (.lst (xs++zs)))
noncomputable def rRep:R2:=fun x y H Q=>∃ l k xs,x=.ref l∧y=.int k∧H l=some (.lst xs)∧-(2 ^ 63)≤k∧k < 2 ^ 63∧xs.length*k.toNat≤sizeLine ∧
  ∀ p,H p=none→Q (.ref p) (upd H p (.lst (List.replicate k.toNat xs).flatten))
end
end L2
namespace Att
open PySem PySem.W PySem.Calls PyProof.Rows
theorem ints_of_wellAll {P:Params} {h:Heap}:∀ (ns:List Int) (vs:List Value),WellAll P h vs (ns.map WData.int)→IntsAre vs ns:=by
  intro ns
  induction ns with
  | nil =>
    intro vs w
    rw [List.map_nil] at w
    cases w
    exact .nil
  | cons n ns ih =>
    intro vs w
    rw [List.map_cons] at w
    cases w with
    | cons a b =>
      cases a
      exact .cons _ _ (ih _ b)
theorem script_of {l:OpenLaw} {n:Nat} (hn:l.most=some n) {P:Params} {h:Heap} {args:List WData} {vals:List Value}
    (hpre:l.row.toRowW.claim.pre args=true) (hwl:WellAll P h vals args) :
    ∃ a vs ns,vals=[Value.ref a]∧args=[WData.list (ns.map WData.int)]∧h.get? a=some { cls:=.type "list", data:=.seq vs.toArray }∧IntsAre vs ns∧ns.length≤n:=by
  have hsh:WShape.hasAll [] args [.list .int]=true:=(pre_splitW hpre).1
  have hc:l.pre.holds [] { args:=args }=true:=(pre_splitW hpre).2
  obtain ⟨d,r,rfl,h1,h2⟩:=hasAllW_cons hsh
  obtain rfl:=hasAllW_nil h2
  obtain ⟨xs,rfl,h3⟩:=hasW_list h1
  obtain ⟨ns,rfl⟩:=items_int h3
  have hlen:ns.length≤n:=by
    unfold OpenLaw.pre at hc
    have h4:(WTm.not (.lt (.lit (.int (n:Int))) (.len (.arg 0)))).holds [] { args:=[.list (ns.map .int)] }=true:=by
      have h4:=(holds_andW hc).1
      rw [hn] at h4
      exact h4
    have h5:=condW_of h4 (w_not (w_lt w_lit (w_len_list (w_arg rfl))))
    rw [List.length_map] at h5
    refine Nat.le_of_not_lt fun q=>?_
    have q':(n:Int) < ((ns.length:Nat):Int):=by omega
    first
      | (rw [decide_eq_true q'] at h5; exact absurd h5 (by decide))
      | (simp at h5; omega)
  cases hwl with
  | cons w1 w2 =>
    cases w2
    cases w1 with
    | list ho hall=>exact ⟨_,_,ns,rfl,rfl,ho,ints_of_wellAll ns _ hall,hlen⟩
theorem post_true (l:OpenLaw) (args:List WData):l.row.toRowW.claim.post args (.bool true) args=true :=
  postW_of (r:=l.row.toRowW) (X:=(true==true))
    (show WShape.has [] (.bool true) .bool=true by first | rfl | decide | simp [WShape.has,WShape.arms,WShape.armsAll])
    (show (WTm.eq .res (.lit (.bool true))).value [] { args:=args,res:=some (.bool true),after:=args }=some (.bool (true==true)) from w_eq_bool (w_res rfl) w_lit) rfl
theorem attach_call {l:OpenLaw} {n:Nat} {q:Program} {loose:List Str} {XP:(Str→Option Value)→Heap→Prop} {YP:World→Heap→Prop} {d:DefRec}
    (hn:l.most=some n) (hdf:d.params.defaults=[])
    (call:∀ (w:World) (s₀ s₁:Shared) (mg mb:Str→Option Value) (fa:Addr) (o:Obj) (pm cd doc:Value) (a:Addr) (vs:List Value) (ns:List Int),
      Ground q loose [] XP w s₀ mg mb s₁.heap→YP w s₁.heap →
      s₁.heap.get? fa=some o→o.data=.func (docDef d.name d.params d.body d.scope pm cd doc)→s₁.heap.CodeRec cd d.name→mg d.name=some (.ref fa) →
      s₁.heap.get? a=some { cls:=.type "list", data:=.seq vs.toArray }→IntsAre vs ns→ns.length≤n→s₁.gens=#[] →
      codeAny (model l.prog w) callerA (.call (.ref fa) ⟨[.ref a],[]⟩) (fun r s'=>r=.ok (.ret (.bool true))∧OldK s₁.heap s'.heap∧s'.os=s₁.os∧AllBare s'.gens) s₁) :
    WalkO q loose XP YP l.row.toRowW d [] (fun f vs=>PySem.call f vs):=by
  intro w s₀ s₁ mg mb G Y fa o pm cd doc dV kV ho hd hcd hD hmg hg args vals as hpre hlay hrd hwl hlo
  obtain rfl:dV=.none:=Dflts.none hD hdf
  obtain rfl:kV=.none:=Dflts.noKw hD
  obtain ⟨a,vs,ns,rfl,rfl,hobj,hints,hlen⟩:=script_of hn hpre hwl
  refine enter_call (codeAny_mono (call w s₀ s₁ mg mb fa o pm cd doc a vs ns G Y ho (fd_plain hd) hcd hmg hobj hints hlen hg) fun r s' hq=>?_)
  obtain ⟨rfl,h2,h3,h4⟩:=hq
  exact ⟨.inl ⟨.bool true,.bool true,[],rfl,fun _=>rfl,.bool true,post_true l _,fun _=>⟨List.Pairwise.nil,fun _ hm=>(nomatch hm)⟩⟩,h2,h3,h4⟩
section
variable {prog:Program} {w:World} {A:Around} {E:Value→Shared→Prop} {s:Shared} {K:Frag}
noncomputable def noObjs (h:Heap):Heap:={ h with objs:=#[] }
noncomputable def ledger (h:Heap) (L d:Addr):List (Addr×Obj):=(List.range h.objs.size).filterMap fun a=>if a=L∨a=d then none else (h.get? a).map fun o=>(a,o)
end
end Att
namespace L2
open PySem PySem.Spec PyProof.Rows
theorem vals_ints:∀ {vs:List Value} {ns:List Int},IntsAre vs ns→Vals (ns.map V.int) vs
  | _,_,.nil=>.nil
  | _,_,.cons n t h=>.cons ⟨t,rfl⟩ (vals_ints h)
noncomputable def Only (H:Hp):Prop:=∀ b,H b=none∨∃ o xs,H b=some (.frz o (.lst xs))
theorem law_call {P:Program} {w:World} {K:PySem.W.Frag} {mg mb:Str→Option Value} {CX:CXT} {k:Nat} {fa a:Addr} {fd:FuncData} {x:Str} {sp:Sp} {s₁:Shared} {vs:List Value} {ns:List Int}
    (KX:K.In s₁.heap) (hns:s₁.heap.Ns mainGlobals mg) (hb:s₁.heap.Ns builtinsNs mb) (hbb:∀ x:Str,x ≠ "__name__" → mb x=bootBuiltins x) (hlim:s₁.heap.NoLimit) (hg:s₁.gens=#[])
    (ha:s₁.heap.get? a=some { cls:=.type "list", data:=.seq vs.toArray }) (hi:IntsAre vs ns) (hl:ns.length≤sizeLine) (hr:Room k callerA)
    (F:∀ base:Heap,K.In base→base.Ns mainGlobals mg→FnOk P w K mg base CX k fa fd [x] sp) (hbind:∀ (s:Shared) (u:Value),BindsTo s fd ⟨[u],[]⟩ [(x,u)])
    (hsp:∀ H:Hp,Only H→SqL K H a (ns.map V.int)→sp [.ref a] H (fun v _=>v=.bl true) fun _ _ _=>False)
    (hCX:∀ H e s',CX [] H s₁ (fun _ _ _=>False) e s'→False) :
    codeAny (model P w) callerA (.call (.ref fa) ⟨[.ref a],[]⟩) (fun r s'=>r=.ok (.ret (.bool true))∧OldK s₁.heap s'.heap∧s'.os=s₁.os∧AllBare s'.gens) s₁:=by
  have rv:=vals_ints hi
  have lenV:=hi.length
  have core:∀ H:Hp,Only H→SqL K H a (ns.map V.int)→HOk P w H s₁.heap→(∀ b,H b≠none→b=a)→(H a≠none→K.lookup a=none) →
      codeAny (model P w) callerA (.call (.ref fa) ⟨[.ref a],[]⟩) (fun r s'=>r=.ok (.ret (.bool true))∧OldK s₁.heap s'.heap∧s'.os=s₁.os∧AllBare s'.gens) s₁:=by
    intro H hO hS hok hA hK
    have base_of:∀ {b:Addr} {o:Obj},s₁.heap.get? b=some o→H b=none→(hidT s₁.heap H).get? b=some o:=fun e n=>hidT_get e n
    have noA:∀ {b:Addr} {o:Obj} {es:Array DictEntry} {ep:Nat},s₁.heap.get? b=some o→o.data=.dict es ep→H b=none:=fun {b o es ep} e d=>by
      cases q:H b with
      | none=>rfl
      | some u =>
        have e':b=a:=hA b (by rw [q]; simp)
        subst e'
        rw [ha] at e; cases e
        have d':Data.seq vs.toArray _=Data.dict es ep:=d
        cases d'
    have nsK:∀ {b:Addr} {m:Str→Option Value},s₁.heap.Ns b m→(hidT s₁.heap H).Ns b m:=fun {b m} ⟨o,es,ep,e,d,r⟩=>⟨o,es,ep,base_of e (noA e d),d,r⟩
    have hKb:K.In (hidT s₁.heap H):=fun b o e=>base_of (KX b o e) (by
      cases q:H b with
      | none=>rfl
      | some u =>
        have e':b=a:=hA b (by rw [q]; simp)
        subst e'
        rw [hK (by rw [q]; simp)] at e; cases e)
    have hM:Mod K mg (hidT s₁.heap H):=⟨hKb,nsK hns,⟨mb,nsK hb,hbb⟩,let ⟨mc,h1,h2⟩:=hlim; ⟨mc,nsK h1,h2⟩⟩
    have e0:Env0 P w K mg (hidT s₁.heap H) callerA [] s₁ H:=⟨rfl,hM,fun b o e=>of_hidT e,Nat.le_of_eq (hidT_size _ _),trivial,fun b hb=>absurd (show b∈([]:List Addr) from hb) (by simp),hok,.of_eq hg⟩
    refine codeAny_mono ((F _ hKb (nsK hns)).run callerA [] s₁ H ⟨[.ref a],[]⟩ [.ref a] [.ref a] _ _ hr e0 (hbind s₁ (.ref a)) (.cons rfl .nil) (hsp H hO hS)) fun r s' h=>?_
    cases r with
    | error e=>exact (hCX H e s' h).elim
    | ok fl =>
      cases fl with
      | next=>exact False.elim h
      | brk=>exact False.elim h
      | cont=>exact False.elim h
      | ret u =>
        obtain ⟨v,H',os,bare,un,hok',r',q⟩:=h
        have q':v=.bl true:=q
        subst q'
        obtain rfl:u=Value.bool true:=r'
        refine ⟨rfl,OldK.of_keep fun b o e=>?_,os,bare⟩
        cases q:H b with
        | none=>exact un.keep b o e q (by intro z; exact absurd (show b∈([]:List Addr) from z) (by simp)) (by simp)
        | some u =>
          rcases hO b with z | ⟨ob,xs,z⟩
          · rw [q] at z; cases z
          · have z2:=un.frzs b ob _ z
            obtain ⟨e1,_⟩:=hok b _ z
            obtain ⟨e2,_⟩:=hok' b _ z2
            rw [e] at e1; cases e1
            exact e2
  cases hk:K.lookup a with
  | some o =>
    have e:=KX a o hk
    rw [ha] at e
    cases e
    refine core (fun _=>none) (fun _=>.inl rfl) (.inr ⟨_,vs.toArray,_,hk,rfl,rfl,rfl,by rw [List.size_toArray,lenV]; exact hl,by simpa using rv⟩) (fun b u z=>by have z':(none:Option HO)=some u:=z; cases z') (fun b z=>absurd rfl z) fun z=>absurd rfl z
  | none =>
    refine core (fun b=>if b=a then some (.frz { cls:=.type "list", data:=.seq vs.toArray } (.lst (ns.map V.int))) else none) (fun b=>?_) (.inl (.inr ⟨{ cls:=.type "list", data:=.seq vs.toArray },if_pos rfl⟩)) (fun b u z=>?_) (fun b z=>?_) fun _=>hk
    · by_cases hb:b=a
      · exact .inr ⟨_,_,if_pos hb⟩
      · exact .inl (if_neg hb)
    · by_cases hb:b=a
      · have z':=(if_pos hb).symm.trans z
        cases z'
        subst hb
        exact ⟨ha,by rw [List.length_map]; exact hl,vs,_,rv,ha⟩
      · have z':=(if_neg hb).symm.trans z
        cases z'
    · by_cases hb:b=a
      · exact hb
      · exact absurd (if_neg hb) z
end L2
namespace L2
open PySem PySem.Spec PyProof.Rows
noncomputable abbrev KOf {K:PySem.W.Frag} {h:Heap} (_:K.In h):PySem.W.Frag:=K
theorem walk_of {l:PySem.W.OpenLaw} {n k:Nat} {q:Program} {loose:List Str} {XP:(Str→Option Value)→Heap→Prop} {YP:World→Heap→Prop} {d:DefRec} {K:Params→PySem.W.Frag} {CX:World→CXT} {sp:World→Sp} {x:Str}
    (hn:l.most=some n) (hn2:n≤sizeLine) (hdf:d.params.defaults=[]) (hr:Room k callerA)
    (hY:∀ (w:World) (h:Heap),YP w h→(K w.params).In h)
    (F:∀ (w:World) (mg:Str→Option Value) (fa:Addr) (h:Heap),(K w.params).In h→h.Ns mainGlobals mg→mg d.name=some (.ref fa) →
      ∃ fd:FuncData,(∀ (s:Shared) (u:Value),BindsTo s fd ⟨[u],[]⟩ [(x,u)]) ∧
        ∀ base:Heap,(K w.params).In base→base.Ns mainGlobals mg→FnOk l.prog w (K w.params) mg base (CX w) k fa fd [x] (sp w))
    (hsp:∀ (w:World) (H:Hp) (a:Addr) (ns:List Int),ns.length≤n→Only H→SqL (K w.params) H a (ns.map V.int)→sp w [.ref a] H (fun v _=>v=.bl true) fun _ _ _=>False)
    (hCX:∀ (w:World) (H:Hp) (s:Shared) (e:Value) (s':Shared),CX w [] H s (fun _ _ _=>False) e s'→False) :
    PySem.W.WalkO q loose XP YP l.row.toRowW d [] (fun f vs=>PySem.call f vs):=by
  refine Att.attach_call hn hdf fun w s₀ s₁ mg mb fa o pm cd doc a vs ns G Y ho hd hcd hmg hobj hints hlen hg=>?_
  have KX:=hY w _ Y
  obtain ⟨fd,hb,hF⟩:=F w mg fa _ KX G.T.g hmg
  exact law_call KX G.T.g G.T.b G.T.builtins G.T.nolimit hg hobj hints (Nat.le_trans hlen hn2) hr hF hb (fun H hO hS=>hsp w H a ns hlen hO hS) fun H e s'=>hCX w H s₁ e s'
end L2
/- THE LAST THEOREM (shape; LID,My.* are yours):
   My.Adr: a structure of the addresses that your layer names (classes,functions); My.Txt K t: a structure (Prop) of the equations over K;
   My.txt_mk:{K} {implicit addresses ..} (e1:nsIn K mainGlobals "law" = some (some (.ref f))) (e2:K.lookup f=some ⟨oc,od,.func (fnOf "law" "law" params body scope dV kV doc pm an cdv ct),sl⟩) (e3:codeIn K cdv "law" = true) ..:∃ t,My.Txt K t
set_option maxRecDepth 100000 in
set_option maxHeartbeats 0 in
theorem PySem.Challenge.cw_LID_holds:PySem.Challenge.rw_LID.Holds:=by
  w_on; o_law; k_head; (case hw=>w_witness2)
  k_fill
  refine L2.walk_of (l:=PySem.Challenge.rw_LID) (n:=63) (k:=40) (x := "script") (CX:=fun w=>..) (sp:=fun _=>My.sp_law) rfl (by decide) rfl ⟨rfl,by decide,by decide⟩ (fun w h Y=>PySem.W.kIn_of Y) ?F ?S ?C
  case F =>
    intro w mg fa h KX G hmg
    have T:∃ t,My.Txt (L2.KOf KX) t:=by
      dsimp only [L2.KOf]                          -- K must stand as «<heap const> w.params» for k_is
      refine' My.txt_mk ?e1 ?e2 ?e3 ..
      (case e1=>PySem.W.k_is)                    -- in the order: a name -> its address -> its object -> its parts
      (case e2=>PySem.W.k_is)
      ..
    obtain ⟨t,T⟩:=T
    have e0:=hmg.symm.trans (PySem.W.mg_of KX G T.law)
    cases e0                                       -- fa is the law's own address
    exact ⟨_,fun s u=>.of_eq rfl,fun base kb nb=>My.law_fn T kb nb⟩     -- if «.of_eq rfl» comes too early: refine' ⟨_,?b,fun base kb nb=>My.law_fn T kb nb⟩; exact fun s u=>.of_eq rfl
  case S=>exact fun w H a ns hl hO hS=>..
  case C=>exact ..
(the tactic k_is has no namespace: write k_is) -/
namespace L2
open PySem PySem.Spec PyProof.Rows
noncomputable def inClass (s:Stmt) (j:Nat):Stmt:=match s with
  | .ClassDef _ _ _ body _ _ _ _ _ _ _=>body.getD j (.Pass ⟨0,0,0,0⟩)
  | _=>.Pass ⟨0,0,0,0⟩
noncomputable def defArgs (s:Stmt):Arguments:=match s with
  | .FunctionDef _ a _ _ _ _ _ _ _ _=>a
  | _=>{ posonlyargs:=[],args:=[],vararg:=none,kwonlyargs:=[],kw_defaults:=[],kwarg:=none,defaults:=[] }
noncomputable def defBody (s:Stmt):List Stmt:=match s with
  | .FunctionDef _ _ b _ _ _ _ _ _ _=>b
  | _=>[]
noncomputable def defScope (s:Stmt):Scope:=match s with
  | .FunctionDef _ _ _ _ _ _ sc _ _ _=>sc
  | _=>{ kind:=.function,names:=[],isGenerator:=false,isCoroutine:=false }
noncomputable abbrev CX0:CXT:=fun _ _ _ _ _ _=>False
noncomputable abbrev E0:XK:=fun _ _ _=>False
theorem pass0 {X:Cx}:Passes CX0 X E0:=fun _ _ _ _ _ _ _ h=>h.elim
structure Fun (K:PySem.W.Frag) (x qual:Str) (st:Stmt) (f:Addr) (fd:FuncData):Prop where
  ex:∃ (oc:Value) (od:Option Addr) (kV doc pm:Value) (an:Option Addr) (cdv ct:Value) (osl:Array (Option Value)),
    fd=PySem.W.fnOf x qual (defArgs st) (defBody st) (defScope st) .none kV doc pm an cdv ct∧K.lookup f=some ⟨oc,od,.func fd,osl⟩∧PySem.W.codeIn K cdv qual=true
  kp:PySem.W.keepIn K (.ref f)=true
section
variable {P:Program} {w:World} {K:PySem.W.Frag} {mg:Str→Option Value} {base:Heap}
theorem Fun.ok {x qual:Str} {st:Stmt} {f:Addr} {fd:FuncData} {N ps:List Str} {k:Nat} {sp:Sp} (F:Fun K x qual st f fd) (S:FnScope N ps (defScope st)) (len:∀ vs H Q E,sp vs H Q E→vs.length=ps.length)
    (hbody:∀ (cdv:Value) (A:Around) (outer:List Env) (s:Shared) (H:Hp) (vs:List V) (Q:VK) (E:XK),Room k (A.deeper (envOfC qual (defScope st) s.heap.objs.size f cdv))→sp vs H Q E →
      ∃ t,PSs (cxOf CX0 P w K mg base N qual (defScope st) f cdv A outer s H E).nox (defBody st) t∧t { nx:=fun _ H'=>Q .non H',rt:=Q } (start N vs) H):FnOk P w K mg base CX0 (k+1) f fd ps sp:=by
  obtain ⟨oc,od,kV,doc,pm,an,cdv,ct,osl,rfl,lk,hcd⟩:=F.ex
  refine fn_of lk hcd S len fun A outer s H vs Q E hr hsp=>?_
  obtain ⟨t,h,q⟩:=hbody cdv A outer s H vs Q E hr hsp
  exact ⟨t,h.nox,q⟩
theorem Fun.binds {x qual:Str} {st:Stmt} {f:Addr} {fd:FuncData} {ps:List Str} (F:Fun K x qual st f fd)
    (h:∀ (kV doc pm:Value) (an:Option Addr) (cdv ct:Value) (us:List Value),us.length=ps.length→bindArgs (PySem.W.fnOf x qual (defArgs st) (defBody st) (defScope st) .none kV doc pm an cdv ct) ⟨us,[]⟩=pure (ps.zip us)):Binds K fd ps []:=by
  obtain ⟨oc,od,kV,doc,pm,an,cdv,ct,osl,rfl,lk,hcd⟩:=F.ex
  exact .all (h kV doc pm an cdv ct)
theorem fun_mk {x qual:Str} {st:Stmt} {f:Addr} {oc:Value} {od an:Option Addr} {osl:Array (Option Value)} {kV doc pm cdv ct:Value} (l:K.lookup f=some ⟨oc,od,.func (PySem.W.fnOf x qual (defArgs st) (defBody st) (defScope st) .none kV doc pm an cdv ct),osl⟩)
    (c:PySem.W.codeIn K cdv qual=true) (k:PySem.W.keepIn K (.ref f)=true):Fun K x qual st f (PySem.W.fnOf x qual (defArgs st) (defBody st) (defScope st) .none kV doc pm an cdv ct):=⟨⟨oc,od,kV,doc,pm,an,cdv,ct,osl,rfl,l,c⟩,k⟩
end
theorem small1000 {n:Nat} (h:n≤1000):n < sizeLine:=Nat.lt_of_le_of_lt h (by decide)
theorem iteF {A B:Prop} (h:B):if false=true then A else B:=by
  rw [if_neg Bool.false_ne_true]
  exact h
theorem iteT {A B:Prop} (h:A):if true=true then A else B:=by
  rw [if_pos rfl]
  exact h
noncomputable def Same (H H':Hp):Prop:=∀ b o,H b=some o→H' b=some o
theorem Same.refl (H:Hp):Same H H:=fun _ _ h=>h
theorem Same.trans {H H1 H2:Hp} (a:Same H H1) (b:Same H1 H2):Same H H2:=fun c o h=>b c o (a c o h)
theorem Same.free {H H':Hp} (e:Same H H') {l:Addr} (h:H' l=Option.none):H l=Option.none:=by
  cases q:H l with
  | none=>rfl
  | some o =>
    rw [e l o q] at h
    cases h
theorem Same.seq {K:PySem.W.Frag} {H H':Hp} {a:Addr} {xs:List V} (e:Same H H') (h:SqL K H a xs):SqL K H' a xs:=by
  rcases h with (h | ⟨o,h⟩) | h
  · exact .inl (.inl (e _ _ h))
  · exact .inl (.inr ⟨o,e _ _ h⟩)
  · exact .inr h
end L2
set_option autoImplicit false
namespace L2
open PySem PySem.Spec PyProof.Rows
section
variable {κ:Type} [DecidableEq κ]
noncomputable def valV (kvs:List (κ×V)) (k:κ):Option V:=(kvs.find? fun kv=>decide (kv.1=k)).map (·.2)
noncomputable def putK (kvs:List (κ×V)) (k:κ) (v:V):List (κ×V) :=
  if (kvs.any fun kv=>decide (kv.1=k))=true then kvs.map (fun kv=>if kv.1=k then (kv.1,v) else kv) else kvs++[(k,v)]
noncomputable def dropK (kvs:List (κ×V)) (k:κ):List (κ×V):=kvs.filter fun kv=>decide (kv.1≠k)
theorem valV_pos {p:κ×V} {r:List (κ×V)} {k:κ} (e:p.1=k):valV (p::r) k=some p.2:=by simp [valV,List.find?_cons,e]
theorem valV_neg {p:κ×V} {r:List (κ×V)} {k:κ} (e:¬ p.1=k):valV (p::r) k=valV r k:=by simp [valV,List.find?_cons,e]
theorem valV_any (k:κ):∀ kvs:List (κ×V),(kvs.any fun kv=>decide (kv.1=k))=(valV kvs k).isSome
  | []=>rfl
  | p::r=>by
    rw [List.any_cons]
    by_cases e:p.1=k
    · simp only [valV_pos e,decide_eq_true e,Bool.true_or,Option.isSome_some]
    · rw [valV_neg e,decide_eq_false e,Bool.false_or]; exact valV_any k r
theorem length_putK (kvs:List (κ×V)) (k:κ) (v:V):(putK kvs k v).length≤kvs.length+1:=by
  unfold putK
  split
  · rw [List.length_map]; omega
  · rw [List.length_append,List.length_cons,List.length_nil]; omega
theorem RelO.isSome_eq {o:Option V} {u:Option Value} (r:RelO o u):o.isSome=u.isSome:=by
  cases o with
  | none=>cases u with
    | none=>rfl
    | some _=>exact (show False from r).elim
  | some _=>cases u with
    | none=>exact (show False from r).elim
    | some _=>rfl
theorem KV.val {kvs:List (κ×V)} {vs:List (κ×Value)} (r:KV kvs vs) (k:κ):RelO (valV kvs k) (valueAt vs k):=by
  unfold KV at r
  induction r with
  | nil=>exact True.intro
  | @cons p q ps qs h t ih =>
    obtain ⟨h1,h2⟩:=h
    by_cases e:p.1=k
    · have e':q.1=k:=h1.symm.trans e
      have b:valueAt (q::qs) k=some q.2:=by simp [valueAt,List.find?_cons,e']
      rw [valV_pos e,b]; exact h2
    · have e':¬ q.1=k:=fun z=>e (h1.trans z)
      have b:valueAt (q::qs) k=valueAt qs k:=by simp [valueAt,List.find?_cons,e']
      rw [valV_neg e,b]; exact ih
theorem KV.any {kvs:List (κ×V)} {vs:List (κ×Value)} (r:KV kvs vs) (k:κ):(kvs.any fun kv=>decide (kv.1=k))=vs.any fun kv=>decide (kv.1=k):=by
  unfold KV at r
  induction r with
  | nil=>rfl
  | cons h t ih=>rw [List.any_cons,List.any_cons,ih,h.1]
theorem KV.repl {kvs:List (κ×V)} {vs:List (κ×Value)} (r:KV kvs vs) (k:κ) {y:V} {u:Value} (ry:RelV y u) :
    KV (kvs.map fun kv=>if kv.1=k then (kv.1,y) else kv) (vs.map fun kv=>if kv.1=k then (kv.1,u) else kv):=by
  unfold KV at r ⊢
  induction r with
  | nil=>exact .nil
  | @cons p q ps qs h t ih =>
    rw [List.map_cons,List.map_cons]
    refine .cons ?_ ih
    obtain ⟨h1,h2⟩:=h
    by_cases e:p.1=k
    · rw [if_pos e,if_pos (h1.symm.trans e)]; exact ⟨h1,ry⟩
    · rw [if_neg e,if_neg (fun z=>e (h1.trans z))]; exact ⟨h1,h2⟩
theorem KV.put {kvs:List (κ×V)} {vs:List (κ×Value)} (r:KV kvs vs) (k:κ) {y:V} {u:Value} (ry:RelV y u):KV (putK kvs k y) (stored vs k u):=by
  unfold putK stored
  rw [r.any k]
  by_cases e:(vs.any fun kv=>decide (kv.1=k))=true
  · rw [if_pos e,if_pos e]; exact r.repl k ry
  · rw [if_neg e,if_neg e]; exact Paired.snoc r ⟨rfl,ry⟩
theorem KV.drop {kvs:List (κ×V)} {vs:List (κ×Value)} (r:KV kvs vs) (k:κ):KV (dropK kvs k) (without vs k):=by
  unfold KV at r ⊢
  unfold dropK without
  induction r with
  | nil=>exact .nil
  | @cons p q ps qs h t ih =>
    obtain ⟨h1,h2⟩:=h
    rw [List.filter_cons,List.filter_cons]
    by_cases e:p.1=k
    · have a:¬ decide (p.1≠k)=true:=by simp [e]
      have b:¬ decide (q.1≠k)=true:=by simp [h1.symm.trans e]
      rw [if_neg a,if_neg b]; exact ih
    · have e':¬ q.1=k:=fun z=>e (h1.trans z)
      have a:decide (p.1≠k)=true:=by simp [e]
      have b:decide (q.1≠k)=true:=by simp [e']
      rw [if_pos a,if_pos b]; exact .cons ⟨h1,h2⟩ ih
theorem KV.length {kvs:List (κ×V)} {vs:List (κ×Value)} (r:KV kvs vs):kvs.length=vs.length:=Paired.length r
theorem dropK_le (kvs:List (κ×V)) (k:κ):(dropK kvs k).length≤kvs.length:=List.length_filter_le _ _
end
theorem kV_is {P:Program} {w:World} {k:Key} {u:Value} (r:RelV (kV k) u):(mixKind P w).is k u=true:=by
  cases k with
  | inl i=>obtain ⟨t,e⟩:=(show ∃ t,u=Value.int i t from r); subst e; exact mixKind_int P w i t
  | inr x=>obtain ⟨t,e⟩:=(show ∃ t,u=Value.str x t from r); subst e; exact mixKind_str P w x t
theorem items_are {P:Program} {w:World}:∀ {ks:List Key} {us:List Value},Vals (ks.map kV) us→ItemsAre (mixKind P w) ks us
  | [],_,r=>by rw [List.map_nil] at r; cases r; exact .nil
  | k::ks,_,r=>by
    rw [List.map_cons] at r
    cases r with
    | cons h t=>exact .cons (kV_is h) (items_are t)
noncomputable abbrev KT (H:Hp):List (List Key×V)→List (List Key×Addr×Value)→Prop:=Paired fun p q=>p.1=q.1∧H q.2.1=some (.tup (p.1.map kV))∧RelV p.2 q.2.2
theorem KT.val {H:Hp} {kvs:List (List Key×V)} {xs:List (List Key×Addr×Value)} (r:KT H kvs xs) (k:List Key):RelO (valV kvs k) ((atKey xs k).map (·.2)):=by
  induction r with
  | nil=>exact True.intro
  | @cons p q ps qs h t ih =>
    obtain ⟨h1,_,h2⟩:=h
    by_cases e:p.1=k
    · have e':q.1=k:=h1.symm.trans e
      have b:atKey (q::qs) k=some q.2:=by simp [atKey,List.find?_cons,e']
      rw [valV_pos e,b]; exact h2
    · have e':¬ q.1=k:=fun z=>e (h1.trans z)
      have b:atKey (q::qs) k=atKey qs k:=by simp [atKey,List.find?_cons,e']
      rw [valV_neg e,b]; exact ih
theorem KT.repl {H:Hp} {kvs:List (List Key×V)} {xs:List (List Key×Addr×Value)} (r:KT H kvs xs) (k:List Key) {y:V} {u:Value} (ry:RelV y u) :
    KT H (kvs.map fun kv=>if kv.1=k then (kv.1,y) else kv) (xs.map (putAt k u)):=by
  induction r with
  | nil=>exact .nil
  | @cons p q ps qs h t ih =>
    rw [List.map_cons,List.map_cons]
    refine .cons ?_ ih
    obtain ⟨h1,h2,h3⟩:=h
    unfold putAt
    by_cases e:p.1=k
    · rw [if_pos e,if_pos (h1.symm.trans e)]; exact ⟨h1,h2,ry⟩
    · rw [if_neg e,if_neg (fun z=>e (h1.trans z))]; exact ⟨h1,h2,h3⟩
theorem KT.put {H:Hp} {kvs:List (List Key×V)} {xs:List (List Key×Addr×Value)} (r:KT H kvs xs) (k:List Key) {b:Addr} {y:V} {u:Value} (hb:H b=some (.tup (k.map kV))) (ry:RelV y u) :
    KT H (putK kvs k y) (storedH xs k b u):=by
  have e:(kvs.any fun kv=>decide (kv.1=k))=(atKey xs k).isSome:=by
    rw [valV_any,(r.val k).isSome_eq,Option.isSome_map]
  unfold putK storedH
  rw [e]
  by_cases q:(atKey xs k).isSome=true
  · rw [if_pos q,if_pos q]; exact r.repl k ry
  · rw [if_neg q,if_neg q]; exact Paired.snoc r ⟨rfl,hb,ry⟩
theorem KT.keeps {H H':Hp} {kvs:List (List Key×V)} {xs:List (List Key×Addr×Value)} (r:KT H kvs xs) (ht:∀ b ys,H b=some (.tup ys)→H' b=some (.tup ys)):KT H' kvs xs :=
  Paired.mapP r fun _ _ z=>⟨z.1,ht _ _ z.2.1,z.2.2⟩
section
variable {P:Program} {w:World} {H:Hp} {h:Heap} {a:Addr}
theorem rd_of {u:HO} (ok:HOk P w H h) (e:Rd H a u):ObjOk P w H h a u:=e.ok ok
theorem dk_rd {kvs:List (Key×V)} (ok:HOk P w H h) (e:Rd H a (.dK kvs)):kvs.length≤sizeLine∧(a==sysModules)=false∧∃ vs,KV kvs vs∧h.DictOf (mixKind P w) a vs :=
  show ObjOk P w H h a (.dK kvs) from rd_of ok e
theorem dk_of {kvs:List (Key×V)} (ok:HOk P w H h) (e:H a=some (.dK kvs)):kvs.length≤sizeLine∧(a==sysModules)=false∧∃ vs,KV kvs vs∧h.DictOf (mixKind P w) a vs:=dk_rd ok (.inl e)
theorem key_of {ks:List Key} (ok:HOk P w H h) (e:H a=some (.tup (ks.map kV))):(tupleKind (mixKind P w)).is h ks a:=by
  obtain ⟨_,its,r,o,h1,h2,n,h3⟩:=(show ObjOk P w H h a (.tup (ks.map kV)) from ok a _ e)
  exact ⟨o,its.toArray,n,h1,h2,h3,by simpa using items_are r⟩
theorem dt_rd {kvs:List (List Key×V)} (ok:HOk P w H h) (e:Rd H a (.dT kvs)):kvs.length≤sizeLine∧(a==sysModules)=false ∧
    ∃ xs,KT H kvs xs∧h.DictOfH (tupleKind (mixKind P w)) a xs:=by
  obtain ⟨z,y,xs,r,o,es,ep,h1,h2,h3,h4,h5⟩:=(show ObjOk P w H h a (.dT kvs) from rd_of ok e)
  refine ⟨z,y,xs,r,o,es,ep,h1,h2,h3,h4,fun x hx=>?_,h5⟩
  have all:∀ {l:List (List Key×V)} {m:List (List Key×Addr×Value)},KT H l m→∀ x∈m,(tupleKind (mixKind P w)).is h x.1 x.2.1:=by
    intro l m q
    induction q with
    | nil=>intro x hx; exact nomatch hx
    | @cons p q ps qs hq t ih =>
      intro x hx
      rcases List.mem_cons.mp hx with e | hx
      · subst e
        exact key_of ok (by rw [← hq.1]; exact hq.2.1)
      · exact ih x hx
  exact all r x hx
theorem dt_of {kvs:List (List Key×V)} (ok:HOk P w H h) (e:H a=some (.dT kvs)):kvs.length≤sizeLine∧(a==sysModules)=false ∧
    ∃ xs,KT H kvs xs∧h.DictOfH (tupleKind (mixKind P w)) a xs:=dt_rd ok (.inl e)
end
noncomputable def DGet (H:Hp) (a:Addr) (y:V) (r:Option V):Prop :=
  (∃ kvs k,Rd H a (.dK kvs)∧y=kV k∧r=valV kvs k)∨∃ kvs k b,Rd H a (.dT kvs)∧y=.ref b∧H b=some (.tup (k.map kV))∧r=valV kvs k
noncomputable def DPut (H:Hp) (a:Addr) (y v:V) (H':Hp):Prop :=
  (∃ kvs k,H a=some (.dK kvs)∧y=kV k∧kvs.length < sizeLine∧H'=upd H a (.dK (putK kvs k v))) ∨
  ∃ kvs k b,H a=some (.dT kvs)∧y=.ref b∧H b=some (.tup (k.map kV))∧kvs.length < sizeLine∧H'=upd H a (.dT (putK kvs k v))
section
variable {X:Cx} {pins:List (Addr×Obj)} {σ:St} {H:Hp} {s:Shared} {a:Addr} {y v:V} {u r:Value} {o:Option V} {A:Around} {E:Value→Shared→Prop}
theorem Inv.big (I:Inv X pins σ H s):sysModules < s.heap.objs.size:=by
  have h:mainGlobals < s.heap.objs.size:=(I.mod.glob.keeps I.bk).lt
  exact Nat.lt_trans (by decide) h
theorem d_getItem {Q:Value→Shared→Prop} (hu:A.units+1 < cLine) (I:Inv X pins σ H s) (g:DGet H a y (some v)) (ry:RelV y u) (h:∀ w' s',Inv X pins σ H s'→RelV v w'→Q w' s') :
    wpAny (model X.prog X.w) A (getItem (.ref a) u) Q E s:=by
  rcases g with ⟨kvs,k,e,ey,l⟩ | ⟨kvs,k,b,e,ey,eb,l⟩
  · subst ey
    obtain ⟨z,hd,vs,rel,dd⟩:=dk_rd I.hok e
    obtain ⟨w',hw,rw'⟩:=RelO.some_of (v:=v) (o:=valueAt vs k) (by rw [l]; exact rel.val k)
    exact wpAny_getItem_of (kV_is ry) dd.mapOf hw (h w' _ (I.tok _) rw')
  · subst ey
    cases (show u=Value.ref b from ry)
    obtain ⟨z,hd,xs,rel,dd⟩:=dt_rd I.hok e
    obtain ⟨w',hw,rw'⟩:=RelO.some_of (v:=v) (o:=(atKey xs k).map (·.2)) (by rw [l]; exact rel.val k)
    obtain ⟨p,hp,hp2⟩:=Option.map_eq_some_iff.mp hw
    refine wpAny_getItem_heap (tupleKind_room_in1 hu) (key_of I.hok eb) dd hp ?_
    rw [hp2]
    exact h w' _ (I.tok _) rw'
theorem d_in {Q:Value→Shared→Prop} (hu:A.units+1 < cLine) (I:Inv X pins σ H s) (g:DGet H a y o) (ry:RelV y u) (h:∀ s',Inv X pins σ H s'→Q (.bool o.isSome) s') :
    wpAny (model X.prog X.w) A (compareOp .In u (.ref a)) Q E s:=by
  rcases g with ⟨kvs,k,e,ey,l⟩ | ⟨kvs,k,b,e,ey,eb,l⟩
  · subst ey
    obtain ⟨z,hd,vs,rel,dd⟩:=dk_rd I.hok e
    refine wpAny_in_of (kV_is ry) hd dd.mapOf ?_
    rw [← (rel.val k).isSome_eq,← l]
    exact h _ (I.tok _)
  · subst ey
    cases (show u=Value.ref b from ry)
    obtain ⟨z,hd,xs,rel,dd⟩:=dt_rd I.hok e
    refine wpAny_in_heap (tupleKind_room_in1 hu) (key_of I.hok eb) hd dd ?_
    have q:=(rel.val k).isSome_eq
    rw [Option.isSome_map] at q
    rw [← q,← l]
    exact h _ (I.tok _)
theorem d_notIn {Q:Value→Shared→Prop} (hu:A.units+1 < cLine) (I:Inv X pins σ H s) (g:DGet H a y o) (ry:RelV y u) (h:∀ s',Inv X pins σ H s'→Q (.bool (!o.isSome)) s') :
    wpAny (model X.prog X.w) A (compareOp .NotIn u (.ref a)) Q E s:=by
  rcases g with ⟨kvs,k,e,ey,l⟩ | ⟨kvs,k,b,e,ey,eb,l⟩
  · subst ey
    obtain ⟨z,hd,vs,rel,dd⟩:=dk_rd I.hok e
    refine wpAny_notIn_of (kV_is ry) hd dd.mapOf ?_
    rw [← (rel.val k).isSome_eq,← l]
    exact h _ (I.tok _)
  · subst ey
    cases (show u=Value.ref b from ry)
    obtain ⟨z,hd,xs,rel,dd⟩:=dt_rd I.hok e
    refine wpAny_notIn_heap (tupleKind_room_in1 hu) (key_of I.hok eb) hd dd ?_
    have q:=(rel.val k).isSome_eq
    rw [Option.isSome_map] at q
    rw [← q,← l]
    exact h _ (I.tok _)
theorem d_write {h':Heap} {t':Nat} {ob:HO} (I:Inv X pins σ H s) (mu:Mut (H a)) (hs:Heap.SameBut a s.heap h') (he:∃ q,h'.get? a=some q) (new:ObjOk X.prog X.w (upd H a ob) h' a ob) :
    Inv X pins σ (upd H a ob) { s with heap:=h',toks:=t' } :=
  I.write (x:=a) (e:=a) mu (.inl rfl) (fun b q hb z=>(hs.2 b hb).trans z) he new
theorem dk_new {P:Program} {w:World} {H':Hp} {h':Heap} {kvs:List (Key×V)} {vs:List (Key×Value)} (z:kvs.length≤sizeLine) (hd:(a==sysModules)=false) (rel:KV kvs vs) (dd:h'.DictOf (mixKind P w) a vs) :
    ObjOk P w H' h' a (.dK kvs):=⟨z,hd,vs,rel,dd⟩
theorem d_setItem {H':Hp} {Q:Unit→Shared→Prop} (hu:A.units+1 < cLine) (I:Inv X pins σ H s) (g:DPut H a y v H') (ry:RelV y u) (rv:RelV v r) (h:∀ s',Inv X pins σ H' s'→Q () s') :
    wpAny (model X.prog X.w) A (setItem (.ref a) u r) Q E s:=by
  rcases g with ⟨kvs,k,e,ey,l,eH⟩ | ⟨kvs,k,b,e,ey,eb,l,eH⟩
  · subst ey eH
    obtain ⟨z,hd,vs,rel,dd⟩:=dk_of I.hok e
    have hz:vs.length≤sizeLine:=by rw [← rel.length]; exact z
    have hl:(putK kvs k v).length≤sizeLine:=by have:=length_putK kvs k v; omega
    refine wpAny_setItem_pairs (hsz:=hz) (kV_is ry) dd fun h' dd' hs=>h _ ?_
    have he:∃ q,h'.get? a=some q:=let ⟨q,_,_,hq,_⟩:=dd'; ⟨q,hq⟩
    exact d_write I (by rw [e]; exact True.intro) hs he (dk_new hl hd (rel.put k rv) dd')
  · subst ey eH
    cases (show u=Value.ref b from ry)
    obtain ⟨z,hd,xs,rel,dd⟩:=dt_of I.hok e
    have hz:xs.length≤sizeLine:=by rw [← Paired.length rel]; exact z
    have hl:(putK kvs k v).length≤sizeLine:=by have:=length_putK kvs k v; omega
    refine wpAny_setItem_heap (hsz:=hz) (tupleKind_room_in1 hu) (key_of I.hok eb) dd fun h' dd' hs=>h _ ?_
    obtain ⟨q,es,ep,hq,h2,h3,h4,_,h5⟩:=dd'
    refine d_write I (by rw [e]; exact True.intro) hs ⟨q,hq⟩ ⟨hl,hd,_,(rel.put k eb rv).keeps fun c ys ec=>?_,q,es,ep,hq,h2,h3,h4,h5⟩
    rw [upd_ne (ne_of ec e (fun z=>nomatch z))]
    exact ec
end
section
variable {X:Cx} {pins:List (Addr×Obj)} {σ:St} {H:Hp} {s:Shared} {a:Addr} {kvs:List (Key×V)} {k:Key} {u:Value} {A:Around} {E:Value→Shared→Prop}
theorem d_pop {v:V} {more:List Value} {Q:Value→Shared→Prop} (I:Inv X pins σ H s) (e:H a=some (.dK kvs)) (ry:RelV (kV k) u) (l:valV kvs k=some v) (hm:more=[]∨∃ x,more=[x])
    (h:∀ w' s',Inv X pins σ (upd H a (.dK (dropK kvs k))) s'→RelV v w'→Q w' s'):wpAny (model X.prog X.w) A (call (.builtin "dict.pop") (.ref a::u::more)) Q E s:=by
  obtain ⟨z,hd,vs,rel,dd⟩:=dk_of I.hok e
  obtain ⟨w',hw,rw'⟩:=RelO.some_of (v:=v) (o:=valueAt vs k) (by rw [← l]; exact rel.val k)
  have hp:(keyPart u).isSome=true:=by
    cases k with
    | inl i=>obtain ⟨t,q⟩:=(show ∃ t,u=Value.int i t from ry); subst q; rfl
    | inr x=>obtain ⟨t,q⟩:=(show ∃ t,u=Value.str x t from ry); subst q; rfl
  have ha:argsOk "dict.pop" ⟨.ref a::u::more,[]⟩:=by
    rcases hm with q | ⟨x,q⟩
    · subst q; exact PySem.F.args_dict_pop_2 _ _
    · subst q; exact PySem.F.args_dict_pop_3 _ _ _
  refine call_meetsIn PySem.F.slot_dict_pop dd.typeIs PySem.F.entry_dict_pop ha (meets_dict_pop_there (mixKind X.prog X.w) a (kV_is ry) more hm hp)
    ⟨vs,w',dd,by rw [← rel.length]; exact z,hw,fun h' dd' hs=>h w' _ ?_ rw'⟩
  have he:∃ q,h'.get? a=some q:=let ⟨q,_,_,hq,_⟩:=dd'; ⟨q,hq⟩
  exact d_write I (by rw [e]; exact True.intro) hs he (dk_new (Nat.le_trans (dropK_le kvs k) z) hd (rel.drop k) dd')
end
noncomputable def NoSl (i:Expr):Prop:=∀ ov iv,subscripted i false ov iv=operate [ov,iv] (getItem ov iv)
theorem subD_of {prog:Program} {w:World} {A:Around} {E:Value→Shared→Prop} {s:Shared} {env:Env} {value slice:Expr} {pos:Pos} {T id:String} {Q:Value→Shared→Prop}
    (hl:typeLookup (.type T) "__getitem__" = pure (some (.builtin id))) (hs:NoSl slice)
    (h:wpAny (model prog w) A (eval value env) (fun o s₁=>wpAny (model prog w) A (eval slice env) (fun i s₂=>s₂.TypeIs o T∧wpAny (model prog w) A (getItem o i) Q E s₂) E s₁) E s) :
    wpAny (model prog w) A (eval (.Subscript value slice pos) env) Q E s:=by
  refine Subscript_ (wpAny_mono h (fun o s₁ h₁=>wpAny_mono h₁ (fun i s₂ h₂=>?_) fun _ _ x=>x) fun _ _ x=>x)
  obtain ⟨hT,h₂⟩:=h₂
  unfold subscriptTail
  refine wpAny_bind ?_
  rw [getitemInPython_of_ne hT.not_modules]
  refine wpAny_bind (wpAny_specialOf hT hl ?_)
  have fin:wpAny (model prog w) A (subscripted slice false o i) (fun r s₃=>wpAny (model prog w) A (letTemporaryGo value o r >>= fun _=>pure r) Q E s₃) E s₂:=by
    rw [hs o i]
    exact wpAny_operating (wpAny_mono h₂ (fun r s₃ h₃=>wpAny_bind (wpAny_letTemporaryGo (wpAny_pure h₃))) fun _ _ x=>x)
  first
    | exact wpAny_pure (wpAny_bind fin)
    | exact wpAny_bind (wpAny_pure (wpAny_bind fin))
    | exact wpAny_bind fin
theorem dict_typeIs {X:Cx} {pins:List (Addr×Obj)} {σ:St} {H:Hp} {s:Shared} {a:Addr} {y:V} {o:Option V} (I:Inv X pins σ H s) (g:DGet H a y o):s.TypeIs (.ref a) "dict" := by
  rcases g with ⟨kvs,k,e,_,_⟩ | ⟨kvs,k,b,e,_,_,_⟩
  · obtain ⟨_,_,vs,_,dd⟩:=dk_rd I.hok e
    exact dd.typeIs
  · obtain ⟨_,_,xs,_,dd⟩:=dt_rd I.hok e
    exact dd.typeIs
noncomputable def tDGet (td ty:TE):TE:=fun σ H Q=>td σ H fun x H1=>ty σ H1 fun y H2=>∃ a v,x=.ref a∧DGet H2 a y (some v)∧Q v H2
noncomputable def tDIn (ty td:TE):TE:=fun σ H Q=>ty σ H fun y H1=>td σ H1 fun x H2=>∃ a o,x=.ref a∧DGet H2 a y o∧Q (.bl o.isSome) H2
noncomputable def tDNotIn (ty td:TE):TE:=fun σ H Q=>ty σ H fun y H1=>td σ H1 fun x H2=>∃ a o,x=.ref a∧DGet H2 a y o∧Q (.bl (!o.isSome)) H2
noncomputable def sDPut (td ty tv:TE):TS:=fun D σ H=>tv σ H fun v H1=>td σ H1 fun x H2=>ty σ H2 fun y H3=>∃ a H4,x=.ref a∧DPut H3 a y v H4∧D.nx σ H4
noncomputable def sDAug (td ty tv:TE) (rd:V→V→Hp→VK→Prop):TS:=fun D σ H=>td σ H fun x H1=>ty σ H1 fun y H2=>∃ a v,x=.ref a∧DGet H2 a y (some v) ∧
  tv σ H2 fun y2 H3=>rd v y2 H3 fun z H4=>∃ H5,DPut H4 a y z H5∧D.nx σ H5
noncomputable def sDDel (td ty:TE):TS:=fun D σ H=>td σ H fun x H1=>ty σ H1 fun y H2=>∃ a kvs k,x=.ref a∧H2 a=some (.dK kvs)∧y=kV k∧(valV kvs k).isSome=true∧D.nx σ (upd H2 a (.dK (dropK kvs k)))
section
variable {X:Cx} {o i e value:Expr} {pos pos' tpos:Pos} {td ty tv:TE}
theorem pe_dget (hu:X.A.units+1 < cLine) (ho:PE X o td) (hi:PE X i ty) (hs:NoSl i):PE X (.Subscript o i pos) (tDGet td ty):=by
  intro pins s σ H Q I h
  refine subD_of PySem.F.slot_dict_getitem.lookup hs (thn (ho pins s σ H _ I h) fun u s1 ⟨x,H1,I1,rx,q1⟩=>thn (hi pins s1 σ H1 _ I1 q1) fun iv s2 ⟨y,H2,I2,ry,a,v,ex,g,q2⟩=>?_)
  subst ex
  obtain rfl:u=Value.ref a:=rx
  exact ⟨dict_typeIs I2 g,d_getItem hu I2 g ry fun w' s3 I3 rw'=>⟨v,H2,I3,rw',q2⟩⟩
theorem pc_din (hu:X.A.units+1 < cLine) (hi:PE X i ty) (ho:PE X o td):PC X .In i o (tDIn ty td):=by
  intro pins s σ H Q I h
  refine thn (hi pins s σ H _ I h) fun iv s1 ⟨y,H1,I1,ry,q1⟩=>thn (ho pins s1 σ H1 _ I1 q1) fun u s2 ⟨x,H2,I2,rx,a,ov,ex,g,q2⟩=>?_
  subst ex
  obtain rfl:u=Value.ref a:=rx
  exact d_in hu I2 g ry fun s3 I3=>⟨.bl ov.isSome,H2,I3,rfl,q2⟩
theorem pc_dnotin (hu:X.A.units+1 < cLine) (hi:PE X i ty) (ho:PE X o td):PC X .NotIn i o (tDNotIn ty td):=by
  intro pins s σ H Q I h
  refine thn (hi pins s σ H _ I h) fun iv s1 ⟨y,H1,I1,ry,q1⟩=>thn (ho pins s1 σ H1 _ I1 q1) fun u s2 ⟨x,H2,I2,rx,a,ov,ex,g,q2⟩=>?_
  subst ex
  obtain rfl:u=Value.ref a:=rx
  exact d_notIn hu I2 g ry fun s3 I3=>⟨.bl (!ov.isSome),H2,I3,rfl,q2⟩
theorem ps_dput (hu:X.A.units+1 < cLine) (ho:PE X o td) (hi:PE X i ty) (hv:PE X value tv) (hs:swapsWith value (some (.Subscript o i pos')) pos.line X.env=pure false) :
    PS X (.Assign [.Subscript o i pos'] value pos) (sDPut td ty tv):=by
  intro pins s σ H D I h
  refine wpAny_Assign_Subscript (thn (hv pins s σ H _ I h) fun r s1 ⟨v,H1,I1,rv,q1⟩=>thn (ho pins s1 σ H1 _ I1 q1) fun u s2 ⟨x,H2,I2,rx,q2⟩=>thn (hi pins s2 σ H2 _ I2 q2) fun iv s3 ⟨y,H3,I3,ry,a,H4,ex,g,q3⟩=>?_) hs
  subst ex
  obtain rfl:u=Value.ref a:=rx
  exact d_setItem hu I3 g ry rv fun s4 I4=>⟨σ,H4,I4,q3⟩
end
theorem dk_empty {P:Program} {w:World} {H:Hp} (h:Heap) (hb:sysModules < h.objs.size):ObjOk P w H (h.push { cls:=.type "dict", data:=.dict #[] }) h.objs.size (.dK []) :=
  ⟨Nat.zero_le _,beq_eq_false_iff_ne.mpr (Ne.symm (Nat.ne_of_lt hb)),[],.nil,Heap.DictOf.new h⟩
noncomputable def tDNewK:TE:=fun _ H Q=>∀ p,H p=none→Q (.ref p) (upd H p (.dK []))
noncomputable def tDNewT:TE:=fun _ H Q=>∀ p,H p=none→Q (.ref p) (upd H p (.dT []))
section
variable {X:Cx} {pos:Pos}
theorem pe_dnewK:PE X (.Dict [] [] pos) tDNewK:=fun pins s σ H Q I h =>
  wpAny_Dict_empty ⟨.ref s.heap.objs.size,_,I.laid (a:=s.heap.objs.size) (o:=.dK []) (t':=s.toks) (fun _ _ q=>Heap.get?_push_of_some _ q) (Nat.le_refl _) (dk_empty s.heap I.big),rfl,h _ (I.hok.fresh (Nat.le_refl _))⟩
end
noncomputable def tPairs:List (TE×TE)→St→Hp→(List (V×V)→Hp→Prop)→Prop
  | [],_,H,Q=>Q [] H
  | (tk,tv)::r,σ,H,Q=>tk σ H fun x H1=>tv σ H1 fun y H2=>tPairs r σ H2 fun ps H3=>Q ((x,y)::ps) H3
noncomputable abbrev VV:List (V×V)→List (Value×Value)→Prop:=Paired fun p q=>RelV p.1 q.1∧RelV p.2 q.2
noncomputable def PPs (X:Cx) (pos:Pos) (keys:List (Option Expr)) (values:List Expr) (trs:List (TE×TE)):Prop :=
  ∀ (pins:List (Addr×Obj)) (s:Shared) (σ:St) (H:Hp) (Q:List (V×V)→Hp→Prop),Inv X pins σ H s→tPairs trs σ H Q →
    wpAny (model X.prog X.w) X.A (evalPairs (pairTrees keys values X.env pos)) (fun vs s'=>∃ ps H',Inv X pins σ H' s'∧VV ps vs∧Q ps H') X.xe s
noncomputable def mergeK (kvs more:List (Key×V)):List (Key×V):=more.foldl (fun acc kv=>putK acc kv.1 kv.2) kvs
noncomputable def tDisp (trs:List (TE×TE)):TE:=fun σ H Q=>∀ p,H p=none→tPairs trs σ (upd H p (.dK [])) fun ps H2=>H2 p=some (.dK [])∧∃ kvs:List (Key×V),ps=kvs.map (fun kv=>(kV kv.1,kv.2))∧kvs.length≤15∧Q (.ref p) (upd H2 p (.dK (mergeK [] kvs)))
structure M1 (X:Cx) (o:Expr) (m:Str) (apos:Pos) (e:Expr) (cpos:Pos):Prop where
  base:attributeBase o m X.env (eval o X.env)=eval o X.env
  few:((backTo cpos (starEach [e] X.env)).all (fun x=>!x.1)&&(backToKw cpos (keywordEach [] X.env)).all (fun x=>x.1.isSome)
    && decide (([e]:List Expr).length+([]:List Keyword).length+(if ([]:List Keyword).isEmpty then 0 else 1) < 30))=true
  line:(apos.endLine==cpos.line)=true
  trees:backTo cpos (starEach [e] X.env)=[(false,eval e X.env)]
structure M2 (X:Cx) (o:Expr) (m:Str) (apos:Pos) (e f:Expr) (cpos:Pos):Prop where
  base:attributeBase o m X.env (eval o X.env)=eval o X.env
  few:((backTo cpos (starEach [e,f] X.env)).all (fun x=>!x.1)&&(backToKw cpos (keywordEach [] X.env)).all (fun x=>x.1.isSome)
    && decide (([e,f]:List Expr).length+([]:List Keyword).length+(if ([]:List Keyword).isEmpty then 0 else 1) < 30))=true
  line:(apos.endLine==cpos.line)=true
  trees:backTo cpos (starEach [e,f] X.env)=[(false,eval e X.env),(false,eval f X.env)]
noncomputable def IsD (H:Hp) (a:Addr):Prop:=(∃ kvs,Rd H a (.dK kvs))∨∃ kvs,Rd H a (.dT kvs)
theorem isD_at {X:Cx} {pins:List (Addr×Obj)} {σ:St} {H:Hp} {s:Shared} {a:Addr} (I:Inv X pins σ H s) (d:IsD H a) :
    s.TypeIs (.ref a) "dict" ∧ (∀ b,Value.ref a=.ref b→∃ ob,s.heap.get? b=some ob∧ob.dict=none)∧(a==sysModules)=false:=by
  rcases d with ⟨kvs,e⟩ | ⟨kvs,e⟩
  · obtain ⟨_,hd,vs,_,dd⟩:=dk_rd I.hok e
    refine ⟨dd.typeIs,fun b q=>?_,hd⟩
    cases q
    obtain ⟨ob,_,_,h1,h2,_⟩:=dd
    exact ⟨ob,h1,h2.2.1⟩
  · obtain ⟨_,hd,xs,_,dd⟩:=dt_rd I.hok e
    refine ⟨dd.typeIs,fun b q=>?_,hd⟩
    cases q
    obtain ⟨ob,_,_,h1,h2,_⟩:=dd
    exact ⟨ob,h1,h2.2.1⟩
noncomputable def tDGet1 (td ty:TE):TE:=fun σ H Q=>td σ H fun x H1=>∃ a,x=.ref a∧IsD H1 a∧ty σ H1 fun y H2=>∃ o,DGet H2 a y o∧Q (o.getD .non) H2
noncomputable def tDGet2 (td ty tx:TE):TE:=fun σ H Q=>td σ H fun x H1=>∃ a,x=.ref a∧IsD H1 a∧ty σ H1 fun y H2=>tx σ H2 fun z H3=>∃ o,DGet H3 a y o∧Q (o.getD z) H3
noncomputable def tDPop1 (td ty:TE):TE:=fun σ H Q=>td σ H fun x H1=>∃ a,x=.ref a∧IsD H1 a∧ty σ H1 fun y H2=>∃ kvs k v,H2 a=some (.dK kvs)∧y=kV k∧valV kvs k=some v∧Q v (upd H2 a (.dK (dropK kvs k)))
noncomputable def tDPop2 (td ty tx:TE):TE:=fun σ H Q=>td σ H fun x H1=>∃ a,x=.ref a∧IsD H1 a∧ty σ H1 fun y H2=>tx σ H2 fun z H3=>∃ kvs k,H3 a=some (.dK kvs)∧y=kV k ∧
  (∀ v,valV kvs k=some v→Q v (upd H3 a (.dK (dropK kvs k))))∧(valV kvs k=none→Q z H3)
section
variable {X:Cx} {o e f:Expr} {apos cpos:Pos} {td ty tx:TE}
theorem pe_dpop1 (ho:PE X o td) (he:PE X e ty) (m:M1 X o "pop" apos e cpos):PE X (.Call (.Attribute o "pop" apos) [e] [] cpos) (tDPop1 td ty):=by
  intro pins s σ H Q I h
  refine wpAny_Call_method m.base m.few m.line PySem.F.plainAttrs_dict PySem.F.slot_dict_pop PySem.F.type_dict_pop (thn (ho pins s σ H _ I h) fun u s1 ⟨x,H1,I1,rx,a,ex,d,q1⟩=>?_)
  subst ex
  obtain rfl:u=Value.ref a:=rx
  obtain ⟨t1,t2,_⟩:=isD_at I1 d
  refine ⟨t1,t2,?_⟩
  rw [m.trees]
  refine Calls.callWith_builtin rfl (Calls.evalArgs_plain (Calls.spliced_cons (thn (he pins s1 σ H1 _ I1 q1) fun iv s2 ⟨y,H2,I2,ry,kvs,k,v,ea,ey,l,q2⟩=>Calls.spliced_nil ?_)))
  subst ey
  exact d_pop I2 ea ry l (.inl rfl) fun w' s3 I3 rw'=>⟨v,_,I3,rw',q2⟩
end
end L2
namespace L2
open PySem
noncomputable def clGo (env:Env):List (Str×NameKind)→List (Str×Addr)→List (Str×Addr)
  | [],cs=>cs
  | (n,k)::r,cs=>clGo env r (if k==.free then (n,(env.cells.lookup n).getD 0)::cs else cs)
noncomputable def clOf (scope:Scope) (env:Env):List (Str×Addr):=clGo env scope.names []
theorem closureFor_eq {scope:Scope} {env:Env} (h:∀ x∈scope.names,x.2=.free→∃ c,env.cells.lookup x.1=some c):closureFor scope env=pure (clOf scope env):=by
  unfold closureFor clOf
  have key:∀ (l:List (Str×NameKind)) (cs:List (Str×Addr)),(∀ x∈l,x.2=.free→∃ c,env.cells.lookup x.1=some c) →
      (forIn l cs (fun x (r:List (Str×Addr))=>match x with
        | (name,kind)=>if (kind==NameKind.free)=true then do let a ← cellOf env name; pure (ForInStep.yield ((name,a)::r)) else pure (ForInStep.yield r)):Sem (List (Str×Addr)))=pure (clGo env l cs):=by
    intro l
    induction l with
    | nil=>intro cs _; rfl
    | cons x r ih =>
      intro cs hx
      obtain ⟨n,k⟩:=x
      rw [List.forIn_cons]
      by_cases hk:(k==NameKind.free)=true
      · obtain ⟨c,hc⟩:=hx (n,k) List.mem_cons_self (by simpa using hk)
        have e:cellOf env n=pure c:=by unfold cellOf; rw [show env.cells.lookup n=some c from hc]
        simp only [hk,if_true,e,pure_bind]
        rw [ih _ fun y hy=>hx y (List.mem_cons_of_mem _ hy)]
        have hc':env.cells.lookup n=some c:=hc
        simp only [clGo,hk,if_true,hc',Option.getD_some]
      · simp only [hk,Bool.false_eq_true,if_false,pure_bind]
        rw [ih _ fun y hy=>hx y (List.mem_cons_of_mem _ hy)]
        simp only [clGo,hk,Bool.false_eq_true,if_false]
  have:=key scope.names [] h
  dsimp only
  rw [this]
  rfl
theorem clGo_mem (env:Env):∀ (l:List (Str×NameKind)) (cs:List (Str×Addr)) (p:Str×Addr),p∈clGo env l cs→p∈cs∨((p.1,NameKind.free)∈l∧p.2=(env.cells.lookup p.1).getD 0)
  | [],cs,p,h=>.inl h
  | (n,k)::r,cs,p,h=>by
    unfold clGo at h
    rcases clGo_mem env r _ p h with h | ⟨h1,h2⟩
    · by_cases hk:(k==NameKind.free)=true
      · rw [if_pos hk] at h
        rcases List.mem_cons.mp h with h | h
        · have e:k=.free:=by simpa using hk
          subst h; subst e
          exact .inr ⟨List.mem_cons_self,rfl⟩
        · exact .inl h
      · rw [if_neg hk] at h; exact .inl h
    · exact .inr ⟨List.mem_cons_of_mem _ h1,h2⟩
theorem clGo_has (env:Env):∀ (l:List (Str×NameKind)) (cs:List (Str×Addr)) (n:Str),((n,NameKind.free)∈l∨∃ a,(n,a)∈cs)→∃ a,(n,a)∈clGo env l cs
  | [],cs,n,h=>by
    rcases h with h | h
    · cases h
    · exact h
  | (m,k)::r,cs,n,h=>by
    unfold clGo
    refine clGo_has env r _ n ?_
    rcases h with h | ⟨a,h⟩
    · rcases List.mem_cons.mp h with h | h
      · cases h
        exact .inr ⟨_,by rw [if_pos (by simp)]; exact List.mem_cons_self⟩
      · exact .inl h
    · refine .inr ⟨a,?_⟩
      split
      · exact List.mem_cons_of_mem _ h
      · exact h
theorem lookup_of_mem_some {β:Type}:∀ {l:List (Str×β)} {n:Str} {a:β},(n,a)∈l→∃ b,l.lookup n=some b
  | [],_,_,h=>by cases h
  | (m,b)::r,n,a,h=>by
    rw [List.lookup_cons]
    by_cases e:n=m
    · subst e; simp
    · have hb:(n==m)=false:=by simpa using e
      rw [hb]
      rcases List.mem_cons.mp h with h | h
      · cases h; exact absurd rfl e
      · exact lookup_of_mem_some h
theorem clOf_in {scope:Scope} {env:Env} (h:∀ x∈scope.names,x.2=.free→∃ c,env.cells.lookup x.1=some c) {x:Str} {c:Addr} (e:(clOf scope env).lookup x=some c):env.cells.lookup x=some c:=by
  have m:=PySem.mem_of_lookup e
  rcases clGo_mem env scope.names [] (x,c) m with h' | ⟨h1,h2⟩
  · cases h'
  · obtain ⟨d,hd⟩:=h _ h1 rfl
    have hd':env.cells.lookup x=some d:=hd
    have h2':c=(env.cells.lookup x).getD 0:=h2
    rw [hd'] at h2' ⊢
    rw [h2']; rfl
theorem clOf_has {scope:Scope} {env:Env} {x:Str} (h:(x,NameKind.free)∈scope.names):∃ c,(clOf scope env).lookup x=some c:=by
  obtain ⟨a,ha⟩:=clGo_has env scope.names [] x (.inl h)
  exact lookup_of_mem_some ha
end L2
namespace L2
open PySem PySem.Spec PyProof.Rows
structure CompSc (X:Cx) (scope:Scope) (N':List Str) (mp:List (Option Nat)):Prop where
  kind:scope.kind=.function
  nocell:∀ x∈scope.names,x.2≠.cell
  names:∀ x∈scope.names,x.2=.local→scope.names.lookup x.1=some .local
  fr:∀ x∈scope.names,x.2=.free→X.env.scope.names.lookup x.1=some .cell∨X.env.scope.names.lookup x.1=some .free
  len:mp.length=N'.length
  map:∀ (i:Nat) (x:Str) (j:Nat),N'[i]?=some x→mp[i]?=some (some j)→X.N[j]?=some x∧(x,NameKind.free)∈scope.names∧((relabel scope X.env).names.lookup x=some .cell∨(relabel scope X.env).names.lookup x=some .free)
noncomputable def inSt (mp:List (Option Nat)) (σ:St):St:=mp.map fun o=>o.bind fun j=>(σ[j]?).join
noncomputable def compCx (X:Cx) (scope:Scope) (N':List Str) (s:Shared) (H:Hp) (fp:List Addr):Cx :=
  { X with N:=N',s₀:=s,H₀:=H,env:=compEnvC scope (clOf scope X.env) s.heap.objs.size X.env,outer:=X.stack,ex:=fp,fn:=fun _=>false,pn:=[],xe:=fun _ _=>False }
theorem relabel_free {scope:Scope} {env:Env} {x:Str} (nc:∀ y∈scope.names,y.2≠.cell) (h:(relabel scope env).names.lookup x=some .cell∨(relabel scope env).names.lookup x=some .free):(x,NameKind.free)∈scope.names:=by
  have m:∃ k,(x,k)∈(relabel scope env).names∧(k=.cell∨k=.free):=by
    rcases h with h | h
    · exact ⟨_,PySem.mem_of_lookup h,.inl rfl⟩
    · exact ⟨_,PySem.mem_of_lookup h,.inr rfl⟩
  obtain ⟨k,hm,hk⟩:=m
  unfold relabel at hm
  obtain ⟨⟨n,k'⟩,hin,e⟩:=List.mem_map.mp hm
  dsimp only at e
  split at e
  · rename_i hc
    have e1:n=x:=congrArg Prod.fst e
    have e2:k'=.free:=by
      have:=(Bool.and_eq_true_iff.mp (Bool.and_eq_true_iff.mp hc).1).1
      simpa using this
    rw [← e1,← e2]; exact hin
  · have e1:n=x:=congrArg Prod.fst e
    have e2:k'=k:=congrArg Prod.snd e
    rcases hk with hk | hk
    · exact absurd (e2.trans hk) (nc _ hin)
    · rw [← e1,← hk,← e2]; exact hin
section
variable {X:Cx} {pins:List (Addr×Obj)} {σ:St} {H:Hp} {s:Shared} {scope:Scope} {N':List Str} {mp:List (Option Nat)} {fp:List Addr}
theorem CompSc.cells (ck:CompSc X scope N' mp) (ok:X.Ok):∀ x∈scope.names,x.2=.free→∃ c,X.env.cells.lookup x.1=some c:=fun x hx hf=>ok.has x.1 (ck.fr x hx hf)
theorem Inv.inner (I:Inv X pins σ H s) (ck:CompSc X scope N' mp) (hf:∀ b∈fp,FpOk X pins H b) (hlt:∀ b∈fp,b < s.heap.objs.size) {h₁:Heap} {tk:Nat}
    (hn:h₁.Ns s.heap.objs.size (fun _=>none)) (hk:∀ b o,s.heap.get? b=some o→h₁.get? b=some o) :
    Inv (compCx X scope N' s H fp) [] (inSt mp σ) H { s with heap:=h₁,toks:=tk }:=by
  have hfree:=ck.cells I.ok
  have cin:∀ x c,(clOf scope X.env).lookup x=some c→X.env.cells.lookup x=some c:=fun x c e=>clOf_in hfree e
  have clt:∀ x c,X.env.cells.lookup x=some c→c < s.heap.objs.size:=fun x c e=>by
    obtain ⟨v,q⟩:=I.cell x c e
    exact q.lt
  refine ⟨⟨I.ok.mod,ck.kind,I.ok.glob,I.ok.blt,Nat.le_refl _,fun x y c h1 h2=>I.ok.inj x y c (cin x c h1) (cin y c h2),fun x hx=>?_,fun x c h _=>?_,I.ok.hd,I.ok.frames,.inl rfl,fun b hb=>⟨?_,fun x c e=>?_⟩,I.bs,Nat.le_trans I.ok.bsz I.sz,fun b o e hb=>?_,fun b hb hs=>?_,I.stack,I.stkFree⟩,
    rfl,I.bare,Un.kept hk,⟨_,hn,fun i x v h1 h2 h3=>?_⟩,fun x c e=>?_,I.hok.fresh (Nat.le_refl _),fun x c e=>?_,fun p hp=>absurd (show p∈([]:List (Addr×Obj)) from hp) (by simp),I.hok.kept hk,?_⟩
  · exact clOf_has (relabel_free ck.nocell hx)
  · exact absurd (show false=true from h) (by decide)
  · exact Nat.ne_of_lt (hlt b hb)
  · exact (hf b hb).2.2.2.2.1 x c (cin x c e)
  · have q:=(hf b hb).2.2.2.1
    rcases q with q | q
    · exact I.ok.noex b o e q
    · exact absurd (Nat.lt_of_lt_of_le (Heap.lt_size e) (Nat.le_trans I.ok.bsz q)) (Nat.lt_irrefl _)
  · rcases List.mem_cons.mp (I.stkSub b hs) with z | z
    · exact (hf b hb).2.1 z
    · exact (hf b hb).2.2.1 z
  · have hi:∃ j,mp[i]?=some (some j)∧σ[j]?=some (some v):=by
      unfold inSt at h2
      rw [List.getElem?_map] at h2
      cases q:mp[i]? with
      | none=>rw [q] at h2; cases h2
      | some o =>
        rw [q] at h2
        have h2':(o.bind fun j=>(σ[j]?).join)=some v:=Option.some.inj h2
        cases o with
        | none=>cases h2'
        | some j =>
          have h2'':(σ[j]?).join=some v:=h2'
          refine ⟨j,rfl,?_⟩
          cases r:σ[j]? with
          | none=>rw [r] at h2''; cases h2''
          | some w' =>
            rw [r] at h2''
            have:w'=some v:=h2''
            rw [this]
    obtain ⟨j,hj,hσ⟩:=hi
    obtain ⟨m1,m2,m3⟩:=ck.map i x j h1 hj
    obtain ⟨m,hm,hl⟩:=I.loc
    have vis:Vis X.env.scope x:=by
      rcases ck.fr _ m2 rfl with q | q
      · exact .inr (.inl q)
      · exact .inr (.inr q)
    obtain ⟨u,ru,l⟩:=hl j x v m1 hσ vis
    refine ⟨u,ru,.inr ⟨m3,?_⟩⟩
    obtain ⟨c,hc⟩:=clOf_has (env:=X.env) m2
    refine ⟨c,hc,?_⟩
    rcases l with ⟨k,_⟩ | ⟨_,c',e',z⟩
    · rcases ck.fr _ m2 rfl with q | q
      · have k':X.env.scope.names.lookup x=some .local:=k
        have q':X.env.scope.names.lookup x=some .cell:=q
        rw [k'] at q'; cases q'
      · have k':X.env.scope.names.lookup x=some .local:=k
        have q':X.env.scope.names.lookup x=some .free:=q
        rw [k'] at q'; cases q'
    · have e2:=cin x c hc
      rw [e'] at e2
      cases e2
      obtain ⟨o,ho,hd⟩:=z
      exact ⟨o,hk _ o ho,hd⟩
  · obtain ⟨v,o,ho,hd⟩:=I.cell x c (cin x c e)
    exact ⟨v,o,hk _ o ho,hd⟩
  · exact I.freeC x c (cin x c e)
  · show (inSt mp σ).length=N'.length
    unfold inSt
    rw [List.length_map]
    exact ck.len
theorem Inv.outer {σ':St} {H':Hp} {s':Shared} (I:Inv X pins σ H s) (hf:∀ b∈fp,FpOk X pins H b) (J:Inv (compCx X scope N' s H fp) [] σ' H' s'):Inv X pins σ H' s' :=
  I.call' (ch:=fp) J.os J.base J.hok J.bare fun b hb=>⟨(hf b hb).2.2.2.1,(hf b hb).2.1,(hf b hb).2.2.2.2.1,(hf b hb).2.2.2.2.2⟩
end
noncomputable def KeepsSt (σ σ':St):Prop:=σ'.length=σ.length∧∀ (i:Nat) v,σ[i]?=some (some v)→σ'[i]?=some (some v)
noncomputable def PTs (X:Cx) (ifs:List Expr) (t:TT):Prop :=
  ∀ (pins:List (Addr×Obj)) (s:Shared) (σ:St) (H:Hp) (Q:Bool→Hp→Prop),Inv X pins σ H s→t σ H Q →
    wpAny (model X.prog X.w) X.A (forIn ifs true fun c r=>if r=true then do let ok ← isTrue c X.env (eval c X.env); pure (ForInStep.yield ok) else pure (ForInStep.yield r)) (TP X pins σ Q) X.xe s
theorem pts_nil {X:Cx}:PTs X [] (fun _ H Q=>Q true H):=fun _ _ _ H _ I h=>wpAny_tests_nil ⟨H,I,h⟩
theorem pts_one {X:Cx} {c:Expr} {t:TT} (hc:PT X c t):PTs X [c] t:=fun pins s σ H Q I h=>wpAny_tests_one (hc pins s σ H Q I h)
noncomputable def CompW (J:It) (σ':St) (g:TG) (tt:TT) (te:TE) (D:Addr) (Fin:Hp→Prop) (H1:Hp):Prop :=
  ∃ W:Nat→Nat→Hp→Prop,(∃ m,W 0 m (upd H1 D (.lst [])))∧∀ i m H,W i m H →
    (J.stop i H∧Fin H)∨(J.go i H∧∃ Nx:Hp→Prop,(∀ H',Nx H'→∃ m',m' < m∧W (i+1) m' H')∧∀ x H',J.yld i H x H'→g x σ' H' fun σ2 H2=>KeepsSt σ' σ2 ∧
      tt σ2 H2 fun ok H3=>if ok=true then te σ2 H3 fun y H4=>∃ ys,H4 D=some (.lst ys)∧ys.length < sizeLine∧Nx (upd H4 D (.lst (ys++[y]))) else Nx H3)
noncomputable def tComp (mp:List (Option Nat)) (wi:TI) (g:TG) (tt:TT) (te:TE):TE:=fun σ H Q=>wi σ H fun J H1=>∀ D,H1 D=none→CompW J (inSt mp σ) g tt te D (fun H=>Q (.ref D) H) H1
theorem codeAny_compLoop_gen {prog:Program} {w:World} {A:Around} {R:Result→Shared→Prop} {s:Shared} {elt target iter:Expr} {ifs:List Expr} {scope:Scope} {pos:Pos} {it acc:Value} {env:Env} (I:Nat→Shared→Prop)
    (turn:∀ n s,I n s→wpAny (model prog w) A (pyNext it) (fun r s₁=>match r with
      | none=>R (.ok .next) s₁
      | some v=>wpAny (model prog w) A (letOwnedTupleGo target it v) (fun _ s₀=>wpAny (model prog w) A (assign target env v) (fun _ s₂ =>
          wpAny (model prog w) A (forIn ifs true fun c r=>if r=true then do let ok ← isTrue c env (eval c env); pure (ForInStep.yield ok) else pure (ForInStep.yield r)) (fun ok s₃ =>
            if ok=true then wpAny (model prog w) A (eval elt env) (fun x s₄ =>
              wpAny (model prog w) A (call (.builtin "list.append") [acc,x]) (fun _ s₅=>∃ m,m < n∧I m s₅) (fun _ _=>False) s₄) (fun _ _=>False) s₃
            else ∃ m,m < n∧I m s₃) (fun _ _=>False) s₂) (fun _ _=>False) s₀) (fun _ _=>False) s₁) (fun _ _=>False) s)
    (n:Nat) (h:I n s) :
    codeAny (model prog w) A (.compLoop (.ListComp elt [⟨target,iter,ifs,0⟩] scope pos) 0 it acc env) R s:=by
  refine codeAny_loop rfl I (fun n s hI=>?_) n h
  show wpAny _ A ((compTurn (.ListComp elt [⟨target,iter,ifs,0⟩] scope pos) 0 it acc env).onRaise (fun x=>do noteFrame x env; theTreesLotGoes x)) _ _ s
  refine wpAny_noted ?_
  rw [compTurn_list]
  have no:∀ {P:Value→Shared→Prop} (e:Value) (s':Shared),False→P e s':=fun _ _ f=>f.elim
  refine wpAny_bind (wpAny_standAt (wpAny_bind (wpAny_mono (turn n s hI) (fun r s₁ h₁=>?_) no)))
  cases r with
  | none=>exact wpAny_pure h₁
  | some v =>
    refine wpAny_bind (wpAny_mono h₁ (fun _ s₀ h₀=>?_) no)
    refine wpAny_bind (wpAny_mono h₀ (fun _ s₂ h₂=>wpAny_bind (wpAny_mono h₂ (fun ok s₃ h₃=>?_) no)) no)
    cases ok with
    | false=>exact wpAny_pure ⟨rfl,h₃⟩
    | true =>
      exact wpAny_bind (wpAny_bind (wpAny_mono h₃ (fun x s₄ h₄=>wpAny_bind (wpAny_mono h₄ (fun _ s₅ h₅=>wpAny_pure (wpAny_pure ⟨rfl,h₅⟩)) no)) no))
section
variable {X:Cx} {elt iter tg:Expr} {ifs:List Expr} {scope:Scope} {pos:Pos} {N':List Str} {mp:List (Option Nat)} {wi:TI} {g:TG} {tt:TT} {te:TE}
theorem comp_block {pins:List (Addr×Obj)} {σ:St} {H:Hp} {s:Shared} {J:It} {it:Addr} {fp:List Addr} {tn:Nat→Heap→Prop} {Fin:Hp→Prop} {E:Value→Shared→Prop} {RR:Value→Addr→Result→Shared→Prop}
    (hc:X.calm=true) (ck:CompSc X scope N' mp) (hb:∀ s H fp,PG (compCx X scope N' s H fp) tg g∧PTs (compCx X scope N' s H fp) ifs tt∧PE (compCx X scope N' s H fp) elt te)
    (I:Inv X pins σ H s) (T:Turn X.prog X.w X.K tg J fp it tn) (st:tn 0 s.heap) (hf:∀ b∈fp,FpOk X pins H b) (hq:CompW J (inSt mp σ) g tt te s.heap.objs.size Fin H)
    (hRR:∀ (C:Addr) (s':Shared) (H':Hp),Inv X pins σ H' s'→Fin H'→(∃ m,s'.heap.Ns C m)→H' C=none→C≠X.env.locals→X.s₀.heap.objs.size≤C→(∀ x c,X.env.cells.lookup x=some c→c≠C)→(∀ p∈X.pn++pins,p.1≠C)→RR (.ref s.heap.objs.size) C (.ok .next) s') :
    wpAny (model X.prog X.w) X.A (newList []) (fun acc s₃=>wpAny (model X.prog X.w) X.A (newFunctionEnv scope X.env.globals (clOf scope X.env) [] X.env.qual none .none (some X.env)) (fun cenv s₄ =>
      codeAny (model X.prog X.w) X.A (.compStart (.ListComp elt [⟨tg,iter,ifs,0⟩] scope pos) 0 (.ref it) acc { cenv with scope:=relabel scope X.env }) (RR acc cenv.locals) s₄) E s₃) E s:=by
  refine wpAny_newObj_type (wpAny_newFunctionEnv ck.nocell (by intro y hy; simp at hy) (fun h₁ hns₁ hsb₁=>?_) ck.kind)
  dsimp only at hns₁ hsb₁ ⊢
  have I3:Inv X pins σ (upd H s.heap.objs.size (.lst [])) { s with heap:=s.heap.push { cls:=.type "list", dict:=none,data:=.seq ([]:List Value).toArray } }:=I.lnew (its:=[]) (t':=s.toks) .nil (Nat.zero_le _)
  generalize hs3:({ s with heap:=s.heap.push { cls:=.type "list", dict:=none,data:=.seq ([]:List Value).toArray } }:Shared)=s3 at I3
  have e3:s.heap.push { cls:=.type "list", dict:=none,data:=.seq ([]:List Value).toArray }=s3.heap:=by rw [← hs3]
  rw [e3] at hns₁ hsb₁ ⊢
  have sz3:s3.heap.objs.size=s.heap.objs.size+1:=by rw [← e3,Heap.size_push]
  have le3:s.heap.objs.size≤s3.heap.objs.size:=by rw [sz3]; exact Nat.le_succ _
  have fplt:∀ b∈fp,b < s.heap.objs.size:=fun b hb=>by
    obtain ⟨o,e,_⟩:=T.obj 0 _ st b hb
    exact Heap.lt_size e
  have hf3:∀ b∈fp,FpOk X pins (upd H s.heap.objs.size (.lst [])) b:=fun b hb=>⟨by rw [upd_ne (Nat.ne_of_lt (fplt b hb))]; exact (hf b hb).1,(hf b hb).2⟩
  have k1:∀ b o,s3.heap.get? b=some o→h₁.get? b=some o:=fun b o e=>by
    rw [hsb₁.2 b (Nat.ne_of_lt (Heap.lt_size e))]
    exact Heap.get?_push_of_some _ e
  have k0:∀ b o,s.heap.get? b=some o→h₁.get? b=some o:=fun b o e=>k1 b o (by rw [← e3]; exact Heap.get?_push_of_some _ e)
  obtain ⟨W,⟨m0,w0⟩,turn⟩:=hq
  obtain ⟨hg,ht,he⟩:=hb s3 (upd H s.heap.objs.size (.lst [])) fp
  have no:∀ {P:Value→Shared→Prop} (e:Value) (s':Shared),False→P e s':=fun _ _ f=>f.elim
  have stat:∀ {H':Hp},(∀ b∈fp,H' b=none)→∀ b∈fp,FpOk (compCx X scope N' s3 (upd H s.heap.objs.size (.lst [])) fp) [] H' b:=fun hn b hb =>
    ⟨hn b hb,Nat.ne_of_lt (Nat.lt_of_lt_of_le (fplt b hb) le3),fun z=>by
      rcases List.mem_cons.mp (I3.stkSub b z) with z | z
      · exact (hf b hb).2.1 z
      · exact (hf b hb).2.2.1 z,.inl hb,fun x c e=>(hf b hb).2.2.2.2.1 x c (clOf_in (ck.cells I.ok) e),fun p hp=>absurd (show p∈([]:List (Addr×Obj)) from hp) (by simp)⟩
  have loop:∀ tk:Nat,codeAny (model X.prog X.w) X.A (.compLoop (.ListComp elt [⟨tg,iter,ifs,0⟩] scope pos) 0 (.ref it) (.ref s.heap.objs.size) (compEnvC scope (clOf scope X.env) s3.heap.objs.size X.env))
      (RR (.ref s.heap.objs.size) s3.heap.objs.size) { s3 with heap:=h₁,toks:=tk }:=by
    intro tk
    have I4:Inv (compCx X scope N' s3 (upd H s.heap.objs.size (.lst [])) fp) [] (inSt mp σ) (upd H s.heap.objs.size (.lst [])) { s3 with heap:=h₁,toks:=tk } :=
      I3.inner ck hf3 (fun b hb=>Nat.lt_of_lt_of_le (fplt b hb) le3) (by simpa using hns₁) k1
    refine codeAny_compLoop_gen (fun n s'=>∃ i H',Inv (compCx X scope N' s3 (upd H s.heap.objs.size (.lst [])) fp) [] (inSt mp σ) H' s'∧tn i s'.heap∧(∀ b∈fp,H' b=none)∧W i n H') ?_ m0
      ⟨0,_,I4,T.keep _ _ _ st fun b _ o e=>k0 b o e,fun b hb=>(hf3 b hb).1,w0⟩
    rintro n s5 ⟨i,H5,I5,st5,fr5,w5⟩
    rcases turn i n H5 w5 with ⟨stop,fin⟩ | ⟨go,Nx,hN,step⟩
    · refine thn (T.done (compCx X scope N' s3 (upd H s.heap.objs.size (.lst [])) fp) rfl rfl rfl hc i [] s5 (inSt mp σ) H5 _ I5 (stat fr5) st5 stop) fun r s6 ⟨hr,I6⟩=>?_
      subst hr
      have IO:Inv X pins σ H5 s6:=I3.outer hf3 I6
      obtain ⟨m,hm,_⟩:=I6.loc
      refine hRR _ s6 H5 IO fin ⟨m,hm⟩ I6.free (Nat.ne_of_gt I3.lt) I3.sz (fun x c e=>?_) fun p hp=>?_
      · obtain ⟨v,q⟩:=I3.cell x c e
        exact Nat.ne_of_lt q.lt
      · exact Nat.ne_of_lt (Heap.lt_size (I3.pin p hp).1)
    · refine thn (T.item (compCx X scope N' s3 (upd H s.heap.objs.size (.lst [])) fp) rfl rfl rfl hc i [] s5 (inSt mp σ) H5 _ I5 (stat fr5) st5 go) fun r s6 ⟨u,hr,h6⟩=>?_
      subst hr
      refine thn h6 fun _ s7 ⟨x,H7,I7,r7,y7,st7,fr7⟩=>?_
      have I7':=I7.pinned (stat fr7) (T.obj _ _ st7)
      have back:∀ {σ9:St} {H9:Hp} {s9:Shared},Inv (compCx X scope N' s3 (upd H s.heap.objs.size (.lst [])) fp) ([]++pinsAt fp s7.heap) σ9 H9 s9→KeepsSt (inSt mp σ) σ9→Nx H9 →
          ∃ m,m < n∧∃ i H',Inv (compCx X scope N' s3 (upd H s.heap.objs.size (.lst [])) fp) [] (inSt mp σ) H' s9∧tn i s9.heap∧(∀ b∈fp,H' b=none)∧W i m H':=fun {σ9 H9 s9} I9 ks n9=>by
        obtain ⟨m',hm,w9⟩:=hN H9 n9
        refine ⟨m',hm,i+1,H9,(Inv.unpinned (pins:=[]) I9).weak ks.1.symm ks.2,T.keep _ _ _ st7 fun b hb o e=>(I9.pin (b,o) (List.mem_append_right _ (List.mem_append_right _ (mem_pinsAt hb e)))).1,fun b hb=>?_,w9⟩
        obtain ⟨o,e,d⟩:=T.obj _ _ st7 b hb
        exact (I9.pin (b,o) (List.mem_append_right _ (List.mem_append_right _ (mem_pinsAt hb e)))).2.1
      refine thn (hg _ s7 (inSt mp σ) H7 x u _ I7' r7 (step x H7 y7)) fun _ s8 ⟨σ8,H8,I8,ks,q8⟩=>?_
      refine thn (ht _ s8 σ8 H8 _ I8 q8) fun ok s9 ⟨H9,I9,q9⟩=>?_
      cases ok with
      | false =>
        rw [if_neg Bool.false_ne_true] at q9 ⊢
        exact back I9 ks q9
      | true =>
        rw [if_pos rfl] at q9 ⊢
        refine thn (he _ s9 σ8 H9 _ I9 q9) fun y s10 ⟨yv,H10,I10,r10,ys,hD,hlen,nx⟩=>?_
        refine thn (mt_append _ s10 σ8 H10 (.ref s.heap.objs.size) [yv] (.ref s.heap.objs.size) [y] (fun _ H'=>Nx H') I10 rfl (.cons r10 .nil) ⟨_,ys,yv,rfl,rfl,hD,hlen,nx⟩) fun z s11 ⟨zv,H11,I11,_,n11⟩=>?_
        exact back I11 ks n11
  subst hs3
  exact codeAny_compStart_list (loop _) (T.self _ 0 _ _ _ (T.keep _ _ _ st fun b _ o e=>k0 b o e) (loop _))
theorem pe_comp (hc:X.calm=true) (ck:CompSc X scope N' mp) (hi:PI X tg iter wi)
    (hb:∀ s H fp,PG (compCx X scope N' s H fp) tg g∧PTs (compCx X scope N' s H fp) ifs tt∧PE (compCx X scope N' s H fp) elt te)
    (hs:∀ x,foldedSetIterable iter X.env x=pure x:=by intro _; rfl):PE X (.ListComp elt [⟨tg,iter,ifs,0⟩] scope pos) (tComp mp wi g tt te):=by
  intro pins s σ H Q I h
  rw [eval_ListComp]
  refine wpAny_comprehension_free (use:=none) rfl hs (closureFor_eq (ck.cells I.ok)) ck.kind ck.names ?_
  refine thn (hi pins s σ H _ I h) fun v s1 h1=>thn h1 fun itv s2 h2=>?_
  obtain ⟨it,fp,tn,J,H2,e,I2,T,st2,f2,q2⟩:=h2
  subst e
  refine comp_block hc ck hb I2 T st2 f2 (q2 _ (I2.hok.fresh (Nat.le_refl _))) fun C s' H' I' fin hm hC h1 h2 h3 h4=>?_
  obtain ⟨m,hm⟩:=hm
  refine ⟨m,hm,fun h' sb=>⟨.ref _,H',?_,rfl,fin⟩⟩
  exact I'.turned (t':=s'.toks) (fun b o hb e=>(sb.2 b hb).trans e) hC h1 (.inr h2) h3 h4
theorem ps_setComp {i:Nat} {y:Str} {py spos:Pos} (hc:X.calm=true) (hN:X.N.Nodup) (hiy:X.N[i]?=some y) (hy:X.env.scope.names.lookup y=some .local) (ck:CompSc X scope N' mp) (hi:PI X tg iter wi)
    (hb:∀ s H fp,PG (compCx X scope N' s H fp) tg g∧PTs (compCx X scope N' s H fp) ifs tt∧PE (compCx X scope N' s H fp) elt te)
    (hsw:swapsWith (.ListComp elt [⟨tg,iter,ifs,0⟩] scope pos) (some (.Name y py)) spos.line X.env=pure true:=by rfl)
    (hs:∀ x,foldedSetIterable iter X.env x=pure x:=by intro _; rfl) :
    PS X (.Assign [.Name y py] (.ListComp elt [⟨tg,iter,ifs,0⟩] scope pos) spos) (tAsg (tComp mp wi g tt te) (gName i)):=by
  intro pins s σ H D I h
  rw [exec_Assign_Name_used _ _ _ _ hsw]
  refine wpAny_bind (wpAny_standAt (wpAny_bind ?_))
  show wpAny _ X.A (do let _ ← comprehension (.ListComp elt [⟨tg,iter,ifs,0⟩] scope pos) scope X.env _ (newList []) false (eval iter X.env) (some (assign (.Name y py) X.env))) _ _ s
  refine wpAny_bind (wpAny_mono (wpAny_comprehension_free (use:=some (assign (.Name y py) X.env)) (Q:=fun _ s'=>SP X pins D .next s') rfl hs (closureFor_eq (ck.cells I.ok)) ck.kind ck.names ?_) (fun _ s' hq=>wpAny_pure (wpAny_pure hq)) fun _ _ e=>e)
  refine thn (hi pins s σ H _ I h) fun v s1 h1=>thn h1 fun itv s2 h2=>?_
  obtain ⟨it,fp,tn,J,H2,e,I2,T,st2,f2,q2⟩:=h2
  subst e
  refine comp_block hc ck hb I2 T st2 f2 (q2 _ (I2.hok.fresh (Nat.le_refl _))) fun C s' H' I' fin hm hC h1 h2 h3 h4=>?_
  obtain ⟨m,hm⟩:=hm
  refine wpAny_assign_Name (store_ok2 (v:=.ref s2.heap.objs.size) I' hN hiy (.inl hy) rfl (fun s'' I'' ⟨a,sb,ha⟩=>?_) (.inr hy))
  have hCa:C≠a:=by
    rcases ha with ha | ha
    · rw [ha]; exact h1
    · exact fun z=>h3 _ _ ha z.symm
  refine ⟨m,hm.sameBut sb hCa,fun h' sb'=>⟨_,H',?_,fin⟩⟩
  exact I''.turned (t':=s''.toks) (fun b o hb e=>(sb'.2 b hb).trans e) hC h1 (.inr h2) h3 h4
end
end L2
namespace L2.PU
open PySem PySem.Spec PyProof.Rows
noncomputable def nst:Expr→Bool
  | .Starred _ _=>false
  | _=>true
theorem star_of {e:Expr} {es:List Expr} {env:Env} (h:nst e=true):starEach (e::es) env=(false,eval e env)::starEach es env:=by
  cases e <;> first | rfl | cases h
theorem plain_of {pos:Pos} {env:Env}:∀ {es:List Expr},es.all nst=true→(backTo pos (starEach es env)).any (·.1)=false
  | [],_=>rfl
  | e::es,h=>by
    rw [List.all_cons,Bool.and_eq_true] at h
    rw [star_of h.1]
    show (false||(backTo pos (starEach es env)).any (·.1))=false
    rw [plain_of h.2]; rfl
noncomputable def kD:Key→PyData
  | .inl i=>.int i
  | .inr x=>.str x
mutual
noncomputable def Rel (K:PySem.W.Frag) (F:Hp):PyData→V→Prop
  | .none,v=>v=.non
  | .bool b,v=>v=.bl b
  | .int i,v=>v=.int i
  | .str x,v=>v=.str x
  | .tuple ds,v=>∃ a xs,v=.ref a∧SqT K F a xs∧RelL K F ds xs
  | .list ds,v=>∃ a xs,v=.ref a∧SqL K F a xs∧RelL K F ds xs
  | .dict es,v=>∃ a ks,v=.ref a∧Rd F a (.dK ks)∧RelD K F es ks
noncomputable def RelL (K:PySem.W.Frag) (F:Hp):List PyData→List V→Prop
  | [],xs=>xs=[]
  | d::ds,xs=>∃ x r,xs=x::r∧Rel K F d x∧RelL K F ds r
noncomputable def RelD (K:PySem.W.Frag) (F:Hp):List (PyData×PyData)→List (Key×V)→Prop
  | [],ks=>ks=[]
  | (d,e)::es,ks=>∃ k x r,ks=(k,x)::r∧d=kD k∧Rel K F e x∧RelD K F es r
end
section
variable {K:PySem.W.Frag} {F F' H H':Hp}
theorem same_seqT {a:Addr} {xs:List V} (e:Same H H') (h:SqT K H a xs):SqT K H' a xs:=by
  rcases h with (h | ⟨o,h⟩) | h
  · exact .inl (.inl (e _ _ h))
  · exact .inl (.inr ⟨o,e _ _ h⟩)
  · exact .inr h
theorem rd_mono {a:Addr} {u:HO} (e:Same F F') (h:Rd F a u):Rd F' a u:=h.elim (fun h=>.inl (e _ _ h)) fun ⟨o,h⟩=>.inr ⟨o,e _ _ h⟩
theorem same_new {p:Addr} (h:H p=none) (o:HO):Same H (upd H p o):=fun b u q=>by rw [upd_ne (ne_of_none q h)]; exact q
mutual
theorem Rel.mono (e:Same F F'):∀ {d:PyData} {v:V},Rel K F d v→Rel K F' d v
  | .none,v,h=>by unfold Rel at h ⊢; exact h
  | .bool b,v,h=>by unfold Rel at h ⊢; exact h
  | .int i,v,h=>by unfold Rel at h ⊢; exact h
  | .str x,v,h=>by unfold Rel at h ⊢; exact h
  | .tuple ds,v,h=>by
    unfold Rel at h ⊢
    obtain ⟨a,xs,h1,h2,h3⟩:=h
    exact ⟨a,xs,h1,same_seqT e h2,RelL.mono e h3⟩
  | .list ds,v,h=>by
    unfold Rel at h ⊢
    obtain ⟨a,xs,h1,h2,h3⟩:=h
    exact ⟨a,xs,h1,e.seq h2,RelL.mono e h3⟩
  | .dict es,v,h=>by
    unfold Rel at h ⊢
    obtain ⟨a,ks,h1,h2,h3⟩:=h
    exact ⟨a,ks,h1,rd_mono e h2,RelD.mono e h3⟩
theorem RelL.mono (e:Same F F'):∀ {ds:List PyData} {xs:List V},RelL K F ds xs→RelL K F' ds xs
  | [],xs,h=>by unfold RelL at h ⊢; exact h
  | d::ds,xs,h=>by
    unfold RelL at h ⊢
    obtain ⟨x,r,h1,h2,h3⟩:=h
    exact ⟨x,r,h1,Rel.mono e h2,RelL.mono e h3⟩
theorem RelD.mono (e:Same F F'):∀ {es:List (PyData×PyData)} {ks:List (Key×V)},RelD K F es ks→RelD K F' es ks
  | [],ks,h=>by unfold RelD at h ⊢; exact h
  | (d,e')::es,ks,h=>by
    unfold RelD at h ⊢
    obtain ⟨k,x,r,h1,h2,h3,h4⟩:=h
    exact ⟨k,x,r,h1,h2,Rel.mono e h3,RelD.mono e h4⟩
end
theorem rel_dct {es:List (PyData×PyData)} {a:Addr} {ks:List (Key×V)} (h:Rd F a (.dK ks)) (r:RelD K F es ks):Rel K F (.dict es) (.ref a):=by unfold Rel; exact ⟨a,ks,rfl,h,r⟩
theorem RelD.nil:RelD K F [] []:=by unfold RelD; rfl
theorem RelD.nil_of {ks:List (Key×V)} (h:RelD K F [] ks):ks=[]:=by unfold RelD at h; exact h
theorem RelD.cons_of {d e:PyData} {es:List (PyData×PyData)} {ks:List (Key×V)} (h:RelD K F ((d,e)::es) ks):∃ k x r,ks=(k,x)::r∧d=kD k∧Rel K F e x∧RelD K F es r:=by unfold RelD at h; exact h
theorem RelD.cons {k:Key} {e:PyData} {x:V} {es:List (PyData×PyData)} {ks:List (Key×V)} (h:Rel K F e x) (t:RelD K F es ks):RelD K F ((kD k,e)::es) ((k,x)::ks):=by unfold RelD; exact ⟨k,x,ks,rfl,rfl,h,t⟩
noncomputable def prs (kvs:List (Key×PyData)):List (PyData×PyData):=kvs.map fun e=>(kD e.1,e.2)
theorem RelL.nil:RelL K F [] []:=by unfold RelL; rfl
theorem RelL.cons {d:PyData} {ds:List PyData} {x:V} {xs:List V} (h:Rel K F d x) (t:RelL K F ds xs):RelL K F (d::ds) (x::xs):=by unfold RelL; exact ⟨x,xs,rfl,h,t⟩
theorem RelL.nil_of {xs:List V} (h:RelL K F [] xs):xs=[]:=by unfold RelL at h; exact h
theorem RelL.cons_of {d:PyData} {ds:List PyData} {xs:List V} (h:RelL K F (d::ds) xs):∃ x r,xs=x::r∧Rel K F d x∧RelL K F ds r:=by unfold RelL at h; exact h
theorem RelL.length:∀ {ds:List PyData} {xs:List V},RelL K F ds xs→xs.length=ds.length
  | [],xs,h=>by rw [h.nil_of]; rfl
  | d::ds,xs,h=>by
    obtain ⟨x,r,rfl,_,h3⟩:=h.cons_of
    rw [List.length_cons,List.length_cons,RelL.length h3]
theorem RelL.append:∀ {ds es:List PyData} {xs ys:List V},RelL K F ds xs→RelL K F es ys→RelL K F (ds++es) (xs++ys)
  | [],es,xs,ys,h,k=>by rw [h.nil_of]; exact k
  | d::ds,es,xs,ys,h,k=>by
    obtain ⟨x,r,rfl,h2,h3⟩:=h.cons_of
    exact RelL.cons h2 (RelL.append h3 k)
theorem RelL.get:∀ {ds:List PyData} {xs:List V} {i:Nat} {d:PyData},RelL K F ds xs→ds[i]?=some d→∃ x,xs[i]?=some x∧Rel K F d x
  | [],_,_,_,_,e=>by simp at e
  | d::ds,xs,0,_,h,e=>by
    obtain ⟨x,r,rfl,h2,h3⟩:=h.cons_of
    have e':d=_:=Option.some.inj e
    exact ⟨x,rfl,e' ▸ h2⟩
  | d::ds,xs,i+1,d',h,e=>by
    obtain ⟨x,r,rfl,h2,h3⟩:=h.cons_of
    exact RelL.get (i:=i) h3 (by simpa using e)
theorem RelL.take:∀ {ds:List PyData} {xs:List V} (n:Nat),RelL K F ds xs→RelL K F (ds.take n) (xs.take n)
  | _,_,0,_=>by rw [List.take_zero,List.take_zero]; exact .nil
  | [],xs,n+1,h=>by rw [h.nil_of]; exact .nil
  | d::ds,xs,n+1,h=>by
    obtain ⟨x,r,rfl,h2,h3⟩:=h.cons_of
    exact RelL.cons h2 (RelL.take n h3)
theorem RelL.drop:∀ {ds:List PyData} {xs:List V} (n:Nat),RelL K F ds xs→RelL K F (ds.drop n) (xs.drop n)
  | _,_,0,h=>by simpa using h
  | [],xs,n+1,h=>by rw [h.nil_of]; exact .nil
  | d::ds,xs,n+1,h=>by
    obtain ⟨x,r,rfl,h2,h3⟩:=h.cons_of
    exact RelL.drop n h3
theorem Rel.non {v:V} (h:Rel K F .none v):v=.non:=by unfold Rel at h; exact h
theorem Rel.bl {b:Bool} {v:V} (h:Rel K F (.bool b) v):v=.bl b:=by unfold Rel at h; exact h
theorem Rel.int {i:Int} {v:V} (h:Rel K F (.int i) v):v=.int i:=by unfold Rel at h; exact h
theorem Rel.str {x:Str} {v:V} (h:Rel K F (.str x) v):v=.str x:=by unfold Rel at h; exact h
theorem Rel.tup {ds:List PyData} {v:V} (h:Rel K F (.tuple ds) v):∃ a xs,v=.ref a∧SqT K F a xs∧RelL K F ds xs:=by unfold Rel at h; exact h
theorem Rel.lst {ds:List PyData} {v:V} (h:Rel K F (.list ds) v):∃ a xs,v=.ref a∧SqL K F a xs∧RelL K F ds xs:=by unfold Rel at h; exact h
theorem rel_non:Rel K F .none .non:=by unfold Rel; rfl
theorem rel_bl {b:Bool}:Rel K F (.bool b) (.bl b):=by unfold Rel; rfl
theorem rel_int {i:Int}:Rel K F (.int i) (.int i):=by unfold Rel; rfl
theorem rel_str {x:Str}:Rel K F (.str x) (.str x):=by unfold Rel; rfl
theorem rel_tup {ds:List PyData} {a:Addr} {xs:List V} (h:SqT K F a xs) (r:RelL K F ds xs):Rel K F (.tuple ds) (.ref a):=by unfold Rel; exact ⟨a,xs,rfl,h,r⟩
theorem rel_lst {ds:List PyData} {a:Addr} {xs:List V} (h:SqL K F a xs) (r:RelL K F ds xs):Rel K F (.list ds) (.ref a):=by unfold Rel; exact ⟨a,xs,rfl,h,r⟩
theorem RelL.ints:∀ (ns:List Int),RelL K F (ns.map PyData.int) (ns.map V.int)
  | []=>.nil
  | _::r=>.cons rel_int (RelL.ints r)
structure Gr (F H F' H':Hp):Prop where
  ff:Same F F'
  hh:Same H H'
  fh:Same F' H'
  new:∀ b,F' b≠none→F b≠none∨H b=none
theorem Gr.refl (h:Same F H):Gr F H F H:=⟨.refl _,.refl _,h,fun _ q=>.inl q⟩
theorem Gr.trans {F1 H1 F2 H2:Hp} (a:Gr F H F1 H1) (b:Gr F1 H1 F2 H2):Gr F H F2 H2 :=
  ⟨a.ff.trans b.ff,a.hh.trans b.hh,b.fh,fun c q=>(b.new c q).elim (fun q=>a.new c q) fun q=>.inr (a.hh.free q)⟩
theorem Gr.one {p:Addr} {o:HO} (h:Same F H) (hp:H p=none):Gr F H (upd F p o) (upd H p o) where
  ff:=same_new (h.free hp) o
  hh:=same_new hp o
  fh:=fun b u q=>by
    by_cases e:b=p
    · subst e; rw [upd_same] at q ⊢; exact q
    · rw [upd_ne e] at q ⊢; exact h _ _ q
  new:=fun b q=>by
    by_cases e:b=p
    · subst e; exact .inr hp
    · rw [upd_ne e] at q; exact .inl q
end
inductive Sl where
  | un
  | val (d:PyData)
  | own (ds:List PyData)
  | odc (kvs:List (Key×PyData))
  | ob (fs:Str→Option PyData)
noncomputable abbrev En:=List Sl
noncomputable def isOwn:Sl→Bool
  | .own _=>true
  | .odc _=>true
  | _=>false
noncomputable def CellR (K:PySem.W.Frag) (F:Hp):Sl→HO→Prop
  | .own ds,o=>∃ xs,o=.lst xs∧RelL K F ds xs
  | .odc kvs,o=>∃ ks,o=.dK ks∧RelD K F (prs kvs) ks
  | _,_=>False
noncomputable def ObF (K:PySem.W.Frag) (C:Addr) (F:Hp) (fs:Str→Option PyData) (xs:List (Str×V)):Prop:=∀ f d,fs f=some d→NoAttr K C f∧∃ v,xs.lookup f=some v∧Rel K F d v
structure EnR (K:PySem.W.Frag) (He F H:Hp) (σ:St) (η:En):Prop where
  len:η.length=σ.length
  val:∀ (i:Nat) d,η[i]?=some (.val d)→∃ v,σ[i]?=some (some v)∧Rel K F d v
  cel:∀ (i:Nat) sl,η[i]?=some sl→isOwn sl=true→∃ p o,σ[i]?=some (some (.ref p))∧F p=none∧He p=none∧H p=some o∧CellR K F sl o
  apart:∀ (i j:Nat) a b,η[i]?=some a→η[j]?=some b→isOwn a=true→isOwn b=true→i≠j→σ[i]?≠σ[j]?
  obs:∀ (i:Nat) fs,η[i]?=some (.ob fs)→∃ p C dx xs,σ[i]?=some (some (.ref p))∧H p=some (.ins C dx xs)∧Cls K C∧ObF K C F fs xs
structure Bd where
  F:Hp
  H:Hp
structure SR (K:PySem.W.Frag) (B:Bd) (F H:Hp) (σ:St) (η:En):Prop where
  gr:Gr B.F B.H F H
  en:EnR K B.H F H σ η
section
variable {K:PySem.W.Frag} {B:Bd} {F H F' H':Hp} {σ:St} {η:En}
theorem CellR.mono (e:Same F F'):∀ {sl:Sl} {o:HO},CellR K F sl o→CellR K F' sl o
  | .own _,_,⟨xs,h1,h2⟩=>⟨xs,h1,h2.mono e⟩
  | .odc _,_,⟨xs,h1,h2⟩=>⟨xs,h1,h2.mono e⟩
  | .un,_,h=>h.elim
  | .val _,_,h=>h.elim
  | .ob _,_,h=>h.elim
theorem ObF.mono {C:Addr} {fs:Str→Option PyData} {xs:List (Str×V)} (e:Same F F') (h:ObF K C F fs xs):ObF K C F' fs xs:=fun f d q=>let ⟨a,v,b,c⟩:=h f d q; ⟨a,v,b,c.mono e⟩
theorem EnR.own {He:Hp} (r:EnR K He F H σ η) (i:Nat) (ds:List PyData) (e:η[i]?=some (.own ds)):∃ p xs,σ[i]?=some (some (.ref p))∧F p=none∧He p=none∧H p=some (.lst xs)∧RelL K F ds xs:=by
  obtain ⟨p,o,h1,h2,h3,h4,xs,rfl,h5⟩:=r.cel i _ e rfl
  exact ⟨p,xs,h1,h2,h3,h4,h5⟩
theorem EnR.odc {He:Hp} (r:EnR K He F H σ η) (i:Nat) (kvs:List (Key×PyData)) (e:η[i]?=some (.odc kvs)):∃ p ks,σ[i]?=some (some (.ref p))∧F p=none∧He p=none∧H p=some (.dK ks)∧RelD K F (prs kvs) ks:=by
  obtain ⟨p,o,h1,h2,h3,h4,xs,rfl,h5⟩:=r.cel i _ e rfl
  exact ⟨p,xs,h1,h2,h3,h4,h5⟩
theorem EnR.grow {He:Hp} (r:EnR K He F H σ η) (g:Gr F H F' H'):EnR K He F' H' σ η where
  len:=r.len
  val:=fun i d e=>let ⟨v,e1,e2⟩:=r.val i d e; ⟨v,e1,e2.mono g.ff⟩
  cel:=fun i sl e hs=>by
    obtain ⟨p,o,e1,e2,e3,e4,e5⟩:=r.cel i sl e hs
    refine ⟨p,o,e1,?_,e3,g.hh _ _ e4,e5.mono g.ff⟩
    cases q:F' p with
    | none=>rfl
    | some o =>
      rcases g.new p (by rw [q]; simp) with z | z
      · exact absurd e2 z
      · rw [e4] at z; cases z
  apart:=r.apart
  obs:=fun i fs e=>let ⟨p,C,dx,xs,e1,e2,e3,e4⟩:=r.obs i fs e; ⟨p,C,dx,xs,e1,g.hh _ _ e2,e3,e4.mono g.ff⟩
theorem SR.grow (r:SR K B F H σ η) (g:Gr F H F' H'):SR K B F' H' σ η:=⟨r.gr.trans g,r.en.grow g⟩
theorem SR.same (r:SR K B F H σ η):Same F H:=r.gr.fh
theorem EnR.set {He:Hp} (r:EnR K He F H σ η) (i:Nat) {d:PyData} {v:V} (h:Rel K F d v):EnR K He F H (σ.set i (some v)) (η.set i (.val d)) where
  len:=by rw [List.length_set,List.length_set]; exact r.len
  val:=fun j d' e=>by
    by_cases hj:i=j
    · subst hj
      by_cases hl:i < η.length
      · rw [List.getElem?_set_self hl] at e
        have e':d=d':=by injection (Option.some.inj e)
        subst e'
        exact ⟨v,by rw [List.getElem?_set_self (by rw [← r.len]; exact hl)],h⟩
      · rw [List.getElem?_eq_none (by rw [List.length_set]; omega)] at e; cases e
    · rw [List.getElem?_set_ne hj] at e ⊢; exact r.val j d' e
  cel:=fun j sl e hs=>by
    by_cases hj:i=j
    · subst hj
      by_cases hl:i < η.length
      · rw [List.getElem?_set_self hl] at e
        have e':Sl.val d=sl:=Option.some.inj e
        subst e'
        cases hs
      · rw [List.getElem?_eq_none (by rw [List.length_set]; omega)] at e; cases e
    · rw [List.getElem?_set_ne hj] at e ⊢; exact r.cel j sl e hs
  apart:=fun j k a b ej ek ha hb hjk=>by
    have no:∀ (j:Nat) a,(η.set i (.val d))[j]?=some a→isOwn a=true→i≠j:=fun j a ej ha hj=>by
      subst hj
      by_cases hl:i < η.length
      · rw [List.getElem?_set_self hl] at ej
        have e':Sl.val d=a:=Option.some.inj ej
        subst e'
        cases ha
      · rw [List.getElem?_eq_none (by rw [List.length_set]; omega)] at ej; cases ej
    have nj:=no j a ej ha
    have nk:=no k b ek hb
    rw [List.getElem?_set_ne nj] at ej ⊢
    rw [List.getElem?_set_ne nk] at ek ⊢
    exact r.apart j k a b ej ek ha hb hjk
  obs:=fun j fs e=>by
    by_cases hj:i=j
    · subst hj
      by_cases hl:i < η.length
      · rw [List.getElem?_set_self hl] at e; cases e
      · rw [List.getElem?_eq_none (by rw [List.length_set]; omega)] at e; cases e
    · rw [List.getElem?_set_ne hj] at e ⊢; exact r.obs j fs e
theorem EnR.setCell {He:Hp} (r:EnR K He F H σ η) (i:Nat) {sl:Sl} {p:Addr} {o:HO} (hsl:isOwn sl=true) (h1:F p=none) (h2:He p=none) (h3:H p=some o) (h4:CellR K F sl o)
    (h5:∀ (j:Nat),σ[j]?=some (some (.ref p))→∀ a,η[j]?=some a→isOwn a=false):EnR K He F H (σ.set i (some (.ref p))) (η.set i sl) where
  len:=by rw [List.length_set,List.length_set]; exact r.len
  val:=fun j d' e=>by
    by_cases hj:i=j
    · subst hj
      by_cases hl:i < η.length
      · rw [List.getElem?_set_self hl] at e
        have e':sl=.val d':=Option.some.inj e
        subst e'
        cases hsl
      · rw [List.getElem?_eq_none (by rw [List.length_set]; omega)] at e; cases e
    · rw [List.getElem?_set_ne hj] at e ⊢; exact r.val j d' e
  cel:=fun j a e ha=>by
    by_cases hj:i=j
    · subst hj
      by_cases hl:i < η.length
      · rw [List.getElem?_set_self hl] at e
        have e':sl=a:=Option.some.inj e
        subst e'
        exact ⟨p,o,by rw [List.getElem?_set_self (by rw [← r.len]; exact hl)],h1,h2,h3,h4⟩
      · rw [List.getElem?_eq_none (by rw [List.length_set]; omega)] at e; cases e
    · rw [List.getElem?_set_ne hj] at e ⊢; exact r.cel j a e ha
  apart:=fun j k a b ej ek ha hb hjk=>by
    by_cases hj:i=j
    · subst hj
      have hl:i < η.length:=by
        by_cases hl:i < η.length
        · exact hl
        · rw [List.getElem?_eq_none (by rw [List.length_set]; omega)] at ej; cases ej
      rw [List.getElem?_set_ne hjk] at ek ⊢
      rw [List.getElem?_set_self (by rw [← r.len]; exact hl)]
      exact fun z=>by rw [h5 k z.symm b ek] at hb; cases hb
    · by_cases hk:i=k
      · subst hk
        have hl:i < η.length:=by
          by_cases hl:i < η.length
          · exact hl
          · rw [List.getElem?_eq_none (by rw [List.length_set]; omega)] at ek; cases ek
        rw [List.getElem?_set_ne hj] at ej ⊢
        rw [List.getElem?_set_self (by rw [← r.len]; exact hl)]
        exact fun z=>by rw [h5 j z a ej] at ha; cases ha
      · rw [List.getElem?_set_ne hj] at ej ⊢
        rw [List.getElem?_set_ne hk] at ek ⊢
        exact r.apart j k a b ej ek ha hb hjk
  obs:=fun j fs e=>by
    by_cases hj:i=j
    · subst hj
      by_cases hl:i < η.length
      · rw [List.getElem?_set_self hl] at e
        have e':sl=.ob fs:=Option.some.inj e
        subst e'
        cases hsl
      · rw [List.getElem?_eq_none (by rw [List.length_set]; omega)] at e; cases e
    · rw [List.getElem?_set_ne hj] at e ⊢; exact r.obs j fs e
theorem EnR.setOwn {He:Hp} (r:EnR K He F H σ η) (i:Nat) {ds:List PyData} {p:Addr} {xs:List V} (h1:F p=none) (h2:He p=none) (h3:H p=some (.lst xs)) (h4:RelL K F ds xs)
    (h5:∀ (j:Nat),σ[j]?=some (some (.ref p))→∀ a,η[j]?=some a→isOwn a=false):EnR K He F H (σ.set i (some (.ref p))) (η.set i (.own ds)):=r.setCell i rfl h1 h2 h3 ⟨xs,rfl,h4⟩ h5
theorem EnR.notown {He:Hp} (r:EnR K He F H σ η) {p:Addr} (h:H p=none):∀ (j:Nat),σ[j]?=some (some (.ref p))→∀ a,η[j]?=some a→isOwn a=false:=fun j e a z=>by
  cases ha:isOwn a with
  | false=>rfl
  | true =>
    obtain ⟨q,o,e1,_,_,e4,_⟩:=r.cel j a z ha
    rw [e] at e1
    have:p=q:=by injection (Option.some.inj (Option.some.inj e1))
    rw [this,e4] at h; cases h
theorem SR.freezeCell (r:SR K B F H σ η) {i:Nat} {sl:Sl} {d:PyData} {p:Addr} {o:HO} (hi:η[i]?=some sl) (hs:isOwn sl=true) (e1:σ[i]?=some (some (.ref p))) (e2:F p=none) (e3:B.H p=none) (e4:H p=some o) (rel:Rel K (upd F p o) d (.ref p)) :
    Same F (upd F p o)∧SR K B (upd F p o) H σ (η.set i (.val d)):=by
  have sn:=same_new (H:=F) e2 o
  refine ⟨sn,⟨⟨r.gr.ff.trans sn,r.gr.hh,?_,?_⟩,?_⟩⟩
  · intro b u q
    by_cases e:b=p
    · subst e; rw [upd_same] at q; rw [← q]; exact e4
    · rw [upd_ne e] at q; exact r.gr.fh _ _ q
  · intro b q
    by_cases e:b=p
    · subst e; exact .inr e3
    · rw [upd_ne e] at q; exact r.gr.new b q
  · refine ⟨by rw [List.length_set]; exact r.en.len,fun j d' e=>?_,fun j a e ha=>?_,fun j k a b ej ek ha hb hjk=>?_,fun j fs e=>?_⟩
    · by_cases hj:i=j
      · subst hj
        rw [List.getElem?_set_self (List.getElem?_eq_some_iff.mp hi).1] at e
        have e':d=d':=by injection (Option.some.inj e)
        subst e'
        exact ⟨_,e1,rel⟩
      · rw [List.getElem?_set_ne hj] at e
        obtain ⟨v,q1,q2⟩:=r.en.val j d' e
        exact ⟨v,q1,q2.mono sn⟩
    · by_cases hj:i=j
      · subst hj
        rw [List.getElem?_set_self (List.getElem?_eq_some_iff.mp hi).1] at e
        have e':Sl.val d=a:=Option.some.inj e
        subst e'
        cases ha
      · rw [List.getElem?_set_ne hj] at e
        obtain ⟨q,o1,q1,q2,q3,q4,q5⟩:=r.en.cel j a e ha
        refine ⟨q,o1,q1,?_,q3,q4,q5.mono sn⟩
        rw [upd_ne]
        · exact q2
        · intro z
          subst z
          exact r.en.apart i j sl a hi e hs ha hj (by rw [e1,q1])
    · have no:∀ (j:Nat) a,(η.set i (.val d))[j]?=some a→isOwn a=true→i≠j:=fun j a ej ha hj=>by
        subst hj
        rw [List.getElem?_set_self (List.getElem?_eq_some_iff.mp hi).1] at ej
        have e':Sl.val d=a:=Option.some.inj ej
        subst e'
        cases ha
      have nj:=no j a ej ha
      have nk:=no k b ek hb
      rw [List.getElem?_set_ne nj] at ej
      rw [List.getElem?_set_ne nk] at ek
      exact r.en.apart j k a b ej ek ha hb hjk
    · by_cases hj:i=j
      · subst hj
        rw [List.getElem?_set_self (List.getElem?_eq_some_iff.mp hi).1] at e; cases e
      · rw [List.getElem?_set_ne hj] at e
        obtain ⟨q,C,dx,xs,q1,q2,q3,q4⟩:=r.en.obs j fs e
        exact ⟨q,C,dx,xs,q1,q2,q3,q4.mono sn⟩
theorem SR.freeze (r:SR K B F H σ η) {i:Nat} {ds:List PyData} (hi:η[i]?=some (.own ds)):∃ F' p,σ[i]?=some (some (.ref p))∧Same F F'∧SR K B F' H σ (η.set i (.val (.list ds)))∧Rel K F' (.list ds) (.ref p):=by
  obtain ⟨p,xs,e1,e2,e3,e4,e5⟩:=r.en.own i ds hi
  have rel:Rel K (upd F p (.lst xs)) (.list ds) (.ref p):=rel_lst (SqL.of upd_same) (e5.mono (same_new (H:=F) e2 (.lst xs)))
  obtain ⟨h1,h2⟩:=r.freezeCell hi rfl e1 e2 e3 e4 rel
  exact ⟨_,p,e1,h1,h2,rel⟩
theorem SR.freezeD (r:SR K B F H σ η) {i:Nat} {kvs:List (Key×PyData)} (hi:η[i]?=some (.odc kvs)):∃ F' p,σ[i]?=some (some (.ref p))∧Same F F'∧SR K B F' H σ (η.set i (.val (.dict (prs kvs))))∧Rel K F' (.dict (prs kvs)) (.ref p):=by
  obtain ⟨p,ks,e1,e2,e3,e4,e5⟩:=r.en.odc i kvs hi
  have rel:Rel K (upd F p (.dK ks)) (.dict (prs kvs)) (.ref p):=rel_dct (.inl upd_same) (e5.mono (same_new (H:=F) e2 (.dK ks)))
  obtain ⟨h1,h2⟩:=r.freezeCell hi rfl e1 e2 e3 e4 rel
  exact ⟨_,p,e1,h1,h2,rel⟩
end
section
variable (K:PySem.W.Frag) (B:Bd)
noncomputable def tE (f:En→Option PyData):TE:=fun σ H Q=>∃ F η d,SR K B F H σ η∧f η=some d∧∀ v F' H',Gr F H F' H'→Rel K F' d v→Q v H'
noncomputable def tO (f:En→Option (List PyData)):TE:=fun σ H Q=>∃ F η ds,SR K B F H σ η∧f η=some ds∧∀ p xs F' H',Gr F H F' H'→H p=none→F' p=none→H' p=some (.lst xs)→RelL K F' ds xs→Q (.ref p) H'
noncomputable def tT (f:En→Option Bool):TT:=fun σ H Q=>∃ F η b,SR K B F H σ η∧f η=some b∧∀ F' H',Gr F H F' H'→Q b H'
noncomputable def tA (f:En→Option (List PyData)):TA:=fun σ H Q=>∃ F η ds,SR K B F H σ η∧f η=some ds∧∀ vs F' H',Gr F H F' H'→RelL K F' ds vs→Q vs H'
end
noncomputable def E (X:Cx) (B:Bd) (e:Expr) (f:En→Option PyData):Prop:=PE X e (tE X.K B f)
noncomputable def EO (X:Cx) (B:Bd) (e:Expr) (f:En→Option (List PyData)):Prop:=PE X e (tO X.K B f)
noncomputable def T (X:Cx) (B:Bd) (e:Expr) (f:En→Option Bool):Prop:=PT X e (tT X.K B f)
noncomputable def TW (X:Cx) (B:Bd) (e:Expr) (f:En→Option Bool):Prop:=PW X e (tT X.K B f)
noncomputable def A (X:Cx) (B:Bd) (es:List Expr) (f:En→Option (List PyData)):Prop:=PA X es (tA X.K B f)
theorem PE.imp {X:Cx} {e:Expr} {t t':TE} (h:PE X e t) (i:∀ σ H Q,t' σ H Q→t σ H Q):PE X e t':=fun pins s σ H Q I q=>h pins s σ H Q I (i σ H Q q)
theorem PT.imp {X:Cx} {e:Expr} {t t':TT} (h:PT X e t) (i:∀ σ H Q,t' σ H Q→t σ H Q):PT X e t':=fun pins s σ H Q I q=>h pins s σ H Q I (i σ H Q q)
theorem PW.imp {X:Cx} {e:Expr} {t t':TT} (h:PW X e t) (i:∀ σ H Q,t' σ H Q→t σ H Q):PW X e t':=fun wh pins s σ H Q I q=>h wh pins s σ H Q I (i σ H Q q)
theorem PA.imp {X:Cx} {e:List Expr} {t t':TA} (h:PA X e t) (i:∀ σ H Q,t' σ H Q→t σ H Q):PA X e t':=fun pos pins s σ H Q I q=>h pos pins s σ H Q I (i σ H Q q)
noncomputable def eV (i:Nat):En→Option PyData:=fun η=>match η[i]? with | some (.val d)=>some d | _=>none
noncomputable def eC (d:PyData):En→Option PyData:=fun _=>some d
noncomputable def l1 (o:PyData→Option PyData) (f:En→Option PyData):En→Option PyData:=fun η=>(f η).bind o
noncomputable def l2 (o:PyData→PyData→Option PyData) (f g:En→Option PyData):En→Option PyData:=fun η=>(f η).bind fun x=>(g η).bind fun y=>o x y
noncomputable def aN:En→Option (List PyData):=fun _=>some []
noncomputable def aC (f:En→Option PyData) (g:En→Option (List PyData)):En→Option (List PyData):=fun η=>(f η).bind fun x=>(g η).bind fun xs=>some (x::xs)
noncomputable def lA (o:List PyData→Option PyData) (f:En→Option (List PyData)):En→Option PyData:=fun η=>(f η).bind o
section
variable {X:Cx} {B:Bd} {a b c e:Expr} {es:List Expr} {f g h:En→Option PyData} {fs:En→Option (List PyData)} {pos:Pos}
theorem bind_some {α β:Type} {o:Option α} {k:α→Option β} {y:β} (h:o.bind k=some y):∃ x,o=some x∧k x=some y:=by
  cases o with
  | none=>cases h
  | some x=>exact ⟨x,rfl,h⟩
noncomputable def Ad2 (K:PySem.W.Frag) (r:R2) (o:PyData→PyData→Option PyData):Prop :=
  ∀ F H x y dx dy d Q,Same F H→Rel K F dx x→Rel K F dy y→o dx dy=some d→(∀ v F' H',Gr F H F' H'→Rel K F' d v→Q v H')→r x y H Q
theorem t2 {K:PySem.W.Frag} {r:R2} {o:PyData→PyData→Option PyData} (ad:Ad2 K r o):∀ σ H Q,tE K B (l2 o f g) σ H Q→tOp r (tE K B f) (tE K B g) σ H Q:=by
  intro σ H Q ⟨F,η,d,sr,hd,q⟩
  obtain ⟨x,hx,hd⟩:=bind_some hd
  obtain ⟨y,hy,hd⟩:=bind_some hd
  refine ⟨F,η,x,sr,hx,fun v F1 H1 g1 rv=>⟨F1,η,y,sr.grow g1,hy,fun u F2 H2 g2 ru=>?_⟩⟩
  exact ad F2 H2 v u x y d Q g2.fh (rv.mono g2.ff) ru hd fun w F3 H3 g3 rw'=>q w F3 H3 ((g1.trans g2).trans g3) rw'
theorem E.op {op:Operator} {r:R2} {o:PyData→PyData→Option PyData} (ho:OpR X (binaryOp op) r) (ad:Ad2 X.K r o) (ha:E X B a f) (hb:E X B b g):E X B (.BinOp a op b pos) (l2 o f g) :=
  PE.imp (pe_op ho ha hb) (t2 ad)
theorem E.cmp {op:CmpOp} {r:R2} {o:PyData→PyData→Option PyData} (ho:OpR X (compareOp op) r) (ad:Ad2 X.K r o) (hm:behindInMarks op b=false) (ha:E X B a f) (hb:E X B b g):E X B (.Compare a [op] [b] pos) (l2 o f g) :=
  PE.imp (pe_cmpR ho ha hb hm) (t2 ad)
theorem E.ix {r:R2} {o:PyData→PyData→Option PyData} (hr:IxR X r) (ad:Ad2 X.K r o) (ha:E X B a f) (hb:E X B b g) (hs:PlainIx b:=by intro _ _; rfl):E X B (.Subscript a b pos) (l2 o f g) :=
  PE.imp (pe_ix hr ha hb hs) (t2 ad)
theorem E.v (i:Nat) {x:Str} (hN:X.N[i]?=some x:=by rfl) (hv:Vis X.env.scope x:=by first | exact Or.inl rfl | exact Or.inr (Or.inl rfl) | exact Or.inr (Or.inr rfl)) (hd:(x==("__debug__" : Str))=false:=by decide)
    (hcd:(x==("__classdict__" : Str))=false:=by decide):E X B (.Name x pos) (eV i) :=
  PE.imp (pe_var hN hv hd hcd) fun σ H Q ⟨F,η,d,sr,hd,q⟩=>by
    unfold eV at hd
    split at hd
    · rename_i d' e
      cases hd
      obtain ⟨v,e1,e2⟩:=sr.en.val i d e
      exact ⟨v,e1,q v F H (.refl sr.same) e2⟩
    · cases hd
theorem tC_of {K:PySem.W.Frag} {v:V} {d:PyData} (h:∀ F,Rel K F d v):∀ σ H Q,tE K B (eC d) σ H Q→tC v σ H Q:=fun σ H Q ⟨F,η,d',sr,hd,q⟩=>by
  have e:d=d':=Option.some.inj hd
  subst e
  exact q v F H (.refl sr.same) (h F)
theorem E.int {i:Int} {j}:E X B (.Constant (.int i) j pos) (eC (.int i)):=PE.imp pe_int (tC_of fun _=>rel_int)
theorem E.bl {i:Bool} {j}:E X B (.Constant (.bool i) j pos) (eC (.bool i)):=PE.imp pe_bl (tC_of fun _=>rel_bl)
theorem E.str {i:Str} {j}:E X B (.Constant (.str i) j pos) (eC (.str i)):=PE.imp pe_str (tC_of fun _=>rel_str)
theorem E.glob {x:Str} {v:V} {u:Value} {d:PyData} (hm:X.mg x=some u) (r:RelV v u) (h:∀ F,Rel X.K F d v) (hg:Gl X x:=by rfl) (hd:(x==("__debug__" : Str))=false:=by decide):E X B (.Name x pos) (eC d) :=
  PE.imp (pe_glob hg hm r hd) (tC_of h)
theorem A.nil:A X B [] aN:=PA.imp pa_nil fun σ H Q ⟨F,η,d,sr,hd,q⟩=>by
  cases hd
  exact q [] F H (.refl sr.same) .nil
theorem A.cons (ha:E X B e f) (hr:A X B es fs) (hs:starEach (e::es) X.env=(false,eval e X.env)::starEach es X.env:=by exact star_of rfl):A X B (e::es) (aC f fs):=PA.imp (pa_cons ha hr hs) fun σ H Q ⟨F,η,d,sr,hd,q⟩=>by
  obtain ⟨x,hx,hd⟩:=bind_some hd
  obtain ⟨y,hy,hd⟩:=bind_some hd
  cases hd
  exact ⟨F,η,x,sr,hx,fun v F1 H1 g1 rv=>⟨F1,η,y,sr.grow g1,hy,fun vs F2 H2 g2 rs=>q (v::vs) F2 H2 (g1.trans g2) (.cons (rv.mono g2.ff) rs)⟩⟩
noncomputable def gL (ds:List PyData):Option (List PyData):=if ds.length≤sizeLine then some ds else none
theorem E.tup {x1} (hs:A X B es fs):E X B (.Tuple es x1 pos) (lA (fun ds=>if ds.length≤sizeLine then some (.tuple ds) else none) fs):=PE.imp (pe_tup hs) fun σ H Q ⟨F,η,d,sr,hd,q⟩=>by
  obtain ⟨ds,hx,hd⟩:=bind_some hd
  split at hd
  · rename_i hl
    cases hd
    refine ⟨F,η,ds,sr,hx,fun vs F1 H1 g1 rs=>⟨by rw [rs.length]; exact hl,fun p hp=>?_⟩⟩
    have g2:Gr F1 H1 (upd F1 p (.tup vs)) (upd H1 p (.tup vs)):=Gr.one g1.fh hp
    exact q _ _ _ (g1.trans g2) (rel_tup (SqT.of upd_same) (rs.mono g2.ff))
  · cases hd
theorem EO.lst (hs:A X B es fs):EO X B (.List es pos) (fun η=>(fs η).bind gL):=PE.imp (pe_lst hs) fun σ H Q ⟨F,η,ds,sr,hd,q⟩=>by
  obtain ⟨ds',hx,hd⟩:=bind_some hd
  unfold gL at hd
  split at hd
  · rename_i hl
    cases hd
    refine ⟨F,η,ds,sr,hx,fun vs F1 H1 g1 rs=>⟨by rw [rs.length]; exact hl,fun p hp=>?_⟩⟩
    refine q p vs F1 (upd H1 p (.lst vs)) ?_ (g1.hh.free hp) (g1.fh.free hp) upd_same rs
    refine ⟨g1.ff,g1.hh.trans (same_new hp _),fun b u z=>?_,g1.new⟩
    exact same_new hp _ b u (g1.fh b u z)
  · cases hd
noncomputable def oE (f:En→Option (List PyData)):En→Option PyData:=fun η=>(f η).bind fun ds=>some (.list ds)
theorem EO.toE (he:EO X B e fs):E X B e (oE fs):=PE.imp he fun σ H Q ⟨F,η,d,sr,hd,q⟩=>by
  obtain ⟨ds,hx,hd⟩:=bind_some hd
  cases hd
  refine ⟨F,η,ds,sr,hx,fun p xs F' H' g1 hp fp hp' rs=>?_⟩
  have sn:=same_new (H:=F') fp (.lst xs)
  refine q (.ref p) (upd F' p (.lst xs)) H' ⟨g1.ff.trans sn,g1.hh,fun b u z=>?_,fun b z=>?_⟩ (rel_lst (SqL.of upd_same) (rs.mono sn))
  · by_cases e:b=p
    · subst e; rw [upd_same] at z; rw [← z]; exact hp'
    · rw [upd_ne e] at z; exact g1.fh _ _ z
  · by_cases e:b=p
    · subst e; exact .inr hp
    · rw [upd_ne e] at z; exact g1.new b z
noncomputable def asB:PyData→Option Bool
  | .bool b=>some b
  | _=>none
noncomputable def bT (f:En→Option PyData):En→Option Bool:=fun η=>(f η).bind asB
theorem asB_some {d:PyData} {b:Bool} (h:asB d=some b):d=.bool b:=by
  cases d <;> simp [asB] at h
  rw [h]
theorem T.val (he:E X B e f) (hi:∀ whole,isTrue e X.env whole=(do let v ← whole; standAt e.pos; holding [v] (truthy v)):=by intro _; rfl):T X B e (bT f):=PT.imp (pt_val he hi) fun σ H Q ⟨F,η,b,sr,hd,q⟩=>by
  obtain ⟨x,hx,hd⟩:=bind_some hd
  obtain rfl:=asB_some hd
  exact ⟨F,η,_,sr,hx,fun v F1 H1 g1 rv=>⟨b,rv.bl,q F1 H1 g1⟩⟩
theorem T.cmp {op:CmpOp} {r:R2} {o:PyData→PyData→Option PyData} (ho:OpR X (compareOp op) r) (ad:Ad2 X.K r o) (hm:behindInMarks op b=false) (ha:E X B a f) (hb:E X B b g):T X B (.Compare a [op] [b] pos) (bT (l2 o f g)) :=
  PT.imp (pt_cmpR ho ha hb hm) fun σ H Q ⟨F,η,b,sr,hd,q⟩=>by
    obtain ⟨x,hx,hd⟩:=bind_some hd
    obtain rfl:=asB_some hd
    exact t2 ad σ H _ ⟨F,η,_,sr,hx,fun v F1 H1 g1 rv=>⟨b,rv.bl,q F1 H1 g1⟩⟩
noncomputable def lch (o o':PyData→PyData→Option PyData) (f g h:En→Option PyData):En→Option PyData:=fun η=>(f η).bind fun x=>(g η).bind fun y=>(o x y).bind fun z=>(asB z).bind fun k =>
  if k=true then (h η).bind fun w=>o' y w else some (.bool false)
noncomputable def bAnd (f g:En→Option Bool):En→Option Bool:=fun η=>(f η).bind fun c=>if c=true then g η else some false
noncomputable def bOr (f g:En→Option Bool):En→Option Bool:=fun η=>(f η).bind fun c=>if c=true then some true else g η
noncomputable def bNot (f:En→Option Bool):En→Option Bool:=fun η=>(f η).bind fun c=>some (!c)
variable {p q r:En→Option Bool} {rest:List Expr}
theorem T.not (ha:T X B a p):T X B (.UnaryOp .Not a pos) (bNot p):=PT.imp (pt_not ha) fun σ H Q ⟨F,η,b,sr,hd,q⟩=>by
  obtain ⟨x,hx,hd⟩:=bind_some hd
  cases hd
  exact ⟨F,η,x,sr,hx,q⟩
theorem TW.t (h:TW X B a p):T X B a p:=PW.pt h
theorem TW.and1 (ha:T X B a p):TW X B (.BoolOp .And [a] pos) p:=pw_and1 ha
theorem TW.and (ha:T X B a p) (hb:TW X B (.BoolOp .And (b::rest) pos) q):TW X B (.BoolOp .And (a::b::rest) pos) (bAnd p q):=PW.imp (pw_and ha hb) fun σ H Q ⟨F,η,b,sr,hd,k⟩=>by
  obtain ⟨x,hx,hd⟩:=bind_some hd
  refine ⟨F,η,x,sr,hx,fun F1 H1 g1=>?_⟩
  cases x with
  | false =>
    rw [if_neg Bool.false_ne_true] at hd ⊢
    cases hd
    exact k F1 H1 g1
  | true =>
    rw [if_pos rfl] at hd ⊢
    exact ⟨F1,η,b,sr.grow g1,hd,fun F2 H2 g2=>k F2 H2 (g1.trans g2)⟩
noncomputable def vAnd (f g:En→Option PyData):En→Option PyData:=fun η=>(f η).bind fun x=>(asB x).bind fun c=>if c=true then g η else some (.bool false)
noncomputable def vOr (f g:En→Option PyData):En→Option PyData:=fun η=>(f η).bind fun x=>(asB x).bind fun c=>if c=true then some (.bool true) else g η
noncomputable def vNot (f:En→Option PyData):En→Option PyData:=fun η=>(f η).bind fun x=>(asB x).bind fun c=>some (.bool (!c))
noncomputable def vIf (c:En→Option Bool) (f g:En→Option PyData):En→Option PyData:=fun η=>(c η).bind fun c=>if c=true then f η else g η
noncomputable def spP (K:PySem.W.Frag) (fn:List PyData→Option PyData):Sp:=fun vs H Q _=>∃ F ds d,Same F H∧RelL K F ds vs∧fn ds=some d∧∀ v F' H',Gr F H F' H'→Rel K F' d v→Q v H'
theorem E.call {k k':Nat} {fa:Addr} {fd:FuncData} {ps:List Str} {x:Str} {ppos:Pos} {fn:List PyData→Option PyData} (G:FnOk X.prog X.w X.K X.mg X.base CX0 k fa fd ps (spP X.K fn)) (hr:Room k' X.A) (hkk:k≤k') (hm:X.mg x=some (.ref fa)) (hk:PySem.W.keepIn X.K (.ref fa)=true) (hb:Binds X.K fd ps [])
    (ha:A X B (e::es) fs) (hg:Gl X x:=by rfl) (hdb:(x==("__debug__" : Str))=false:=by decide) (he:starEach (e::es) X.env=(false,eval e X.env)::starEach es X.env:=by exact star_of rfl) (hpl:(backTo pos (starEach es X.env)).any (·.1)=false:=by exact plain_of rfl) :
    E X B (.Call (.Name x ppos) (e::es) [] pos) (lA fn fs):=PE.imp (pe_call G (hr.mono hkk) hg hm hk hb .nil pass0 ha hdb he hpl) fun σ H Q ⟨F,η,d,sr,hd,q⟩=>by
  obtain ⟨ds,hx,hd⟩:=bind_some hd
  refine ⟨F,η,ds,sr,hx,fun vs F1 H1 g1 rs=>?_⟩
  show spP X.K fn (vs++[]) H1 Q E0
  rw [List.append_nil]
  exact ⟨F1,ds,d,g1.fh,rs,hd,fun v F2 H2 g2 rv=>q v F2 H2 (g1.trans g2) rv⟩
end
inductive Out where
  | nx (η:En)
  | rt (d:PyData)
  | bk (η:En)
  | ct (η:En)
noncomputable def OutOk (K:PySem.W.Frag) (B:Bd) (F:Hp) (D:Ends):Out→Prop
  | .nx η=>∀ σ' F' H',SR K B F' H' σ' η→Same F F'→D.nx σ' H'
  | .rt d=>∀ v F' H',Gr B.F B.H F' H'→Rel K F' d v→D.rt v H'
  | .bk η=>∀ σ' F' H',SR K B F' H' σ' η→Same F F'→D.bk σ' H'
  | .ct η=>∀ σ' F' H',SR K B F' H' σ' η→Same F F'→D.ct σ' H'
noncomputable def tS (K:PySem.W.Frag) (B:Bd) (f:En→Option Out):TS:=fun D σ H=>∃ F η o,SR K B F H σ η∧f η=some o∧OutOk K B F D o
noncomputable def S (X:Cx) (B:Bd) (st:Stmt) (f:En→Option Out):Prop:=PS X st (tS X.K B f)
noncomputable def Ss (X:Cx) (B:Bd) (st:List Stmt) (f:En→Option Out):Prop:=PSs X st (tS X.K B f)
theorem PS.imp {X:Cx} {e:Stmt} {t t':TS} (h:PS X e t) (i:∀ D σ H,t' D σ H→t D σ H):PS X e t':=fun pins s σ H D I q=>h pins s σ H D I (i D σ H q)
theorem PSs.imp {X:Cx} {e:List Stmt} {t t':TS} (h:PSs X e t) (i:∀ D σ H,t' D σ H→t D σ H):PSs X e t':=fun pins s σ H D I q=>h pins s σ H D I (i D σ H q)
theorem OutOk.up {K:PySem.W.Frag} {B:Bd} {F F1:Hp} {D:Ends} {o:Out} (h:OutOk K B F D o) (s:Same F F1):OutOk K B F1 D o:=by
  cases o with
  | nx η=>exact fun σ' F' H' r e=>h σ' F' H' r (s.trans e)
  | rt d=>exact h
  | bk η=>exact fun σ' F' H' r e=>h σ' F' H' r (s.trans e)
  | ct η=>exact fun σ' F' H' r e=>h σ' F' H' r (s.trans e)
noncomputable def sNx:En→Option Out:=fun η=>some (.nx η)
noncomputable def sSeq (f g:En→Option Out):En→Option Out:=fun η=>(f η).bind fun o=>match o with
  | .nx η'=>g η'
  | o=>some o
noncomputable def sRet (f:En→Option PyData):En→Option Out:=fun η=>(f η).bind fun d=>some (.rt d)
noncomputable def sRetN:En→Option Out:=fun _=>some (.rt .none)
noncomputable def sRetO (i:Nat):En→Option Out:=fun η=>match η[i]? with | some (.own ds)=>some (.rt (.list ds)) | _=>none
noncomputable def sIf (c:En→Option Bool) (f g:En→Option Out):En→Option Out:=fun η=>(c η).bind fun b=>if b=true then f η else g η
noncomputable def sSet (i:Nat) (f:En→Option PyData):En→Option Out:=fun η=>(f η).bind fun d=>some (.nx (η.set i (.val d)))
noncomputable def sSetO (i:Nat) (f:En→Option (List PyData)):En→Option Out:=fun η=>(f η).bind fun ds=>some (.nx (η.set i (.own ds)))
noncomputable def sApp (i:Nat) (f:En→Option PyData):En→Option Out:=fun η=>(f η).bind fun d=>match η[i]? with
  | some (.own ds)=>if ds.length < sizeLine then some (.nx (η.set i (.own (ds++[d])))) else none
  | _=>none
noncomputable def sExt (i:Nat) (f:En→Option (List PyData)):En→Option Out:=fun η=>(f η).bind fun es=>match η[i]? with
  | some (.own ds)=>if ds.length+es.length≤sizeLine then some (.nx (η.set i (.own (ds++es)))) else none
  | _=>none
noncomputable def frz (i:Nat) (η:En):En:=match η[i]? with | some (.own ds)=>η.set i (.val (.list ds)) | some (.odc kvs)=>η.set i (.val (.dict (prs kvs))) | _=>η
section
variable {X:Cx} {B:Bd} {st:Stmt} {sts sts':List Stmt} {u v:En→Option Out} {a b c e:Expr} {f g:En→Option PyData} {fs:En→Option (List PyData)} {p:En→Option Bool} {pos pos':Pos}
theorem Ss.nil:Ss X B [] sNx:=PSs.imp pss_nil fun D σ H ⟨F,η,o,sr,hd,q⟩=>by
  cases hd
  exact q σ F H sr (.refl _)
theorem Ss.one (h:S X B st u):Ss X B [st] u:=pss_one h
theorem Ss.cons (h:S X B st u) (k:Ss X B sts v):Ss X B (st::sts) (sSeq u v):=PSs.imp (pss_cons h k) fun D σ H ⟨F,η,o,sr,hd,q⟩=>by
  obtain ⟨o1,h1,hd⟩:=bind_some hd
  refine ⟨F,η,o1,sr,h1,?_⟩
  cases o1 with
  | nx η'=>exact fun σ' F' H' r e=>⟨F',η',o,r,hd,q.up e⟩
  | rt d=>cases hd; exact q
  | bk η'=>cases hd; exact q
  | ct η'=>cases hd; exact q
theorem S.never:S X B st (fun _=>none):=PS.imp ps_never fun D σ H ⟨F,η,o,sr,hd,q⟩=>by cases hd
theorem S.ret (he:E X B e f):S X B (.Return (some e) pos) (sRet f):=PS.imp (ps_ret he) fun D σ H ⟨F,η,o,sr,hd,q⟩=>by
  obtain ⟨d,h1,hd⟩:=bind_some hd
  cases hd
  exact ⟨F,η,d,sr,h1,fun v F' H' g rv=>q v F' H' (sr.gr.trans g) rv⟩
theorem S.ifS (hc:T X B c p) (ha:Ss X B sts u) (hb:Ss X B sts' v):S X B (.If c sts sts' pos) (sIf p u v):=PS.imp (ps_if hc ha hb) fun D σ H ⟨F,η,o,sr,hd,q⟩=>by
  obtain ⟨b,h1,hd⟩:=bind_some hd
  refine ⟨F,η,b,sr,h1,fun F1 H1 g1=>?_⟩
  cases b with
  | false =>
    rw [if_neg Bool.false_ne_true] at hd ⊢
    exact ⟨F1,η,o,sr.grow g1,hd,q.up g1.ff⟩
  | true =>
    rw [if_pos rfl] at hd ⊢
    exact ⟨F1,η,o,sr.grow g1,hd,q.up g1.ff⟩
theorem asg_of {K:PySem.W.Frag} {i:Nat}:∀ D σ H,tS K B (sSet i f) D σ H→tAsg (tE K B f) (gName i) D σ H:=fun D σ H ⟨F,η,o,sr,hd,q⟩=>by
  obtain ⟨d,h1,hd⟩:=bind_some hd
  cases hd
  refine ⟨F,η,d,sr,h1,fun v F1 H1 g1 rv=>q _ F1 H1 ⟨sr.gr.trans g1,(sr.en.grow g1).set i rv⟩ g1.ff⟩
theorem asgO_of {K:PySem.W.Frag} {i:Nat}:∀ D σ H,tS K B (sSetO i fs) D σ H→tAsg (tO K B fs) (gName i) D σ H:=fun D σ H ⟨F,η,o,sr,hd,q⟩=>by
  obtain ⟨d,h1,hd⟩:=bind_some hd
  cases hd
  refine ⟨F,η,d,sr,h1,fun p xs F1 H1 g1 hp fp hp' rs=>q _ F1 H1 ⟨sr.gr.trans g1,(sr.en.grow g1).setOwn i fp (sr.gr.hh.free hp) hp' rs fun j ej=>sr.en.notown hp j ej⟩ g1.ff⟩
theorem S.set (i:Nat) {x:Str} (hN:X.N.Nodup) (he:E X B e f) (hi:X.N[i]?=some x:=by rfl) (hx:Loc X.env.scope x:=by first | exact Or.inl rfl | exact Or.inr rfl) (hs:swapsWith e (some (.Name x pos')) pos.line X.env=pure false:=by rfl)
    (hf:X.fn x=true∨X.env.scope.names.lookup x=some .local:=by first | exact .inl rfl | exact .inr rfl):S X B (.Assign [.Name x pos'] e pos) (sSet i f):=PS.imp (ps_set hN hi hx he hs hf) asg_of
theorem Ss.frz (i:Nat) (h:Ss X B sts u):Ss X B sts (fun η=>u (frz i η)):=PSs.imp h fun D σ H ⟨F,η,o,sr,hd,q⟩=>by
  have hd:u (PU.frz i η)=some o:=hd
  unfold PU.frz at hd
  split at hd
  · rename_i ds e
    obtain ⟨F',p,e1,sf,sr',rel⟩:=sr.freeze e
    exact ⟨F',_,o,sr',hd,q.up sf⟩
  · rename_i kvs e
    obtain ⟨F',p,e1,sf,sr',rel⟩:=sr.freezeD e
    exact ⟨F',_,o,sr',hd,q.up sf⟩
  · exact ⟨F,η,o,sr,hd,q⟩
noncomputable def ItP (K:PySem.W.Frag) (J:It) (F:Hp) (ds:List PyData):Prop:=∀ F1 H1 (i:Nat),Same F F1→Same F1 H1 →
  (∀ d,ds[i]?=some d→J.go i H1∧∀ x H2,J.yld i H1 x H2→∃ F2,Gr F1 H1 F2 H2∧Rel K F2 d x)∧(i=ds.length→J.stop i H1)
noncomputable def tI (K:PySem.W.Frag) (B:Bd) (f:En→Option (List PyData)):TI:=fun σ H R=>∃ F η ds,SR K B F H σ η∧f η=some ds∧∀ J F' H',Gr F H F' H'→ItP K J F' ds→R J H'
noncomputable def I (X:Cx) (B:Bd) (tg iter:Expr) (f:En→Option (List PyData)):Prop:=PI X tg iter (tI X.K B f)
theorem PI.imp {X:Cx} {tg it:Expr} {t t':TI} (h:PI X tg it t) (i:∀ σ H Q,t' σ H Q→t σ H Q):PI X tg it t':=fun pins s σ H Q I q=>h pins s σ H Q I (i σ H Q q)
noncomputable def TgP (K:PySem.W.Frag) (ks:List Nat) (g:TG) (t:En→PyData→Option En):Prop:=∀ (B:Bd) F H σ η d x η',SR K B F H σ η→Rel K F d x→t η d=some η'→∀ Q:St→Hp→Prop,
  (∀ σ' F' H',SR K B F' H' σ' η'→Gr F H F' H'→σ'.length=σ.length→(∀ i,i∉ks→σ'[i]?=σ[i]?)→Q σ' H')→g x σ H Q
noncomputable def tgN (i:Nat):En→PyData→Option En:=fun η d=>some (η.set i (.val d))
theorem TgP.name {K:PySem.W.Frag} {i:Nat}:TgP K [i] (gName i) (tgN i):=fun B F H σ η d x η' sr rx e Q q=>by
  cases e
  exact q _ F H ⟨sr.gr,sr.en.set i rx⟩ (.refl sr.same) (List.length_set ..) fun j hj=>List.getElem?_set_ne (fun e=>hj (by simp [e])) ..
noncomputable def TgsP (K:PySem.W.Frag) (ks:List Nat) (g:TGs) (t:En→List PyData→Option En):Prop:=∀ (B:Bd) F H σ η ds xs η',SR K B F H σ η→RelL K F ds xs→t η ds=some η'→∀ Q:St→Hp→Prop,
  (∀ σ' F' H',SR K B F' H' σ' η'→Gr F H F' H'→σ'.length=σ.length→(∀ i,i∉ks→σ'[i]?=σ[i]?)→Q σ' H')→g xs σ H Q
noncomputable def tgNil:En→List PyData→Option En:=fun η ds=>match ds with | []=>some η | _=>none
noncomputable def tgCons (t:En→PyData→Option En) (r:En→List PyData→Option En):En→List PyData→Option En:=fun η ds=>match ds with | []=>none | d::ds=>(t η d).bind fun η1=>r η1 ds
theorem TgsP.nil {K:PySem.W.Frag}:TgsP K [] gNil tgNil:=fun B F H σ η ds xs η' sr rx e Q q=>by
  cases ds with
  | nil =>
    cases e
    exact ⟨rx.nil_of,q _ F H sr (.refl sr.same) rfl fun _ _=>rfl⟩
  | cons d ds=>cases e
theorem TgsP.cons {K:PySem.W.Frag} {ks ls:List Nat} {g:TG} {gs:TGs} {t:En→PyData→Option En} {r:En→List PyData→Option En} (h:TgP K ks g t) (k:TgsP K ls gs r):TgsP K (ks++ls) (gCons g gs) (tgCons t r):=fun B F H σ η ds xs η' sr rx e Q q=>by
  cases ds with
  | nil=>cases e
  | cons d ds =>
    obtain ⟨x,r',rfl,h1,h2⟩:=rx.cons_of
    obtain ⟨η1,e1,e2⟩:=bind_some e
    refine ⟨x,r',rfl,h B F H σ η d x η1 sr h1 e1 _ fun σ1 F1 H1 sr1 g1 l1 n1=>?_⟩
    refine k B F1 H1 σ1 η1 ds r' η' sr1 (h2.mono g1.ff) e2 _ fun σ2 F2 H2 sr2 g2 l2 n2=>?_
    exact q σ2 F2 H2 sr2 (g1.trans g2) (l2.trans l1) fun i hi=>(n2 i fun z=>hi (List.mem_append_right _ z)).trans (n1 i fun z=>hi (List.mem_append_left _ z))
noncomputable def tgT (t:En→List PyData→Option En):En→PyData→Option En:=fun η d=>match d with | .tuple ds=>t η ds | _=>none
theorem TgP.tup {K:PySem.W.Frag} {ks:List Nat} {n:Nat} {g:TGs} {t:En→List PyData→Option En} (h:TgsP K ks g t) (hn:∀ η ds η',t η ds=some η'→ds.length=n):TgP K ks (gTup K n g) (tgT t):=fun B F H σ η d x η' sr rx e Q q=>by
  cases d with
  | tuple ds =>
    obtain ⟨a,xs,rfl,hq,rs⟩:=rx.tup
    exact ⟨a,xs,rfl,same_seqT sr.same hq,by rw [rs.length]; exact hn η ds η' e,h B F H σ η ds xs η' sr rs e Q q⟩
  | none=>cases e
  | bool _=>cases e
  | int _=>cases e
  | str _=>cases e
  | list _=>cases e
  | dict _=>cases e
noncomputable def sGo (t:En→PyData→Option En) (body:En→Option Out):List PyData→En→Option Out
  | [],η=>some (.nx η)
  | d::ds,η=>(t η d).bind fun η1=>(body η1).bind fun o=>match o with
    | .nx η2=>sGo t body ds η2
    | .ct η2=>sGo t body ds η2
    | .bk η2=>some (.nx η2)
    | .rt d=>some (.rt d)
noncomputable def sFor (it:En→Option (List PyData)) (t:En→PyData→Option En) (body:En→Option Out):En→Option Out:=fun η=>(it η).bind fun ds=>sGo t body ds η
theorem S.for {tg iter:Expr} {body:List Stmt} {gt:TG} {ks:List Nat} {t:En→PyData→Option En} (hp:PassesOwn (model X.prog X.w) X.A X.env X.xe) (hc:X.calm=true) (hi:I X B tg iter fs) (hg:PG X tg gt) (ht:TgP X.K ks gt t) (hb:Ss X B body u)
    (hs:∀ x,foldedSetIterable iter X.env x=pure x:=by intro _; rfl):S X B (.For tg iter body [] pos) (sFor fs t u):=PS.imp (ps_for hp hc hi hg hb hs) fun D σ H ⟨F,η,o,sr,hd,q⟩=>by
  obtain ⟨ds,h1,hd⟩:=bind_some hd
  refine ⟨F,η,ds,sr,h1,fun J F1 H1 g1 ip=>?_⟩
  refine ⟨fun i m σ H=>m=ds.length - i∧i≤ds.length∧∃ Fc ηc,SR X.K B Fc H σ ηc∧Same F1 Fc∧sGo t u (ds.drop i) ηc=some o,⟨_,rfl,Nat.zero_le _,F1,η,sr.grow g1,.refl _,by simpa using hd⟩,?_⟩
  rintro i m σc Hc ⟨rfl,hi,Fc,ηc,src,sc,hgo⟩
  obtain ⟨ip1,ip2⟩:=ip Fc Hc i sc src.same
  by_cases hlt:i < ds.length
  · have e:ds[i]?=some ds[i]:=List.getElem?_eq_getElem hlt
    obtain ⟨go,yl⟩:=ip1 _ e
    rw [List.drop_eq_getElem_cons hlt] at hgo
    unfold sGo at hgo
    obtain ⟨η1,e1,hgo⟩:=bind_some hgo
    obtain ⟨o1,e2,hgo⟩:=bind_some hgo
    have cont:∀ (η2:En),sGo t u (ds.drop (i+1)) η2=some o→∀ σ' F' H',SR X.K B F' H' σ' η2→Same F1 F' →
        ∃ m',m' < ds.length - i∧(fun i m σ H=>m=ds.length - i∧i≤ds.length∧∃ Fc ηc,SR X.K B Fc H σ ηc∧Same F1 Fc∧sGo t u (ds.drop i) ηc=some o) (i+1) m' σ' H':=fun η2 h2 σ' F' H' r s =>
      ⟨ds.length - (i+1),by omega,rfl,hlt,F',η2,r,s,h2⟩
    refine .inr ⟨go,fun σ' H'=>∃ m',m' < ds.length - i∧(fun i m σ H=>m=ds.length - i∧i≤ds.length∧∃ Fc ηc,SR X.K B Fc H σ ηc∧Same F1 Fc∧sGo t u (ds.drop i) ηc=some o) (i+1) m' σ' H',fun σ' H' n=>n,fun x H' y=>?_⟩
    obtain ⟨F2,g2,rx⟩:=yl x H' y
    refine ht B F2 H' σc ηc _ x η1 (src.grow g2) rx e1 _ fun σ3 F3 H3 sr3 g3 _ _=>?_
    refine ⟨F3,η1,o1,sr3,e2,?_⟩
    have s3:Same F1 F3:=sc.trans (g2.ff.trans g3.ff)
    cases o1 with
    | nx η2=>exact fun σ' F' H' r s=>cont η2 hgo σ' F' H' r (s3.trans s)
    | ct η2=>exact fun σ' F' H' r s=>cont η2 hgo σ' F' H' r (s3.trans s)
    | bk η2 =>
      cases hgo
      exact fun σ' F' H' r s=>q σ' F' H' r (g1.ff.trans (s3.trans s))
    | rt d =>
      cases hgo
      exact q
  · have ei:i=ds.length:=by omega
    subst ei
    rw [List.drop_length] at hgo
    cases hgo
    exact .inl ⟨ip2 rfl,q σc Fc Hc src (g1.ff.trans sc)⟩
noncomputable def asL:PyData→Option (List PyData)
  | .list ds=>some ds
  | _=>none
noncomputable def asTu:PyData→Option (List PyData)
  | .tuple ds=>some ds
  | _=>none
noncomputable def lI (k:PyData→Option (List PyData)) (f:En→Option PyData):En→Option (List PyData):=fun η=>(f η).bind k
theorem itp_list {K:PySem.W.Frag} {F:Hp} {a:Addr} {xs:List V} {ds:List PyData} (h:SqL K F a xs) (r:RelL K F ds xs):ItP K (Itl K a) F ds:=fun F1 H1 i s1 s2=>by
  have q:=s2.seq (s1.seq h)
  refine ⟨fun d e=>?_,fun e=>⟨xs,q,by rw [r.length,e]; exact Nat.le_refl _⟩⟩
  obtain ⟨x,ex,rx⟩:=r.get e
  refine ⟨⟨xs,x,q,ex⟩,fun x' H2 y=>?_⟩
  obtain ⟨e2,y⟩:=y
  subst e2
  have z:=y xs q
  rw [ex] at z
  cases z
  exact ⟨F1,.refl s2,rx.mono s1⟩
theorem itp_tup {K:PySem.W.Frag} {F:Hp} {a:Addr} {xs:List V} {ds:List PyData} (h:SqT K F a xs) (r:RelL K F ds xs):ItP K (Itt K a) F ds:=fun F1 H1 i s1 s2=>by
  have q:=same_seqT s2 (same_seqT s1 h)
  refine ⟨fun d e=>?_,fun e=>⟨xs,q,by rw [r.length,e]; exact Nat.le_refl _⟩⟩
  obtain ⟨x,ex,rx⟩:=r.get e
  refine ⟨⟨xs,x,q,ex⟩,fun x' H2 y=>?_⟩
  obtain ⟨e2,y⟩:=y
  subst e2
  have z:=y xs q
  rw [ex] at z
  cases z
  exact ⟨F1,.refl s2,rx.mono s1⟩
theorem I.list {tg:Expr} (he:E X B e f):I X B tg e (lI asL f):=PI.imp (pi_list he) fun σ H Q ⟨F,η,ds,sr,hd,q⟩=>by
  obtain ⟨d,h1,hd⟩:=bind_some hd
  cases d <;> simp only [asL,Option.some.injEq,reduceCtorEq] at hd
  subst hd
  refine ⟨F,η,_,sr,h1,fun v F1 H1 g1 rv=>?_⟩
  obtain ⟨a,xs,rfl,hq,rs⟩:=rv.lst
  exact ⟨a,rfl,⟨xs,g1.fh.seq hq⟩,q _ F1 H1 g1 (itp_list hq rs)⟩
theorem I.tup {tg:Expr} (he:E X B e f):I X B tg e (lI asTu f):=PI.imp (pi_tup he) fun σ H Q ⟨F,η,ds,sr,hd,q⟩=>by
  obtain ⟨d,h1,hd⟩:=bind_some hd
  cases d <;> simp only [asTu,Option.some.injEq,reduceCtorEq] at hd
  subst hd
  refine ⟨F,η,_,sr,h1,fun v F1 H1 g1 rv=>?_⟩
  obtain ⟨a,xs,rfl,hq,rs⟩:=rv.tup
  exact ⟨a,rfl,⟨xs,same_seqT g1.fh hq⟩,q _ F1 H1 g1 (itp_tup hq rs)⟩
noncomputable def rngL (lo:Int) (n:Nat):List PyData:=(List.range n).map fun (k:Nat)=>PyData.int (lo+k)
theorem itp_rng {K:PySem.W.Frag} {F:Hp} {lo:Int} {n:Nat}:ItP K (Itr lo n) F (rngL lo n):=fun F1 H1 i s1 s2=>by
  have hl:(rngL lo n).length=n:=by unfold rngL; rw [List.length_map,List.length_range]
  refine ⟨fun d e=>?_,fun e=>by show n≤i; omega⟩
  have hi:i < n:=by rw [← hl]; exact (List.getElem?_eq_some_iff.mp e).1
  refine ⟨hi,fun x H2 y=>?_⟩
  obtain ⟨e2,e3⟩:=y
  subst e2 e3
  have:d=.int (lo+i):=by
    unfold rngL at e
    rw [List.getElem?_map,List.getElem?_range hi] at e
    exact (Option.some.inj e).symm
  subst this
  exact ⟨F1,.refl s2,rel_int⟩
noncomputable def rng1 (ds:List PyData):Option (List PyData):=match ds with
  | [.int j]=>if -(2 ^ 62)≤j∧j < 2 ^ 62 then some (rngL 0 j.toNat) else none
  | _=>none
noncomputable def rng2 (ds:List PyData):Option (List PyData):=match ds with
  | [.int i,.int j]=>if (-(2 ^ 62)≤i∧i < 2 ^ 62)∧(-(2 ^ 62)≤j∧j < 2 ^ 62) then some (rngL i (j - i).toNat) else none
  | _=>none
theorem I.rng1 {tg:Expr} {pp:Pos} (hm:X.mg "range" = none) (ha:A X B [a] fs) (hg:Gl X "range" := by rfl) (hs:starEach [a] X.env=[(false,eval a X.env)]:=by exact star_of rfl):I X B tg (.Call (.Name "range" pp) [a] [] pos) (fun η=>(fs η).bind PU.rng1) :=
  PI.imp (pi_range1 hg hm ha hs) fun σ H Q ⟨F,η,ds,sr,hd,q⟩=>by
    obtain ⟨es,h1,hd⟩:=bind_some hd
    unfold PU.rng1 at hd
    split at hd
    · rename_i j
      split at hd
      · rename_i hj
        cases hd
        refine ⟨F,η,_,sr,h1,fun vs F1 H1 g1 rs=>?_⟩
        obtain ⟨x,r,rfl,rx,rr⟩:=rs.cons_of
        obtain rfl:=rr.nil_of
        exact ⟨j,by rw [rx.int],hj.1,hj.2,q _ F1 H1 g1 itp_rng⟩
      · cases hd
    · cases hd
end
noncomputable def inEn (mp:List (Option Nat)) (η:En):En:=mp.map fun o=>match o with
  | some j=>(match η[j]? with | some (.val d)=>.val d | some (.ob fs)=>.ob fs | _=>.un)
  | none=>.un
noncomputable def cGo (t:En→PyData→Option En) (p:En→Option Bool) (f:En→Option PyData) (η:En):List PyData→Option (List PyData)
  | []=>some []
  | d::ds=>(t η d).bind fun η1=>(p η1).bind fun ok=>if ok=true then (f η1).bind fun y=>(cGo t p f η ds).bind fun r=>some (y::r) else cGo t p f η ds
noncomputable def sComp (mp:List (Option Nat)) (fi:En→Option (List PyData)) (t:En→PyData→Option En) (p:En→Option Bool) (f:En→Option PyData):En→Option (List PyData):=fun η =>
  (fi η).bind fun ds=>if ds.length≤sizeLine then cGo t p f (inEn mp η) ds else none
noncomputable def Ts (X:Cx) (B:Bd) (ifs:List Expr) (p:En→Option Bool):Prop:=PTs X ifs (tT X.K B p)
noncomputable def tTrue:En→Option Bool:=fun _=>some true
section
variable {X:Cx} {B:Bd}
theorem Ts.nil:Ts X B [] tTrue:=fun pins s σ H Q I ⟨F,η,b,sr,hd,q⟩=>by
  cases hd
  exact pts_nil pins s σ H Q I (q F H (.refl sr.same))
theorem Ts.one {c:Expr} {p:En→Option Bool} (h:T X B c p):Ts X B [c] p:=pts_one h
theorem inEn_no {mp:List (Option Nat)} {η:En} {i:Nat} {a:Sl} (e:(inEn mp η)[i]?=some a):isOwn a=false:=by
  unfold inEn at e
  rw [List.getElem?_map] at e
  cases q:mp[i]? with
  | none=>rw [q] at e; cases e
  | some o =>
    rw [q] at e
    cases o with
    | none=>cases e; rfl
    | some j =>
      have e':(match η[j]? with | some (.val d)=>Sl.val d | some (.ob fs)=>.ob fs | _=>.un)=a:=Option.some.inj e
      split at e' <;> (subst e'; rfl)
theorem EnR.inner {K:PySem.W.Frag} {He F H:Hp} {σ:St} {η:En} (r:EnR K He F H σ η) (mp:List (Option Nat)):EnR K He F H (inSt mp σ) (inEn mp η) where
  len:=by unfold inEn inSt; rw [List.length_map,List.length_map]
  val:=fun i d e=>by
    unfold inEn at e
    rw [List.getElem?_map] at e
    cases q:mp[i]? with
    | none=>rw [q] at e; cases e
    | some o =>
      rw [q] at e
      cases o with
      | none=>cases e
      | some j =>
        have e':(match η[j]? with | some (.val d)=>Sl.val d | some (.ob fs)=>.ob fs | _=>.un)=.val d:=Option.some.inj e
        split at e'
        · rename_i d' ed
          have:d'=d:=by injection e'
          subst this
          obtain ⟨v,e1,e2⟩:=r.val j d' ed
          refine ⟨v,?_,e2⟩
          unfold inSt
          rw [List.getElem?_map,q]
          show some ((σ[j]?).join)=_
          rw [e1]
          rfl
        · cases e'
        · cases e'
  obs:=fun i fs e=>by
    unfold inEn at e
    rw [List.getElem?_map] at e
    cases q:mp[i]? with
    | none=>rw [q] at e; cases e
    | some o =>
      rw [q] at e
      cases o with
      | none=>cases e
      | some j =>
        have e':(match η[j]? with | some (.val d)=>Sl.val d | some (.ob fs)=>.ob fs | _=>.un)=.ob fs:=Option.some.inj e
        split at e'
        · cases e'
        · rename_i d' ed
          have:d'=fs:=by injection e'
          subst this
          obtain ⟨p,C,dx,xs,e1,e2⟩:=r.obs j d' ed
          refine ⟨p,C,dx,xs,?_,e2⟩
          unfold inSt
          rw [List.getElem?_map,q]
          show some ((σ[j]?).join)=_
          rw [e1]
          rfl
        · cases e'
  cel:=fun i a e ha=>by rw [inEn_no e] at ha; cases ha
  apart:=fun i j a b e _ ha _ _=>by rw [inEn_no e] at ha; cases ha
variable {elt iter tg:Expr} {ifs:List Expr} {scope:Scope} {pos:Pos} {N':List Str} {mp:List (Option Nat)} {ks:List Nat} {gt:TG} {t:En→PyData→Option En} {fi:En→Option (List PyData)} {p:En→Option Bool} {f:En→Option PyData}
theorem comp_of {K:PySem.W.Frag} (ht:TgP K ks gt t) (hks:∀ k∈ks,mp[k]?=some none):∀ σ H Q,tO K B (sComp mp fi t p f) σ H Q→tComp mp (tI K B fi) gt (tT K B p) (tE K B f) σ H Q:=fun σ H Q ⟨F,η,rs,sr,hd,q⟩=>by
  obtain ⟨ds,h1,hd⟩:=bind_some hd
  split at hd
  rotate_left
  · cases hd
  rename_i hz
  refine ⟨F,η,ds,sr,h1,fun J F1 H1 g1 ip D hD=>?_⟩
  have fD:F1 D=none:=g1.fh.free hD
  have kept:∀ {σ2:St},σ2.length=(inSt mp σ).length→(∀ i,i∉ks→σ2[i]?=(inSt mp σ)[i]?)→KeepsSt (inSt mp σ) σ2:=fun {σ2} hl hn=>⟨hl,fun i v e=>by
    by_cases hi:i∈ks
    · have z:=hks i hi
      unfold inSt at e
      rw [List.getElem?_map,z] at e
      cases e
    · rw [hn i hi]; exact e⟩
  refine ⟨fun i m Hc=>m=ds.length - i∧i≤ds.length∧∃ Fc ys done rest,Gr F1 H1 Fc Hc∧Fc D=none∧Hc D=some (.lst ys)∧RelL K Fc done ys∧done.length≤i∧cGo t p f (inEn mp η) (ds.drop i)=some rest∧rs=done++rest,
    ⟨_,rfl,Nat.zero_le _,F1,[],[],rs,⟨.refl _,same_new hD _,fun b u z=>same_new hD _ b u (g1.fh b u z),fun b z=>.inl z⟩,fD,upd_same,.nil,Nat.le_refl _,by simpa using hd,rfl⟩,?_⟩
  rintro i m Hc ⟨rfl,hi,Fc,ys,done,rest,gc,fcD,hcD,rd,hdl,hgo,hrs⟩
  obtain ⟨ip1,ip2⟩:=ip Fc Hc i gc.ff gc.fh
  by_cases hlt:i < ds.length
  · have e:ds[i]?=some ds[i]:=List.getElem?_eq_getElem hlt
    obtain ⟨go,yl⟩:=ip1 _ e
    rw [List.drop_eq_getElem_cons hlt] at hgo
    unfold cGo at hgo
    obtain ⟨η1,e1,hgo⟩:=bind_some hgo
    obtain ⟨ok,e2,hgo⟩:=bind_some hgo
    refine .inr ⟨go,fun H'=>∃ m',m' < ds.length - i∧(m'=ds.length - (i+1)∧i+1≤ds.length∧∃ Fc ys done rest,Gr F1 H1 Fc H'∧Fc D=none∧H' D=some (.lst ys)∧RelL K Fc done ys∧done.length≤i+1∧cGo t p f (inEn mp η) (ds.drop (i+1))=some rest∧rs=done++rest),fun H' n=>n,fun x H' y=>?_⟩
    obtain ⟨F2,g2,rx⟩:=yl x H' y
    have sin:SR K B F2 H' (inSt mp σ) (inEn mp η):=⟨(sr.gr.trans g1).trans (gc.trans g2),((sr.en.grow g1).inner mp).grow (gc.trans g2)⟩
    refine ht B F2 H' (inSt mp σ) (inEn mp η) _ x η1 sin rx e1 _ fun σ3 F3 H3 sr3 g3 l3 n3=>⟨kept l3 n3,F3,η1,ok,sr3,e2,fun F4 H4 g4=>?_⟩
    have gall:Gr Fc Hc F4 H4:=(g2.trans g3).trans g4
    have nD:∀ {F5 H5:Hp},Gr Fc Hc F5 H5→F5 D=none:=fun {F5 H5} g=>by
      cases z:F5 D with
      | none=>rfl
      | some o =>
        rcases g.new D (by rw [z]; simp) with w | w
        · exact absurd fcD w
        · rw [hcD] at w; cases w
    cases ok with
    | false =>
      rw [if_neg Bool.false_ne_true] at hgo
      refine iteF ?_
      exact ⟨ds.length - (i+1),by omega,rfl,hlt,F4,ys,done,rest,gc.trans gall,nD gall,gall.hh _ _ hcD,rd.mono gall.ff,Nat.le_succ_of_le hdl,hgo,hrs⟩
    | true =>
      rw [if_pos rfl] at hgo
      refine iteT ?_
      obtain ⟨yv,e3,hgo⟩:=bind_some hgo
      obtain ⟨r,e4,hgo⟩:=bind_some hgo
      cases hgo
      refine ⟨F4,η1,yv,sr3.grow g4,e3,fun v F5 H5 g5 rv=>?_⟩
      have ga:=gall.trans g5
      have h5D:=ga.hh _ _ hcD
      refine ⟨ys,h5D,by rw [rd.length]; omega,ds.length - (i+1),by omega,rfl,hlt,F5,ys++[v],done++[yv],r,?_,nD ga,upd_same,(rd.mono ga.ff).append (.cons rv .nil),by rw [List.length_append,List.length_singleton]; omega,e4,by rw [hrs,List.append_assoc]; rfl⟩
      have gt':=gc.trans ga
      refine ⟨gt'.ff,fun b u z=>?_,fun b u z=>?_,gt'.new⟩
      · have nb:b≠D:=ne_of_none z hD
        rw [upd_ne nb]; exact gt'.hh b u z
      · have nb:b≠D:=ne_of_none z (nD ga)
        rw [upd_ne nb]; exact gt'.fh b u z
  · have ei:i=ds.length:=by omega
    subst ei
    rw [List.drop_length] at hgo
    cases hgo
    rw [List.append_nil] at hrs
    subst hrs
    exact .inl ⟨ip2 rfl,q D ys Fc Hc (g1.trans gc) (g1.hh.free hD) fcD hcD rd⟩
theorem EO.comp (hc:X.calm=true) (ck:CompSc X scope N' mp) (ht:TgP X.K ks gt t) (hks:∀ k∈ks,mp[k]?=some none) (hi:I X B tg iter fi)
    (hb:∀ s H fp,PG (compCx X scope N' s H fp) tg gt∧Ts (compCx X scope N' s H fp) B ifs p∧E (compCx X scope N' s H fp) B elt f)
    (hs:∀ x,foldedSetIterable iter X.env x=pure x:=by intro _; rfl):EO X B (.ListComp elt [⟨tg,iter,ifs,0⟩] scope pos) (sComp mp fi t p f):=PE.imp (pe_comp hc ck hi hb hs) (comp_of ht hks)
theorem S.setC (i:Nat) {y:Str} {py spos:Pos} (hc:X.calm=true) (hN:X.N.Nodup) (ck:CompSc X scope N' mp) (ht:TgP X.K ks gt t) (hks:∀ k∈ks,mp[k]?=some none) (hi:I X B tg iter fi)
    (hb:∀ s H fp,PG (compCx X scope N' s H fp) tg gt∧Ts (compCx X scope N' s H fp) B ifs p∧E (compCx X scope N' s H fp) B elt f)
    (hiy:X.N[i]?=some y:=by rfl) (hy:X.env.scope.names.lookup y=some .local:=by rfl) (hsw:swapsWith (.ListComp elt [⟨tg,iter,ifs,0⟩] scope pos) (some (.Name y py)) spos.line X.env=pure true:=by rfl)
    (hs:∀ x,foldedSetIterable iter X.env x=pure x:=by intro _; rfl):S X B (.Assign [.Name y py] (.ListComp elt [⟨tg,iter,ifs,0⟩] scope pos) spos) (sSetO i (sComp mp fi t p f)) :=
  PS.imp (ps_setComp hc hN hiy hy ck hi hb hsw hs) fun D σ H h=>by
    have h':=asgO_of D σ H h
    exact comp_of ht hks σ H _ h'
end
noncomputable def runF (n m:Nat) (g:En→Option Out) (ds:List PyData):Option PyData:=if ds.length=n then (g (ds.map Sl.val++List.replicate (m - n) .un)).bind fun o=>match o with
  | .rt d=>some d
  | .nx _=>some .none
  | _=>none else none
section
variable {P:Program} {w:World} {K:PySem.W.Frag} {mg:Str→Option Value} {base:Heap}
theorem start_no {n:Nat} {ds:List PyData} {i:Nat} {a:Sl} (e:(ds.map Sl.val++List.replicate n .un)[i]?=some a):isOwn a=false:=by
  by_cases hi:i < ds.length
  · rw [List.getElem?_append_left (by rw [List.length_map]; exact hi),List.getElem?_map] at e
    cases q:ds[i]? with
    | none=>rw [q] at e; cases e
    | some d'=>rw [q] at e; cases e; rfl
  · rw [List.getElem?_append_right (by rw [List.length_map]; omega),List.getElem?_replicate] at e
    split at e <;> cases e
    rfl
theorem EnR.start {F H:Hp} {N:List Str} {ds:List PyData} {vs:List V} (r:RelL K F ds vs):EnR K H F H (L2.start N vs) (ds.map Sl.val++List.replicate (N.length - ds.length) .un) where
  len:=by unfold L2.start; rw [List.length_append,List.length_append,List.length_map,List.length_map,List.length_replicate,List.length_replicate,r.length]
  val:=fun i d e=>by
    unfold L2.start
    by_cases hi:i < ds.length
    · rw [List.getElem?_append_left (by rw [List.length_map]; exact hi),List.getElem?_map] at e
      rw [List.getElem?_append_left (by rw [List.length_map,r.length]; exact hi),List.getElem?_map]
      cases q:ds[i]? with
      | none=>rw [q] at e; cases e
      | some d' =>
        rw [q] at e
        have:d'=d:=by injection (Option.some.inj e)
        subst this
        obtain ⟨x,e1,e2⟩:=r.get q
        exact ⟨x,by rw [e1]; rfl,e2⟩
    · rw [List.getElem?_append_right (by rw [List.length_map]; omega),List.getElem?_replicate] at e
      split at e <;> cases e
  cel:=fun i a e ha=>by rw [start_no e] at ha; cases ha
  obs:=fun i fs e=>by
    by_cases hi:i < ds.length
    · rw [List.getElem?_append_left (by rw [List.length_map]; exact hi),List.getElem?_map] at e
      cases q:ds[i]? with
      | none=>rw [q] at e; cases e
      | some d'=>rw [q] at e; cases e
    · rw [List.getElem?_append_right (by rw [List.length_map]; omega),List.getElem?_replicate] at e
      split at e <;> cases e
  apart:=fun i _ a _ e _ ha _ _=>by rw [start_no e] at ha; cases ha
theorem fnP {x qual:Str} {st:Stmt} {f:Addr} {fd:FuncData} {N ps:List Str} {k:Nat} {g:En→Option Out} (Fn:Fun K x qual st f fd) (Sc:FnScope N ps (defScope st))
    (hb:∀ (cdv:Value) (A:Around) (outer:List Env) (s:Shared) (H:Hp) (E:XK) (F:Hp),Room k (A.deeper (envOfC qual (defScope st) s.heap.objs.size f cdv)) →
      Ss (cxOf CX0 P w K mg base N qual (defScope st) f cdv A outer s H E).nox ⟨F,H⟩ (defBody st) g) :
    FnOk P w K mg base CX0 (k+1) f fd ps (spP K (runF ps.length N.length g)):=by
  have len:∀ {F:Hp} {ds:List PyData} {vs:List V} {d:PyData},RelL K F ds vs→runF ps.length N.length g ds=some d→ds.length=ps.length∧vs.length=ps.length:=fun {F ds vs d} r e=>by
    unfold runF at e
    split at e
    · rename_i hl
      exact ⟨hl,by rw [r.length]; exact hl⟩
    · cases e
  refine Fn.ok Sc (fun vs H Q E h=>?_) (fun cdv A outer s H vs Q E hr h=>?_)
  · obtain ⟨F,ds,d,_,r,e,_⟩:=h
    exact (len r e).2
  · obtain ⟨F,ds,d,sm,r,e,q⟩:=h
    obtain ⟨l1,l2⟩:=len r e
    refine ⟨_,hb cdv A outer s H E F hr,?_⟩
    unfold runF at e
    rw [if_pos l1] at e
    obtain ⟨o,e1,e2⟩:=bind_some e
    refine ⟨F,_,o,⟨.refl sm,?_⟩,e1,?_⟩
    · have z:=EnR.start (K:=K) (H:=H) (N:=N) r
      rw [l1] at z
      exact z
    · cases o with
      | rt d' =>
        cases e2
        exact fun v F' H' g rv=>q v F' H' g rv
      | nx η' =>
        cases e2
        exact fun σ' F' H' sr _=>q .non F' H' sr.gr rel_non
      | bk η'=>cases e2
      | ct η'=>cases e2
theorem fn0 {f:Addr} {fd:FuncData} {ps:List Str} {k:Nat}:FnOk P w K mg base CX0 k f fd ps (spP K (fun _=>none)) :=
  ⟨fun vs H Q E h=>(by obtain ⟨_,_,_,_,_,e,_⟩:=h; cases e),fun A outer s H args us vs Q E _ _ _ _ h=>(by obtain ⟨_,_,_,_,_,e,_⟩:=h; cases e)⟩
end
section
variable {X:Cx}
mutual
theorem Rel.reads {pins:List (Addr×Obj)} {σ:St} {F H:Hp} {s:Shared} (I:Inv X pins σ H s) (sm:Same F H):∀ {d:PyData} {v:V} {u:Value},PyData.canLay0 d=true→Rel X.K F d v→RelV v u→∃ as,Reads s.heap u d as
  | .none,v,u,_,h,r=>by
    rw [h.non] at r; cases r
    exact ⟨_,.none⟩
  | .bool b,v,u,_,h,r=>by
    rw [h.bl] at r; cases r
    exact ⟨_,.bool b⟩
  | .int i,v,u,_,h,r=>by
    rw [h.int] at r; obtain ⟨t,rfl⟩:=r
    exact ⟨_,.int i t⟩
  | .str x,v,u,_,h,r=>by
    rw [h.str] at r; obtain ⟨t,rfl⟩:=r
    exact ⟨_,.str x t⟩
  | .tuple ds,v,u,c,h,r=>by
    unfold PyData.canLay0 at c
    obtain ⟨a,xs,rfl,hq,rs⟩:=h.tup
    cases r
    obtain ⟨its,rv,⟨o,ho,hc,n,hd⟩,_⟩:=I.tuple (same_seqT sm hq)
    obtain ⟨as,h'⟩:=RelL.reads I sm c rs rv
    exact ⟨as,.tuple ho hc hd (by simpa using h')⟩
  | .list ds,v,u,c,h,r=>by
    unfold PyData.canLay0 at c
    obtain ⟨a,xs,rfl,hq,rs⟩:=h.lst
    cases r
    obtain ⟨its,rv,p,_⟩:=I.list (sm.seq hq)
    obtain ⟨o,ho,hc,n,hd⟩:=p.isList
    obtain ⟨as,h'⟩:=RelL.reads I sm c rs rv
    exact ⟨a::as,.list ho hc hd (by simpa using h')⟩
  | .dict _,v,u,c,h,r=>by unfold PyData.canLay0 at c; cases c
theorem RelL.reads {pins:List (Addr×Obj)} {σ:St} {F H:Hp} {s:Shared} (I:Inv X pins σ H s) (sm:Same F H):∀ {ds:List PyData} {vs:List V} {us:List Value},PyData.canLayAll0 ds=true→RelL X.K F ds vs→Vals vs us→∃ as,ReadsAll s.heap us ds as
  | [],vs,us,_,h,r=>by
    rw [h.nil_of] at r; cases r
    exact ⟨_,.nil⟩
  | d::ds,vs,us,c,h,r=>by
    unfold PyData.canLayAll0 at c
    obtain ⟨c1,c2⟩:=Bool.and_eq_true_iff.mp c
    obtain ⟨x,xs,rfl,h1,h2⟩:=h.cons_of
    cases r with
    | cons r1 r2 =>
      obtain ⟨as,e1⟩:=Rel.reads I sm c1 h1 r1
      obtain ⟨bs,e2⟩:=RelL.reads I sm c2 h2 r2
      exact ⟨as++bs,.cons e1 e2⟩
end
noncomputable def rEqD (K:PySem.W.Frag) (neg:Bool):R2:=fun x y H Q=>∃ F dx dy,Same F H∧Rel K F dx x∧Rel K F dy y∧SeqAt.shaped dx=true∧SeqAt.shaped dy=true∧Q (.bl (if neg then !PyData.eqv dx dy else PyData.eqv dx dy)) H
theorem op_eqD (hu:X.A.units+64 < cLine):OpR X (compareOp .Eq) (rEqD X.K false):=by
  intro pins s σ H x y v u Q I rx ry h
  obtain ⟨F,dx,dy,sm,h1,h2,s1,s2,q⟩:=h
  obtain ⟨as,ra⟩:=Rel.reads I sm (SeqAt.canLay_of_shaped s1) h1 rx
  obtain ⟨bs,rb⟩:=Rel.reads I sm (SeqAt.canLay_of_shaped s2) h2 ry
  exact SeqAt.compareEq_shaped ra rb s1 s2 hu ⟨.bl _,H,I,rfl,q⟩
theorem op_neD (hu:X.A.units+64 < cLine):OpR X (compareOp .NotEq) (rEqD X.K true):=by
  intro pins s σ H x y v u Q I rx ry h
  obtain ⟨F,dx,dy,sm,h1,h2,s1,s2,q⟩:=h
  obtain ⟨as,ra⟩:=Rel.reads I sm (SeqAt.canLay_of_shaped s1) h1 rx
  obtain ⟨bs,rb⟩:=Rel.reads I sm (SeqAt.canLay_of_shaped s2) h2 ry
  exact SeqAt.compareNe_shaped ra rb s1 s2 hu ⟨.bl _,H,I,rfl,q⟩
noncomputable def pEq (x y:PyData):Option PyData:=if SeqAt.shaped x=true∧SeqAt.shaped y=true then some (.bool (PyData.eqv x y)) else none
noncomputable def pNe (x y:PyData):Option PyData:=if SeqAt.shaped x=true∧SeqAt.shaped y=true then some (.bool (!PyData.eqv x y)) else none
theorem ad_eq {K:PySem.W.Frag}:Ad2 K (rEqD K false) pEq:=fun F H x y dx dy d Q sm rx ry e q=>by
  unfold pEq at e
  split at e
  · rename_i hs
    cases e
    exact ⟨F,dx,dy,sm,rx,ry,hs.1,hs.2,q _ F H (.refl sm) rel_bl⟩
  · cases e
theorem ad_ne {K:PySem.W.Frag}:Ad2 K (rEqD K true) pNe:=fun F H x y dx dy d Q sm rx ry e q=>by
  unfold pNe at e
  split at e
  · rename_i hs
    cases e
    exact ⟨F,dx,dy,sm,rx,ry,hs.1,hs.2,q _ F H (.refl sm) rel_bl⟩
  · cases e
noncomputable def pI (C:Int→Int→Prop) [∀ i j,Decidable (C i j)] (g:Int→Int→PyData) (x y:PyData):Option PyData:=match x,y with
  | .int i,.int j=>if C i j then some (g i j) else none
  | _,_=>none
instance:∀ i j,Decidable (CMul i j):=fun i j=>by unfold CMul; infer_instance
instance:∀ i j,Decidable (CDiv i j):=fun i j=>by unfold CDiv; infer_instance
theorem ad_I {K:PySem.W.Frag} {C:Int→Int→Prop} [∀ i j,Decidable (C i j)] {g:Int→Int→PyData} {gv:Int→Int→V} (hg:∀ F i j,Rel K F (g i j) (gv i j)):Ad2 K (rI C gv) (pI C g):=fun F H x y dx dy d Q sm rx ry e q=>by
  cases dx <;> cases dy <;> simp only [pI,reduceCtorEq] at e
  split at e
  · rename_i hc
    cases e
    exact ⟨_,_,rx.int,ry.int,hc,q _ F H (.refl sm) (hg F _ _)⟩
  · cases e
theorem ad_I0 {K:PySem.W.Frag} {g:Int→Int→PyData} {gv:Int→Int→V} (hg:∀ F i j,Rel K F (g i j) (gv i j)):Ad2 K (rI0 gv) (pI (fun _ _=>True) g):=fun F H x y dx dy d Q sm rx ry e q=>by
  cases dx <;> cases dy <;> simp only [pI,reduceCtorEq,if_true] at e
  cases e
  exact ⟨_,_,rx.int,ry.int,q _ F H (.refl sm) (hg F _ _)⟩
noncomputable def pSub:=pI (fun _ _=>True) fun i j=>.int (i - j)
noncomputable def pMul:=pI CMul fun i j=>.int (i*j)
noncomputable def pFdiv:=pI CDiv fun i j=>.int (i / j)
noncomputable def pMod:=pI (fun _ j=>0 < j) fun i j=>.int (i % j)
noncomputable def pLt:=pI (fun _ _=>True) fun i j=>.bool (decide (i < j))
noncomputable def pLe:=pI (fun _ _=>True) fun i j=>.bool (decide (i≤j))
noncomputable def pGt:=pI (fun _ _=>True) fun i j=>.bool (decide (j < i))
noncomputable def pGe:=pI (fun _ _=>True) fun i j=>.bool (decide (j≤i))
section
variable {B:Bd} {a b:Expr} {f g:En→Option PyData} {pos:Pos}
theorem E.sub (ha:E X B a f) (hb:E X B b g):E X B (.BinOp a .Sub b pos) (l2 pSub f g):=E.op op_sub (ad_I0 fun _ _ _=>rel_int) ha hb
theorem E.mul (ha:E X B a f) (hb:E X B b g):E X B (.BinOp a .Mult b pos) (l2 pMul f g):=E.op op_mul (ad_I fun _ _ _=>rel_int) ha hb
theorem E.fdiv (ha:E X B a f) (hb:E X B b g):E X B (.BinOp a .FloorDiv b pos) (l2 pFdiv f g):=E.op op_fdiv (ad_I fun _ _ _=>rel_int) ha hb
theorem E.mod (ha:E X B a f) (hb:E X B b g):E X B (.BinOp a .Mod b pos) (l2 pMod f g):=E.op op_mod (ad_I fun _ _ _=>rel_int) ha hb
theorem E.eq {k:Nat} (hr:Room k X.A) (ha:E X B a f) (hb:E X B b g):E X B (.Compare a [.Eq] [b] pos) (l2 pEq f g):=E.cmp (op_eqD hr.units) ad_eq (nomark b) ha hb
theorem T.eq {k:Nat} (hr:Room k X.A) (ha:E X B a f) (hb:E X B b g):T X B (.Compare a [.Eq] [b] pos) (bT (l2 pEq f g)):=T.cmp (op_eqD hr.units) ad_eq (nomark b) ha hb
theorem T.ne {k:Nat} (hr:Room k X.A) (ha:E X B a f) (hb:E X B b g):T X B (.Compare a [.NotEq] [b] pos) (bT (l2 pNe f g)):=T.cmp (op_neD hr.units) ad_ne (nomark b) ha hb
theorem T.lt (ha:E X B a f) (hb:E X B b g):T X B (.Compare a [.Lt] [b] pos) (bT (l2 pLt f g)):=T.cmp op_lt (ad_I0 fun _ _ _=>rel_bl) (nomark b) ha hb
end
noncomputable def rCatS (K:PySem.W.Frag):R2:=fun x y H Q=>∃ l b xs zs,x=.ref l∧y=.ref b∧SqL K H l xs∧SqL K H b zs∧xs.length+zs.length≤sizeLine∧∀ p,H p=none→Q (.ref p) (upd H p (.lst (xs++zs)))
theorem op_catS:OpR X (binaryOp .Add) (rCatS X.K):=by
  intro pins s σ H x y v u Q I rx ry h
  obtain ⟨l,b,xs,zs,rfl,rfl,hH,hB,hz,q⟩:=h
  cases rx
  cases ry
  obtain ⟨its,r,⟨⟨c1,d1,t1,sl1⟩,n,e,ec,ed,es⟩,z⟩:=I.list hH
  obtain ⟨its2,r2,⟨⟨c2,d2,t2,sl2⟩,n2,e2,ec2,ed2,es2⟩,z2⟩:=I.list hB
  have hl:=r.length
  have hl2:=r2.length
  simp only at ec ed es ec2 ed2 es2
  subst ec ed es ec2 ed2 es2
  have ea:its.toArray++its2.toArray=(its++its2).toArray:=by simp
  refine concat_meets ⟨_,e,rfl⟩ ⟨_,e2,rfl⟩ PySem.noFill_list_add PySem.seq_list_add PySem.F.slot_list_add PySem.F.entry_list_add (PySem.F.args_list_add_2 _ _)
      (list_addW l b its.toArray its2.toArray n n2 none none sl1 sl2 (by rw [List.size_toArray,List.size_toArray]; omega)) ⟨e,e2,?_⟩
  rw [ea]
  exact ⟨.ref _,_,I.lnew (t':=s.toks) (r.append r2) (by rw [List.length_append]; omega),rfl,q _ I.fresh⟩
noncomputable def rCatTT (K:PySem.W.Frag):R2:=fun x y H Q=>∃ a b xs ys,x=.ref a∧y=.ref b∧SqT K H a xs∧SqT K H b ys∧xs.length+ys.length≤sizeLine ∧
  (xs=[]→Q (.ref b) H)∧(xs≠[]→ys=[]→Q (.ref a) H)∧(∀ p,H p=none→Q (.ref p) (upd H p (.tup (xs++ys))))
theorem op_catTT:OpR X (binaryOp .Add) (rCatTT X.K):=by
  intro pins s σ H x y v u Q I rx ry h
  obtain ⟨a,b,xs,ys,rfl,rfl,ha,hb,hz,q0,q1,q2⟩:=h
  cases rx
  cases ry
  obtain ⟨its,r1,p1,_⟩:=I.tuple ha
  obtain ⟨its2,r2,p2,_⟩:=I.tuple hb
  by_cases hx:xs=[]
  · have hi:its=[]:=r1.nil_iff.mpr hx
    obtain ⟨⟨cls,dd,data,sl⟩,ho,hc,n,hd⟩:=id p1
    obtain ⟨⟨cls2,dd2,data2,sl2⟩,ho2,hc2,n2,hd2⟩:=id p2
    simp only at hc hd hc2 hd2
    subst hc hd hc2 hd2
    exact concat_meets ⟨_,ho,rfl⟩ ⟨_,ho2,rfl⟩ noFill_tuple_add seq_tuple_add PySem.F.slot_tuple_add PySem.F.entry_tuple_add (PySem.F.args_tuple_add_2 _ _)
      (tuple_addW0 a b its.toArray its2.toArray n n2 dd dd2 sl sl2 (by simp [hi])) ⟨ho,ho2,⟨.ref b,H,I,rfl,q0 hx⟩⟩
  · refine HT.cat_tup p1 p2 (fun z=>hx (r1.nil_iff.mp z)) (fun z=>⟨.ref a,H,I,rfl,q1 hx (r2.nil_iff.mp z)⟩) (fun z=>?_) (by rw [← r1.length,← r2.length]; exact hz)
    refine ⟨.ref s.heap.objs.size,_,I.laid (t':=s.toks) (o:=.tup (xs++ys)) (fun b ob q=>Heap.get?_push_of_some _ q) (Nat.le_refl _) ?_,rfl,q2 _ (I.hok.fresh (Nat.le_refl _))⟩
    exact ⟨by rw [List.length_append]; exact hz,_,r1.append r2,IsTup.new _ _⟩
noncomputable def pAdd (x y:PyData):Option PyData:=match x,y with
  | .int i,.int j=>some (.int (i+j))
  | .str i,.str j=>if i.length+j.length≤sizeLine then some (.str (i++j)) else none
  | .list i,.list j=>if i.length+j.length≤sizeLine then some (.list (i++j)) else none
  | .tuple i,.tuple j=>if i.length+j.length≤sizeLine then some (.tuple (i++j)) else none
  | _,_=>none
theorem op_addA:OpR X (binaryOp .Add) (fun x y H Q=>(∃ i j,x=.int i∧y=.int j∧Q (.int (i+j)) H)∨(∃ i j,x=.str i∧y=.str j∧i.length+j.length≤sizeLine∧Q (.str (i++j)) H)∨rCatS X.K x y H Q∨rCatTT X.K x y H Q) :=
  op_add.or (op_add_str.or (op_catS.or op_catTT))
theorem ad_add {K:PySem.W.Frag}:Ad2 K (fun x y H Q=>(∃ i j,x=.int i∧y=.int j∧Q (.int (i+j)) H)∨(∃ i j,x=.str i∧y=.str j∧i.length+j.length≤sizeLine∧Q (.str (i++j)) H)∨rCatS K x y H Q∨rCatTT K x y H Q) pAdd:=fun F H x y dx dy d Q sm rx ry e q=>by
  unfold pAdd at e
  split at e
  · cases e
    exact .inl ⟨_,_,rx.int,ry.int,q _ F H (.refl sm) rel_int⟩
  · split at e
    · rename_i hz
      cases e
      exact .inr (.inl ⟨_,_,rx.str,ry.str,hz,q _ F H (.refl sm) rel_str⟩)
    · cases e
  · split at e
    · rename_i hz
      cases e
      obtain ⟨a,xs,rfl,h1,r1⟩:=rx.lst
      obtain ⟨b,ys,rfl,h2,r2⟩:=ry.lst
      refine .inr (.inr (.inl ⟨a,b,xs,ys,rfl,rfl,sm.seq h1,sm.seq h2,by rw [r1.length,r2.length]; exact hz,fun p hp=>?_⟩))
      have g:=Gr.one (o:=.lst (xs++ys)) sm hp
      exact q _ _ _ g (rel_lst (SqL.of upd_same) ((r1.append r2).mono g.ff))
    · cases e
  · rename_i i j
    split at e
    · rename_i hz
      cases e
      obtain ⟨a,xs,rfl,h1,r1⟩:=rx.tup
      obtain ⟨b,ys,rfl,h2,r2⟩:=ry.tup
      refine .inr (.inr (.inr ⟨a,b,xs,ys,rfl,rfl,same_seqT sm h1,same_seqT sm h2,by rw [r1.length,r2.length]; exact hz,fun z=>?_,fun z1 z2=>?_,fun p hp=>?_⟩))
      · subst z
        have:=List.eq_nil_of_length_eq_zero r1.length.symm
        subst this
        exact q _ F H (.refl sm) (rel_tup h2 (by simpa using r2))
      · subst z2
        have:=List.eq_nil_of_length_eq_zero r2.length.symm
        subst this
        exact q _ F H (.refl sm) (rel_tup h1 (by simpa using r1))
      · have g:=Gr.one (o:=.tup (xs++ys)) sm hp
        exact q _ _ _ g (rel_tup (SqT.of upd_same) ((r1.append r2).mono g.ff))
    · cases e
  · cases e
section
variable {B:Bd} {a b e:Expr} {es:List Expr} {f g:En→Option PyData} {fs:En→Option (List PyData)} {pos pp:Pos}
theorem E.add (ha:E X B a f) (hb:E X B b g):E X B (.BinOp a .Add b pos) (l2 pAdd f g):=E.op op_addA ad_add ha hb
noncomputable def pNeg:PyData→Option PyData
  | .int i=>some (.int (-i))
  | _=>none
noncomputable def pIx (x y:PyData):Option PyData:=match x,y with
  | .list ds,.int i=>atI ds i
  | .tuple ds,.int i=>atI ds i
  | .str z,.int i=>if z.length≤sizeLine then (atI z.cps.toList i).bind fun c=>some (.str ⟨#[c]⟩) else none
  | _,_=>none
theorem atI_rel {K:PySem.W.Frag} {F:Hp} {ds:List PyData} {xs:List V} {i:Int} {d:PyData} (r:RelL K F ds xs) (e:atI ds i=some d):∃ x,atI xs i=some x∧Rel K F d x:=by
  unfold atI at e ⊢
  rw [r.length]
  obtain ⟨j,h1,h2⟩:=bind_some e
  rw [h1]
  obtain ⟨x,h3,h4⟩:=r.get h2
  exact ⟨x,h3,h4⟩
theorem ad_ix {K:PySem.W.Frag}:Ad2 K (rIx K) pIx:=fun F H x y dx dy d Q sm rx ry e q=>by
  unfold pIx at e
  split at e
  · obtain ⟨a,xs,rfl,h1,r1⟩:=rx.lst
    obtain ⟨v,h2,h3⟩:=atI_rel r1 e
    exact .inl ⟨a,xs,_,v,rfl,ry.int,sm.seq h1,h2,q _ F H (.refl sm) h3⟩
  · obtain ⟨a,xs,rfl,h1,r1⟩:=rx.tup
    obtain ⟨v,h2,h3⟩:=atI_rel r1 e
    exact .inr (.inl ⟨a,xs,_,v,rfl,ry.int,same_seqT sm h1,h2,q _ F H (.refl sm) h3⟩)
  · split at e
    · rename_i hz
      obtain ⟨c,h1,h2⟩:=bind_some e
      cases h2
      exact .inr (.inr ⟨_,_,c,rx.str,ry.int,hz,h1,q _ F H (.refl sm) rel_str⟩)
    · cases e
  · cases e
theorem E.at (ha:E X B a f) (hb:E X B b g) (hs:PlainIx b:=by intro _ _; rfl):E X B (.Subscript a b pos) (l2 pIx f g):=E.ix ix_seq ad_ix ha hb hs
noncomputable def flatD:PyData→Bool
  | .none=>true
  | .bool _=>true
  | .int _=>true
  | .str _=>true
  | _=>false
noncomputable def pIn (neg:Bool) (x y:PyData):Option PyData:=match y with
  | .list ds=>if flatD x=true∧ds.all flatD=true then some (.bool (if neg then !(ds.any fun y=>PyData.eqv y x) else ds.any fun y=>PyData.eqv y x)) else none
  | .tuple ds=>if flatD x=true∧ds.all flatD=true then some (.bool (if neg then !(ds.any fun y=>PyData.eqv y x) else ds.any fun y=>PyData.eqv y x)) else none
  | .str j=>match x with
    | .str i=>some (.bool (if neg then !(!(Builtin.Str.occurrences j i 0 j.length 1).isEmpty) else !(Builtin.Str.occurrences j i 0 j.length 1).isEmpty))
    | _=>none
  | _=>none
noncomputable def rInA (K:PySem.W.Frag) (neg:Bool):R2:=fun x y H Q=>rIn K neg x y H Q∨(∃ i j,x=.str i∧y=.str j∧Q (.bl (if neg then !(!(Builtin.Str.occurrences j i 0 j.length 1).isEmpty) else !(Builtin.Str.occurrences j i 0 j.length 1).isEmpty)) H)
noncomputable def AdA (K:PySem.W.Frag) (r:List V→Hp→VK→Prop) (o:List PyData→Option PyData):Prop :=
  ∀ F H xs ds d Q,Same F H→RelL K F ds xs→o ds=some d→(∀ v F' H',Gr F H F' H'→Rel K F' d v→Q v H')→r xs H Q
theorem tCB_of {K:PySem.W.Frag} {r:List V→Hp→VK→Prop} {o:List PyData→Option PyData} (ad:AdA K r o):∀ σ H Q,tE K B (lA o fs) σ H Q→tCB r (tA K B fs) σ H Q:=fun σ H Q ⟨F,η,d,sr,hd,q⟩=>by
  obtain ⟨ds,hx,hd⟩:=bind_some hd
  exact ⟨F,η,ds,sr,hx,fun vs F1 H1 g1 rs=>ad F1 H1 vs ds d Q g1.fh rs hd fun v F2 H2 g2 rv=>q v F2 H2 (g1.trans g2) rv⟩
theorem E.callB {x:Str} {id:String} {r:List V→Hp→VK→Prop} {o:List PyData→Option PyData} (hc:CallR X (.builtin id) r) (ad:AdA X.K r o) (hm:X.mg x=none) (hv:bootBuiltins x=some (.builtin id)) (ha:A X B (e::es) fs) (hg:Gl X x:=by rfl) (hn:x ≠ "__name__" := by decide) (hdb:(x==("__debug__" : Str))=false:=by decide)
    (he:starEach (e::es) X.env=(false,eval e X.env)::starEach es X.env:=by exact star_of rfl) (hpl:(backTo pos (starEach es X.env)).any (·.1)=false:=by exact plain_of rfl):E X B (.Call (.Name x pp) (e::es) [] pos) (lA o fs) :=
  PE.imp (pe_callB hc hg hm hv ha hn hdb he hpl) (tCB_of ad)
theorem E.callTy {x:Str} {id:String} {r:List V→Hp→VK→Prop} {o:List PyData→Option PyData} (hc:CallR X (.type id) r) (ad:AdA X.K r o) (hm:X.mg x=none) (hv:bootBuiltins x=some (.type id)) (ha:A X B (e::es) fs) (hg:Gl X x:=by rfl) (hn:x ≠ "__name__" := by decide) (hdb:(x==("__debug__" : Str))=false:=by decide)
    (he:starEach (e::es) X.env=(false,eval e X.env)::starEach es X.env:=by exact star_of rfl) (hpl:(backTo pos (starEach es X.env)).any (·.1)=false:=by exact plain_of rfl):E X B (.Call (.Name x pp) (e::es) [] pos) (lA o fs) :=
  PE.imp (pe_callTy hc hg hm hv ha hn hdb he hpl) (tCB_of ad)
noncomputable def pLen (ds:List PyData):Option PyData:=match ds with
  | [.list xs]=>some (.int xs.length)
  | [.tuple xs]=>some (.int xs.length)
  | [.str z]=>if z.length≤sizeLine then some (.int z.length) else none
  | _=>none
theorem ad_len {K:PySem.W.Frag}:AdA K (fun xs H Q=>(∃ p ys,xs=[.ref p]∧(SqL K H p ys∨SqT K H p ys)∧Q (.int ys.length) H)∨(∃ z,xs=[.str z]∧z.length≤sizeLine∧Q (.int z.length) H)) pLen:=fun F H xs ds d Q sm rs e q=>by
  unfold pLen at e
  split at e
  · cases e
    obtain ⟨x,r,rfl,rx,rr⟩:=rs.cons_of
    obtain rfl:=rr.nil_of
    obtain ⟨a,ys,rfl,h1,r1⟩:=rx.lst
    exact .inl ⟨a,ys,rfl,.inl (sm.seq h1),by rw [r1.length]; exact q _ F H (.refl sm) rel_int⟩
  · cases e
    obtain ⟨x,r,rfl,rx,rr⟩:=rs.cons_of
    obtain rfl:=rr.nil_of
    obtain ⟨a,ys,rfl,h1,r1⟩:=rx.tup
    exact .inl ⟨a,ys,rfl,.inr (same_seqT sm h1),by rw [r1.length]; exact q _ F H (.refl sm) rel_int⟩
  · split at e
    · rename_i hz
      cases e
      obtain ⟨x,r,rfl,rx,rr⟩:=rs.cons_of
      obtain rfl:=rr.nil_of
      exact .inr ⟨_,by rw [rx.str],hz,q _ F H (.refl sm) rel_int⟩
    · cases e
  · cases e
theorem E.len (hm:X.mg "len" = none) (ha:A X B [e] fs) (hg:Gl X "len" := by rfl) (he:starEach [e] X.env=(false,eval e X.env)::starEach [] X.env:=by exact star_of rfl) (hpl:(backTo pos (starEach [] X.env)).any (·.1)=false:=by rfl):E X B (.Call (.Name "len" pp) [e] [] pos) (lA pLen fs) :=
  E.callB (call_len_seq.or call_len_str) ad_len hm PySem.boot_len ha hg (by decide) (by decide) he hpl
noncomputable def pTup (ds:List PyData):Option PyData:=match ds with
  | [.list xs]=>some (.tuple xs)
  | [.tuple xs]=>some (.tuple xs)
  | _=>none
theorem ad_tup {K:PySem.W.Frag}:AdA K (fun xs H Q=>∃ p ys,xs=[.ref p]∧((SqL K H p ys∧∀ l,H l=none→Q (.ref l) (upd H l (.tup ys)))∨(SqT K H p ys∧Q (.ref p) H))) pTup:=fun F H xs ds d Q sm rs e q=>by
  unfold pTup at e
  split at e
  · cases e
    obtain ⟨x,r,rfl,rx,rr⟩:=rs.cons_of
    obtain rfl:=rr.nil_of
    obtain ⟨a,ys,rfl,h1,r1⟩:=rx.lst
    refine ⟨a,ys,rfl,.inl ⟨sm.seq h1,fun p hp=>?_⟩⟩
    have g:=Gr.one (o:=.tup ys) sm hp
    exact q _ _ _ g (rel_tup (SqT.of upd_same) (r1.mono g.ff))
  · cases e
    obtain ⟨x,r,rfl,rx,rr⟩:=rs.cons_of
    obtain rfl:=rr.nil_of
    obtain ⟨a,ys,rfl,h1,r1⟩:=rx.tup
    exact ⟨a,ys,rfl,.inr ⟨same_seqT sm h1,q _ F H (.refl sm) (rel_tup h1 r1)⟩⟩
  · cases e
theorem E.tuple (hm:X.mg "tuple" = none) (ha:A X B [e] fs) (hg:Gl X "tuple" := by rfl) (he:starEach [e] X.env=(false,eval e X.env)::starEach [] X.env:=by exact star_of rfl) (hpl:(backTo pos (starEach [] X.env)).any (·.1)=false:=by rfl):E X B (.Call (.Name "tuple" pp) [e] [] pos) (lA pTup fs) :=
  E.callTy call_tuple_of ad_tup hm (by decide +kernel) ha hg (by decide) (by decide) he hpl
end
end
noncomputable def cutL {α:Type} (xs:List α) (lo hi:Option Int):List α:=(xs.drop (HT.sIx xs.length 0 lo)).take (HT.sIx xs.length xs.length hi - HT.sIx xs.length 0 lo)
section
variable {X:Cx}
theorem RelL.cut {K:PySem.W.Frag} {F:Hp} {ds:List PyData} {xs:List V} (r:RelL K F ds xs) (lo hi:Option Int):RelL K F (cutL ds lo hi) (cutV xs lo hi):=by
  unfold cutL cutV
  rw [r.length]
  exact (r.drop _).take _
theorem sl_tupW:SlR X (fun x lo hi H Q=>∃ a xs,x=.ref a∧SqT X.K H a xs∧(HT.sIx xs.length 0 lo=0∧HT.sIx xs.length xs.length hi=xs.length)∧Q (.ref a) H):=by
  intro pins s σ H x v vl vu lo hi sl Q I rx hs pl pu h
  obtain ⟨a,xs,rfl,hx,hw,q⟩:=h
  cases rx
  obtain ⟨its,r,ht,hz⟩:=I.tuple hx
  have hlen:its.toArray.size=xs.length:=by rw [List.size_toArray]; exact r.length.symm
  refine ⟨"tuple", _,PyProof.Rows.slot_tuple_getitem.lookup,ht.typeIs,?_⟩
  obtain ⟨os,hos,hcs,hds⟩:=id hs
  have hTs:s.TypeIs (.ref sl) "slice" := ⟨os,hos,hcs⟩
  unfold getItem
  try with_reducible refine wpAny_holding ?_
  first | refine wpAny_bind (wpAny_pure ?_) | skip
  refine wpAny_bind (wpAny_sequenceKey ht.typeIs (by decide) ?_)
  refine wpAny_bind (wpAny_callSpecial?_slot (name:=Str.ofString "__getitem__") ht.typeIs PyProof.Rows.slot_tuple_getitem
    (wpAny_call_entry PyProof.Rows.slot_tuple_getitem ht.typeIs entry_tuple_getitem ?_ (args_tuple_getitem _ _)))
  show wpAny _ _ (Builtin.Tuple.tupleItemsOf (.ref a) >>= _) _ _ s
  refine wpAny_bind (tupleItemsOf_ ht ?_)
  refine wpAny_bind (wpAny_typeOf hTs ?_)
  rw [if_pos (by decide)]
  refine wpAny_bind (HT.sliceApplied_gen hs pl pu ?_)
  rw [hlen]
  have hyes:((((HT.sIx xs.length 0 lo:Nat):Int)==0&&(1:Int)==1&&(HT.sIx xs.length xs.length hi - HT.sIx xs.length 0 lo)==xs.length)=true):=by
    rw [hw.1,hw.2]; simp
  show wpAny _ _ (if (((HT.sIx xs.length 0 lo:Nat):Int)==0&&(1:Int)==1&&(HT.sIx xs.length xs.length hi - HT.sIx xs.length 0 lo)==xs.length)=true then _ else _) _ _ s
  rw [if_pos hyes]
  have fin:EP X pins σ Q (.ref a) s:=⟨.ref a,H,I,rfl,q⟩
  refine wpAny_bind ?_
  unfold Builtin.Tuple.tupleIsExact
  refine wpAny_bind (wpAny_typeOf ht.typeIs (wpAny_pure ?_))
  rw [if_pos (by decide)]
  exact wpAny_bind (wpAny_rule (wpAny_pure ⟨_,rfl,wpAny_pure fin⟩))
noncomputable def pSl (x:PyData) (lo hi:Option Int):Option PyData:=match x with
  | .list ds=>some (.list (cutL ds lo hi))
  | .tuple ds=>some (.tuple (cutL ds lo hi))
  | _=>none
noncomputable def rSlA (K:PySem.W.Frag):V→Option Int→Option Int→Hp→VK→Prop:=fun x lo hi H Q=>rSlL K x lo hi H Q∨rSlT K x lo hi H Q∨(∃ a xs,x=.ref a∧SqT K H a xs∧(HT.sIx xs.length 0 lo=0∧HT.sIx xs.length xs.length hi=xs.length)∧Q (.ref a) H)
theorem sl_A:SlR X (rSlA X.K):=sl_list.or (sl_tup.or sl_tupW)
theorem ad_sl {K:PySem.W.Frag} {F H:Hp} {x:V} {dx d:PyData} {lo hi:Option Int} {Q:VK} (sm:Same F H) (rx:Rel K F dx x) (e:pSl dx lo hi=some d) (q:∀ v F' H',Gr F H F' H'→Rel K F' d v→Q v H'):rSlA K x lo hi H Q:=by
  unfold pSl at e
  split at e
  · cases e
    obtain ⟨a,xs,rfl,h1,r1⟩:=rx.lst
    refine .inl ⟨a,xs,rfl,sm.seq h1,fun p hp=>?_⟩
    have g:=Gr.one (o:=.lst (cutV xs lo hi)) sm hp
    exact q _ _ _ g (rel_lst (SqL.of upd_same) ((r1.cut lo hi).mono g.ff))
  · cases e
    obtain ⟨a,xs,rfl,h1,r1⟩:=rx.tup
    by_cases hw:HT.sIx xs.length 0 lo=0∧HT.sIx xs.length xs.length hi=xs.length
    · refine .inr (.inr ⟨a,xs,rfl,same_seqT sm h1,hw,q _ F H (.refl sm) (rel_tup h1 ?_)⟩)
      have:=r1.cut lo hi
      have e2:cutV xs lo hi=xs:=by
        unfold cutV
        rw [hw.1,hw.2]
        simp
      rw [e2] at this
      exact this
    · refine .inr (.inl ⟨a,xs,rfl,same_seqT sm h1,hw,fun p hp=>?_⟩)
      have g:=Gr.one (o:=.tup (cutV xs lo hi)) sm hp
      exact q _ _ _ g (rel_tup (SqT.of upd_same) ((r1.cut lo hi).mono g.ff))
  · cases e
section
variable {B:Bd} {a b e:Expr} {es:List Expr} {f g:En→Option PyData} {fs:En→Option (List PyData)} {pos pp p2:Pos} {lo hi:Option Expr} {fl fh:En→Option (Option Int)}
noncomputable def tP (K:PySem.W.Frag) (B:Bd) (f:En→Option (Option Int)):TO:=fun σ H Q=>∃ F η o,SR K B F H σ η∧f η=some o∧∀ F' H',Gr F H F' H'→Q o H'
noncomputable def P (X:Cx) (B:Bd) (e:Option Expr) (f:En→Option (Option Int)):Prop:=PO X e (tP X.K B f)
noncomputable def pN:En→Option (Option Int):=fun _=>some none
noncomputable def asI:PyData→Option Int
  | .int i=>some i
  | _=>none
theorem asI_some {d:PyData} {i:Int} (h:asI d=some i):d=.int i:=by
  cases d <;> simp [asI] at h
  rw [h]
noncomputable def pS (f:En→Option PyData):En→Option (Option Int):=fun η=>(f η).bind fun d=>(asI d).bind fun i=>some (some i)
theorem PO.imp {X:Cx} {e:Option Expr} {t t':TO} (h:PO X e t) (i:∀ σ H Q,t' σ H Q→t σ H Q):PO X e t':=fun pins s σ H Q I q=>h pins s σ H Q I (i σ H Q q)
theorem P.none:P X B none pN:=PO.imp po_none fun σ H Q ⟨F,η,d,sr,hd,q⟩=>by
  cases hd
  exact q F H (.refl sr.same)
theorem P.some (h:E X B e f):P X B (some e) (pS f):=PO.imp (po_some h) fun σ H Q ⟨F,η,d,sr,hd,q⟩=>by
  obtain ⟨x,hx,hd⟩:=bind_some hd
  obtain ⟨i,hi,hd⟩:=bind_some hd
  cases hd
  obtain rfl:=asI_some hi
  exact ⟨F,η,_,sr,hx,fun v F1 H1 g1 rv=>⟨i,rv.int,q F1 H1 g1⟩⟩
noncomputable def eSl (f:En→Option PyData) (fl fh:En→Option (Option Int)):En→Option PyData:=fun η=>(f η).bind fun x=>(fl η).bind fun l=>(fh η).bind fun h=>pSl x l h
theorem E.sl (he:E X B e f) (hl:P X B lo fl) (hu:P X B hi fh):E X B (.Subscript e (.Slice lo hi none p2) pos) (eSl f fl fh):=PE.imp (pe_slice sl_A he hl hu) fun σ H Q ⟨F,η,d,sr,hd,q⟩=>by
  obtain ⟨x,hx,hd⟩:=bind_some hd
  obtain ⟨l,hl,hd⟩:=bind_some hd
  obtain ⟨h,hh,hd⟩:=bind_some hd
  refine ⟨F,η,x,sr,hx,fun v F1 H1 g1 rv=>⟨F1,η,l,sr.grow g1,hl,fun F2 H2 g2=>⟨F2,η,h,(sr.grow g1).grow g2,hh,fun F3 H3 g3=>?_⟩⟩⟩
  exact ad_sl g3.fh (rv.mono (g2.ff.trans g3.ff)) hd fun w F4 H4 g4 rw'=>q w F4 H4 (((g1.trans g2).trans g3).trans g4) rw'
noncomputable def rSum (K:PySem.W.Frag):List V→Hp→VK→Prop:=fun xs H Q=>∃ (p:Addr) (ns:List Int),xs=[.ref p]∧SqL K H p (ns.map V.int)∧Q (.int ns.sum) H
noncomputable def asIs:List PyData→Option (List Int)
  | []=>some []
  | .int i::r=>(asIs r).bind fun ns=>some (i::ns)
  | _::_=>none
theorem asIs_some:∀ {ds:List PyData} {ns:List Int},asIs ds=some ns→ds=ns.map PyData.int
  | [],ns,h=>by cases h; rfl
  | .int i::r,ns,h=>by
    obtain ⟨ms,h1,h2⟩:=bind_some h
    cases h2
    rw [asIs_some h1]; rfl
  | .none::_,_,h=>by cases h
  | .bool _::_,_,h=>by cases h
  | .str _::_,_,h=>by cases h
  | .list _::_,_,h=>by cases h
  | .tuple _::_,_,h=>by cases h
  | .dict _::_,_,h=>by cases h
theorem asIs_ints (ns:List Int):asIs (ns.map PyData.int)=some ns:=by
  induction ns with
  | nil=>rfl
  | cons n r ih=>rw [List.map_cons]; unfold asIs; rw [ih]; rfl
theorem RelL.ints_of {K:PySem.W.Frag} {F:Hp}:∀ {ns:List Int} {xs:List V},RelL K F (ns.map PyData.int) xs→xs=ns.map V.int
  | [],xs,h=>h.nil_of
  | n::r,xs,h=>by
    obtain ⟨x,ys,rfl,h1,h2⟩:=h.cons_of
    rw [h1.int,RelL.ints_of h2]; rfl
noncomputable def pSum (ds:List PyData):Option PyData:=match ds with
  | [.list xs]=>(asIs xs).bind fun ns=>some (.int ns.sum)
  | _=>none
noncomputable def rExtS (K:PySem.W.Frag):V→List V→Hp→VK→Prop:=fun x vs H Q=>∃ l b xs zs,x=.ref l∧vs=[.ref b]∧H l=some (.lst xs)∧SqL K H b zs∧xs.length+zs.length≤sizeLine∧Q .non (upd H l (.lst (xs++zs)))
variable {apos cpos:Pos}
end
end
noncomputable def signD (x:Str):List PyData:=x.cps.toList.map fun c=>PyData.str ⟨#[c]⟩
noncomputable def enumD (ds:List PyData) (i:Nat):List PyData:=match ds with
  | []=>[]
  | d::r=>.tuple [.int i,d]::enumD r (i+1)
theorem enumD_get:∀ (ds:List PyData) (k i:Nat) (d:PyData),(enumD ds k)[i]?=some d→∃ c,ds[i]?=some c∧d=.tuple [.int ((k+i:Nat):Int),c]
  | [],k,i,d,h=>by simp [enumD] at h
  | c::r,k,0,d,h=>by
    simp [enumD] at h
    exact ⟨c,rfl,h.symm⟩
  | c::r,k,i+1,d,h=>by
    have h':(enumD r (k+1))[i]?=some d:=by simpa [enumD] using h
    obtain ⟨c',h1,h2⟩:=enumD_get r (k+1) i d h'
    exact ⟨c',by simpa using h1,by rw [h2,show k+1+i=k+(i+1) by omega]⟩
theorem enumD_len:∀ (ds:List PyData) (k:Nat),(enumD ds k).length=ds.length
  | [],_=>rfl
  | _::r,k=>by rw [enumD,List.length_cons,List.length_cons,enumD_len r]
noncomputable def Ite (x:Str):It:=⟨fun i _=>i < x.cps.size,fun i H v H'=>∃ T c,H T=none∧x.cps[i]?=some c∧v=.ref T∧H'=upd H T (.tup [.int (i:Nat),.str ⟨#[c]⟩]),fun i _=>i=x.cps.size⟩
section
theorem turn_enum {P:Program} {w:World} {K:PySem.W.Frag} {elts:List Expr} {k:Nat} {tp:Pos} {e it:Addr} {x:Str} {St:Nat→Heap→Prop} (hei:e≠it)
    (D:∀ A:Around,A.handled=none→Draws P w A it [it] x.cps.size (fun i v=>∃ c u,x.cps[i]?=some c∧v=.str ⟨#[c]⟩ u) St) (hcell:∀ i h,St i h→∃ o,h.get? it=some o∧∀ v,o.data≠.cell v) :
    Turn P w K (.Tuple elts k tp) (Ite x) [e,it] e (fun i h=>(∃ old,IsEnum h e it i old)∧St i h) where
  mem:=by simp
  obj:=fun i h st b hb=>by
    obtain ⟨⟨old,he⟩,hs⟩:=st
    rcases List.mem_cons.mp hb with rfl | hb
    · exact ⟨_,he,fun v z=>by cases z⟩
    · rw [List.mem_singleton.mp hb]
      exact hcell i h hs
  keep:=fun i h h' st kk=>by
    obtain ⟨⟨old,he⟩,hs⟩:=st
    refine ⟨⟨old,kk e (by simp) _ he⟩,?_⟩
    exact (D { frames:=none,units:=0,depth:=0,handled:=none } rfl).frame i h h' hs fun b hb o q=>kk b (by rw [List.mem_singleton.mp hb]; simp) o q
  item:=by
    intro X hP hw hK hc i pins s σ H E I hf st hg
    subst hP hw hK
    have W:=WalksT.enumerateD (prog:=X.prog) (w:=X.w) (A:=X.A) (D X.A.in1 (I.ok.hd hc)) e hei (by simpa using hei) (by simp)
    refine W.item i s _ _ hg st fun T vals h' tk Pt hT hIs Md kp=>⟨.ref T,rfl,?_⟩
    refine W.go elts k tp i T _ _ _ Md fun h'' st'' kp''=>?_
    obtain ⟨t,xv,⟨c,u,hcx,rfl⟩,rfl⟩:=Pt
    have nT:H T=none:=I.hok.fresh hT
    have aT:T∉[e,it]:=W.apart i T _ Md
    have kall:∀ b o,b∉[e,it]→s.heap.get? b=some o→h''.get? b=some o:=fun b o hb q=>kp'' b o hb (kp b o hb q)
    have hIs'':IsTup h'' T #[.int i t,.str ⟨#[c]⟩ u]:=by
      obtain ⟨o,ho,hcl,n,hd⟩:=hIs
      exact ⟨o,kp'' T o aT ho,hcl,n,hd⟩
    have ltT:∀ b o,s.heap.get? b=some o→b≠T:=fun b o q=>Nat.ne_of_lt (Nat.lt_of_lt_of_le (Heap.lt_size q) hT)
    have nfp:∀ b o,H b=some o→b∉[e,it]:=fun b o q hb=>by rw [(hf b hb).1] at q; cases q
    have J:Inv X pins σ (upd H T (.tup [.int (i:Nat),.str ⟨#[c]⟩])) { s with heap:=h'',toks:=tk }:=by
      refine I.step (h':=h'') (g':=s.gens) (d':=s.drawn) (t':=tk) (ch:=[e,it]) (fun b hb=>⟨(hf b hb).2.2.2.1,(hf b hb).2.1,(hf b hb).2.2.2.2.1,(hf b hb).2.2.2.2.2⟩)
        (fun b o _ _ hb q _=>kall b o hb q) (fun b o _ _ hb q _=>⟨o.slots,kall b o hb q⟩) (fun b o _ q n=>by rw [upd_ne (ltT b o q)]; exact n) (fun b o hb q=>⟨o,kall b o hb q⟩)
        (fun b xs q=>by rw [upd_ne (ne_of_none q nT)]; exact q) (fun b o xs q=>by rw [upd_ne (ne_of_none q nT)]; exact q) (fun b ps q=>⟨#[],by rw [upd_ne (ne_of_none q nT),q]; simp⟩) (fun m hm=>?_) (fun b o q=>?_) I.bare
      · obtain ⟨o,es,ep,ho,r⟩:=hm
        refine ⟨o,es,ep,kall _ o (fun hb=>?_) ho,r⟩
        exact (hf _ hb).2.1 rfl
      · by_cases hb:b=T
        · subst hb
          rw [upd_same] at q
          cases q
          exact ⟨by show 2≤sizeLine; decide,[.int i t,.str ⟨#[c]⟩ u],.cons ⟨t,rfl⟩ (.cons ⟨u,rfl⟩ .nil),hIs''⟩
        · rw [upd_ne hb] at q
          refine (I.hok b o q).stay (fun c' v hc' z=>kall c' v ?_ z) (fun c' z=>by rw [upd_ne (ne_of_none z nT)]; exact z) fun c' xs z=>by rw [upd_ne (ne_of_none z nT)]; exact z
          rcases hc' with rfl | hc'
          · exact nfp _ _ q
          · exact nfp _ _ hc'
    refine ⟨.ref T,upd H T (.tup [.int (i:Nat),.str ⟨#[c]⟩]),J,rfl,⟨T,c,nT,hcx,rfl,rfl⟩,st'',fun b hb=>?_⟩
    have nb:b≠T:=fun z=>aT (by rw [← z]; exact hb)
    rw [upd_ne nb]; exact (hf b hb).1
  done:=by
    intro X hP hw hK hc i pins s σ H E I hf st hg
    subst hP hw hK
    have W:=WalksT.enumerateD (prog:=X.prog) (w:=X.w) (A:=X.A) (D X.A.in1 (I.ok.hd hc)) e hei (by simpa using hei) (by simp)
    have hg':i=x.cps.size:=hg
    rw [hg'] at st
    refine W.done s _ _ st fun h' tk kp=>⟨rfl,?_⟩
    have nfp:∀ b o,H b=some o→b∉[e,it]:=fun b o q hb=>by rw [(hf b hb).1] at q; cases q
    refine I.step (h':=h') (g':=s.gens) (d':=s.drawn) (t':=tk) (ch:=[e,it]) (fun b hb=>⟨(hf b hb).2.2.2.1,(hf b hb).2.1,(hf b hb).2.2.2.2.1,(hf b hb).2.2.2.2.2⟩)
      (fun b o _ _ hb q _=>kp b o hb q) (fun b o _ _ hb q _=>⟨o.slots,kp b o hb q⟩) (fun _ _ _ _ n=>n) (fun b o hb q=>⟨o,kp b o hb q⟩)
      (fun _ _ q=>q) (fun _ _ _ q=>q) (fun b ps q=>⟨#[],by rw [q]; simp⟩) (fun m hm=>?_) (fun b o q=>?_) I.bare
    · obtain ⟨o,es,ep,ho,r⟩:=hm
      exact ⟨o,es,ep,kp _ o (fun hb=>(hf _ hb).2.1 rfl) ho,r⟩
    · refine (I.hok b o q).stay (fun c' v hc' z=>kp c' v ?_ z) (fun _ z=>z) fun _ _ z=>z
      rcases hc' with rfl | hc'
      · exact nfp _ _ q
      · exact nfp _ _ hc'
  self:=fun A i s Q E st h=>by
    obtain ⟨⟨old,he⟩,hs⟩:=st
    exact wpAny_pyIter_enum he h
variable {X:Cx} {B:Bd} {a:Expr} {fs:En→Option (List PyData)} {pos pp:Pos}
noncomputable def enS (ds:List PyData):Option (List PyData):=match ds with
  | [.str x]=>some (enumD (signD x) 0)
  | _=>none
theorem itp_enum {K:PySem.W.Frag} {F:Hp} {x:Str}:ItP K (Ite x) F (enumD (signD x) 0):=fun F1 H1 i s1 s2=>by
  have hl:(enumD (signD x) 0).length=x.cps.size:=by rw [enumD_len]; unfold signD; rw [List.length_map,Array.length_toList]
  refine ⟨fun d e=>?_,fun e=>by show i=_; rw [e,hl]⟩
  have hi:i < x.cps.size:=by rw [← hl]; exact (List.getElem?_eq_some_iff.mp e).1
  refine ⟨hi,fun v H2 y=>?_⟩
  obtain ⟨T,c,hT,hc,rfl,rfl⟩:=y
  obtain ⟨cd,h1,h2⟩:=enumD_get _ _ _ _ e
  have:cd=.str ⟨#[c]⟩:=by
    unfold signD at h1
    rw [List.getElem?_map] at h1
    have hc':x.cps.toList[i]?=some c:=by simpa using hc
    rw [hc'] at h1
    exact (Option.some.inj h1).symm
  subst this
  rw [Nat.zero_add] at h2
  subst h2
  have g:=Gr.one (o:=.tup [.int (i:Nat),.str ⟨#[c]⟩]) s2 hT
  exact ⟨_,g,rel_tup (SqT.of upd_same) (.cons rel_int (.cons rel_str .nil))⟩
theorem I.enum {elts:List Expr} {k:Nat} {tp:Pos} (hc:X.calm=true) (hm:X.mg "enumerate" = none) (ha:A X B [a] fs) (hg:Gl X "enumerate" := by rfl) (hs:starEach [a] X.env=[(false,eval a X.env)]:=by exact star_of rfl) :
    I X B (.Tuple elts k tp) (.Call (.Name "enumerate" pp) [a] [] pos) (fun η=>(fs η).bind enS):=by
  intro pins s σ H R I ⟨F,η,ds,sr,hd,q⟩
  obtain ⟨es,h1,hd⟩:=bind_some hd
  unfold enS at hd
  split at hd
  · rename_i x
    cases hd
    refine Call_ (ld_blt I hg hm boot_enumerate (PyProof.Rows.callWith_type1 (thn (ha pos pins s σ H (fun vs H1=>∃ F',Gr F H F' H1∧RelL X.K F' [.str x] vs) I ⟨F,η,_,sr,h1,fun vs F' H' g r=>⟨F',g,r⟩⟩) fun us s1 ⟨vs,H1,I1,r1,F1,g1,rl⟩=>?_) hs rfl))
    obtain ⟨y,r,rfl,ry,rr⟩:=rl.cons_of
    obtain rfl:=rr.nil_of
    obtain ⟨u,rfl,ru⟩:=vals1 r1
    rw [ry.str] at ru
    obtain ⟨t,rfl⟩:=ru
    refine call_enumerate_str fun h' he hit hsz hk=>?_
    refine wpAny_pyIter_enum he ?_
    have I2:Inv X pins σ H1 { s1 with heap:=h' }:=I1.kept (t':=s1.toks) hk
    have nw:∀ b,s1.heap.objs.size≤b→FpOk X pins H1 b:=fun b hb=>I1.fpOk hb (I1.hok.fresh hb)
    have fpo:∀ b∈[s1.heap.objs.size+1,s1.heap.objs.size],FpOk X pins H1 b:=fun b hb=>by
      rcases List.mem_cons.mp hb with rfl | hb
      · exact nw _ (Nat.le_succ _)
      · rw [List.mem_singleton.mp hb]; exact nw _ (Nat.le_refl _)
    have cel:∀ (ty:String) (i:Nat) (h:Heap),h.IsStrIter s1.heap.objs.size ty x t i→∃ o,h.get? s1.heap.objs.size=some o∧∀ v,o.data≠.cell v:=fun ty i h st=>by
      obtain ⟨o,ho,hcl,hd⟩:=st
      exact ⟨o,ho,fun v z=>by rw [hd] at z; cases z⟩
    cases ha':x.cps.all (· < 128)
    · have hit':h'.IsStrIter s1.heap.objs.size "str_iterator" x t 0:=by simpa [strIterType,ha'] using hit
      exact ⟨_,_,_,_,H1,rfl,I2,turn_enum (Nat.succ_ne_self _) (fun A hA=>Draws.strWide hA _ x t) (cel _),⟨⟨_,he⟩,hit'⟩,fpo,q _ F1 H1 g1 itp_enum⟩
    · have hit':h'.IsStrIter s1.heap.objs.size "str_ascii_iterator" x t 0:=by simpa [strIterType,ha'] using hit
      exact ⟨_,_,_,_,H1,rfl,I2,turn_enum (Nat.succ_ne_self _) (fun A hA=>Draws.strAscii hA _ x t) (cel _),⟨⟨_,he⟩,hit'⟩,fpo,q _ F1 H1 g1 itp_enum⟩
  · cases hd
end
theorem lt_total:∀ a b:List Nat,ltCps a b=true→ltCps b a=false
  | [],[],h=>by simp [ltCps] at h
  | [],_::_,_=>by simp [ltCps]
  | _::_,[],h=>by simp [ltCps] at h
  | x::r,y::t,h=>by
    simp only [ltCps,Bool.or_eq_true,decide_eq_true_eq,Bool.and_eq_true,beq_iff_eq] at h
    simp only [ltCps,Bool.or_eq_false_iff,decide_eq_false_iff_not,Bool.and_eq_false_imp,beq_iff_eq]
    rcases h with h | ⟨rfl,h⟩
    · exact ⟨by omega,fun e=>by omega⟩
    · exact ⟨by omega,fun _=>lt_total r t h⟩
theorem lt_anti:∀ a b:List Nat,ltCps a b=false→ltCps b a=false→a=b
  | [],[],_,_=>rfl
  | [],_::_,h,_=>by simp [ltCps] at h
  | _::_,[],_,h=>by simp [ltCps] at h
  | x::r,y::t,h,k=>by
    simp only [ltCps,Bool.or_eq_false_iff,decide_eq_false_iff_not,Bool.and_eq_false_imp,beq_iff_eq] at h k
    have e:x=y:=by omega
    subst e
    rw [lt_anti r t (h.2 rfl) (k.2 rfl)]
theorem lt_trans:∀ a b c:List Nat,ltCps b a=false→ltCps c b=false→ltCps c a=false
  | [],[],c,_,h=>h
  | [],_::_,[],_,h=>by simp [ltCps]
  | [],y::t,z::u,_,_=>by simp [ltCps]
  | x::r,[],_,h,_=>by simp [ltCps] at h
  | x::r,y::t,[],_,h=>by simp [ltCps] at h
  | x::r,y::t,z::u,h,k=>by
    simp only [ltCps,Bool.or_eq_false_iff,decide_eq_false_iff_not,Bool.and_eq_false_imp,beq_iff_eq] at h k ⊢
    refine ⟨by omega,fun e=>?_⟩
    subst e
    have e:y=z:=by omega
    subst e
    exact lt_trans r t u (h.2 rfl) (k.2 rfl)
noncomputable def leS (a b:Str):Bool:=!ltCps b.cps.toList a.cps.toList
theorem str_ext {a b:Str} (h:a.cps.toList=b.cps.toList):a=b:=by
  obtain ⟨a⟩:=a
  obtain ⟨b⟩:=b
  have:a=b:=Array.toList_inj.mp h
  rw [this]
theorem rising_pw:∀ (l:List Str) (p:Str),risingS p l=true→(p::l).Pairwise (fun a b=>leS a b=true)
  | [],p,_=>by simp
  | x::r,p,h=>by
    have h':(!ltCps x.cps.toList p.cps.toList&&risingS x r)=true:=h
    rw [Bool.and_eq_true] at h'
    have ih:=rising_pw r x h'.2
    refine List.pairwise_cons.mpr ⟨fun b hb=>?_,ih⟩
    rcases List.mem_cons.mp hb with rfl | hb
    · exact h'.1
    · have h2:=List.rel_of_pairwise_cons ih hb
      unfold leS at h2 ⊢
      have h1:=h'.1
      rw [Bool.not_eq_true'] at h1 h2 ⊢
      exact lt_trans _ _ _ h1 h2
theorem sortedS_pw:∀ (l:List Str),sortedS l=true→l.Pairwise (fun a b=>leS a b=true)
  | [],_=>.nil
  | x::r,h=>rising_pw r x h
noncomputable def srtS (ss:List Str):List Str:=ss.mergeSort leS
theorem srtS_pw (ss:List Str):(srtS ss).Pairwise (fun a b=>leS a b=true):=by
  refine List.pairwise_mergeSort (le:=leS) (fun a b c h k=>?_) (fun a b=>?_) ss
  · unfold leS at h k ⊢
    rw [Bool.not_eq_true'] at h k ⊢
    exact lt_trans _ _ _ h k
  · unfold leS
    cases e:ltCps b.cps.toList a.cps.toList with
    | false=>rfl
    | true=>rw [lt_total _ _ e]; rfl
theorem srtS_uniq {ss ts:List Str} (p:ts.Perm ss) (h:sortedS ts=true):ts=srtS ss:=by
  refine List.Perm.eq_of_pairwise (le:=fun a b=>leS a b=true) (fun a b _ _ h k=>?_) (sortedS_pw ts h) (srtS_pw ss) (p.trans (List.mergeSort_perm ss leS).symm)
  unfold leS at h k
  rw [Bool.not_eq_true'] at h k
  exact str_ext (lt_anti _ _ k h)
noncomputable def srtI (ns:List Int):List Int:=ns.mergeSort fun a b=>decide (a≤b)
theorem srtI_pw (ns:List Int):(srtI ns).Pairwise (·≤·):=by
  have h:=List.pairwise_mergeSort (le:=fun (a b:Int)=>decide (a≤b)) (fun a b c h k=>by simp at h k ⊢; omega) (fun a b=>by simp; omega) ns
  exact h.imp fun h=>by simpa using h
theorem srtI_uniq {ns ms:List Int} (p:ms.Perm ns) (h:ms.Pairwise (·≤·)):ms=srtI ns :=
  List.Perm.eq_of_pairwise (le:=(·≤·)) (fun a b _ _ h k=>by omega) h (srtI_pw ns) (p.trans (List.mergeSort_perm ns _).symm)
section
variable {X:Cx}
theorem strsAre_of:∀ {ss:List Str} {us:List Value},Vals (ss.map V.str) us→StrsAre us ss
  | [],_,.nil=>.nil
  | s::r,_,.cons h t=>by
    obtain ⟨k,rfl⟩:=h
    exact .cons s k (strsAre_of t)
theorem vals_strs:∀ {ss:List Str} {us:List Value},StrsAre us ss→Vals (ss.map V.str) us
  | _,_,.nil=>.nil
  | _,_,.cons y t h=>.cons ⟨t,rfl⟩ (vals_strs h)
noncomputable def rSrtS (K:PySem.W.Frag):List V→Hp→VK→Prop:=fun xs H Q=>∃ (p:Addr) (ss:List Str),xs=[.ref p]∧SqL K H p (ss.map V.str)∧ss.length < 64∧∀ l,H l=none→Q (.ref l) (upd H l (.lst ((srtS ss).map V.str)))
noncomputable def rSrtI (K:PySem.W.Frag):List V→Hp→VK→Prop:=fun xs H Q=>∃ (p:Addr) (ns:List Int),xs=[.ref p]∧SqL K H p (ns.map V.int)∧ns.length < 64∧∀ l,H l=none→Q (.ref l) (upd H l (.lst ((srtI ns).map V.int)))
theorem call_srtS:CallR X (.builtin "sorted") (rSrtS X.K):=by
  intro pins s σ H xs us Q I r h
  obtain ⟨p,ss,rfl,hq,h64,q⟩:=h
  obtain ⟨u,rfl,rx⟩:=vals1 r
  cases rx
  obtain ⟨its,rv,pl,hz⟩:=I.list hq
  have hl:=rv.length
  rw [List.length_map] at hl hz
  refine sorted_strs pl.isList (strsAre_of rv) (by omega) fun out ss' hS hp hs=>?_
  have e:=srtS_uniq hp hs
  subst e
  obtain ⟨e',he'⟩:=sortedAll_at s.heap its out
  have hv:=vals_strs hS
  refine ⟨.ref (s.heap.objs.size+1),_,I.laid (t':=s.toks) (o:=.lst ((srtS ss).map V.str)) (fun b o eb=>sortedAll_old eb) (Nat.le_succ _) ?_,rfl,q _ (I.hok.fresh (Nat.le_succ _))⟩
  refine ⟨?_,out.toList,e',hv,by simpa using he'⟩
  rw [List.length_map,hp.length_eq]
  exact hz
theorem call_srtI:CallR X (.builtin "sorted") (rSrtI X.K):=by
  intro pins s σ H xs us Q I r h
  obtain ⟨p,ns,rfl,hq,h64,q⟩:=h
  obtain ⟨u,rfl,rx⟩:=vals1 r
  cases rx
  obtain ⟨its,rv,pl,hz⟩:=I.list hq
  have hl:=rv.length
  rw [List.length_map] at hl hz
  refine sorted_ints pl.isList (intsAre_of rv) (by omega) fun out ns' hS hp hs=>?_
  have e:=srtI_uniq hp hs
  subst e
  obtain ⟨e',he'⟩:=sortedAll_at s.heap its out
  have hv:=vals_ints hS
  refine ⟨.ref (s.heap.objs.size+1),_,I.laid (t':=s.toks) (o:=.lst ((srtI ns).map V.int)) (fun b o eb=>sortedAll_old eb) (Nat.le_succ _) ?_,rfl,q _ (I.hok.fresh (Nat.le_succ _))⟩
  refine ⟨?_,out.toList,e',hv,by simpa using he'⟩
  rw [List.length_map,hp.length_eq]
  exact hz
noncomputable def asSs:List PyData→Option (List Str)
  | []=>some []
  | .str i::r=>(asSs r).bind fun ns=>some (i::ns)
  | _::_=>none
theorem asSs_some:∀ {ds:List PyData} {ns:List Str},asSs ds=some ns→ds=ns.map PyData.str
  | [],ns,h=>by cases h; rfl
  | .str i::r,ns,h=>by
    obtain ⟨ms,h1,h2⟩:=bind_some h
    cases h2
    rw [asSs_some h1]; rfl
  | .none::_,_,h=>by cases h
  | .bool _::_,_,h=>by cases h
  | .int _::_,_,h=>by cases h
  | .list _::_,_,h=>by cases h
  | .tuple _::_,_,h=>by cases h
  | .dict _::_,_,h=>by cases h
theorem RelL.strs_of {K:PySem.W.Frag} {F:Hp}:∀ {ns:List Str} {xs:List V},RelL K F (ns.map PyData.str) xs→xs=ns.map V.str
  | [],xs,h=>h.nil_of
  | n::r,xs,h=>by
    obtain ⟨x,ys,rfl,h1,h2⟩:=h.cons_of
    rw [h1.str,RelL.strs_of h2]; rfl
theorem RelL.strs {K:PySem.W.Frag} {F:Hp}:∀ (ns:List Str),RelL K F (ns.map PyData.str) (ns.map V.str)
  | []=>.nil
  | _::r=>.cons rel_str (RelL.strs r)
noncomputable def pSort (ds:List PyData):Option PyData:=match ds with
  | [.list xs]=>if xs.length < 64 then (match asSs xs with
    | some ss=>some (.list ((srtS ss).map PyData.str))
    | none=>(asIs xs).bind fun ns=>some (.list ((srtI ns).map PyData.int))) else none
  | _=>none
theorem ad_srt {K:PySem.W.Frag}:AdA K (fun xs H Q=>rSrtS K xs H Q∨rSrtI K xs H Q) pSort:=fun F H xs ds d Q sm rs e q=>by
  unfold pSort at e
  split at e
  · rename_i ys
    split at e
    · rename_i h64
      obtain ⟨x,r,rfl,rx,rr⟩:=rs.cons_of
      obtain rfl:=rr.nil_of
      obtain ⟨a,zs,rfl,hq,r1⟩:=rx.lst
      split at e
      · rename_i ss hss
        cases e
        have e1:=asSs_some hss
        subst e1
        have e2:=r1.strs_of
        subst e2
        refine .inl ⟨a,ss,rfl,sm.seq hq,by simpa using h64,fun p hp=>?_⟩
        have g:=Gr.one (o:=.lst ((srtS ss).map V.str)) sm hp
        exact q _ _ _ g (rel_lst (SqL.of upd_same) (RelL.strs _))
      · obtain ⟨ns,h1,h2⟩:=bind_some e
        cases h2
        have e1:=asIs_some h1
        subst e1
        have e2:=r1.ints_of
        subst e2
        refine .inr ⟨a,ns,rfl,sm.seq hq,by simpa using h64,fun p hp=>?_⟩
        have g:=Gr.one (o:=.lst ((srtI ns).map V.int)) sm hp
        exact q _ _ _ g (rel_lst (SqL.of upd_same) (RelL.ints _))
    · cases e
  · cases e
variable {B:Bd} {a b e:Expr} {es:List Expr} {f g:En→Option PyData} {fs:En→Option (List PyData)} {pos pp apos cpos:Pos}
theorem E.sorted (hm:X.mg "sorted" = none) (ha:A X B [e] fs) (hg:Gl X "sorted" := by rfl) (he:starEach [e] X.env=(false,eval e X.env)::starEach [] X.env:=by exact star_of rfl) (hpl:(backTo pos (starEach [] X.env)).any (·.1)=false:=by rfl):E X B (.Call (.Name "sorted" pp) [e] [] pos) (lA pSort fs) :=
  E.callB (call_srtS.or call_srtI) ad_srt hm boot_sorted ha hg (by decide) (by decide) he hpl
noncomputable def rIdx (K:PySem.W.Frag):V→List V→Hp→VK→Prop:=fun x vs H Q=>∃ l xs y j,x=.ref l∧vs=[y]∧SqL K H l xs∧flatV y=true∧xs.all flatV=true∧xs.findIdx? (fun z=>eqV z y)=some j∧Q (.int (j:Nat)) H
noncomputable def pIdx (x y:PyData):Option PyData:=match x with
  | .list ds=>if flatD y=true∧ds.all flatD=true then (ds.findIdx? fun z=>PyData.eqv z y).bind fun j=>some (.int (j:Nat)) else none
  | _=>none
end
noncomputable def compChk (N:List Str) (sc scope:Scope) (N':List Str) (mp:List (Option Nat)):Bool :=
  decide (scope.kind=.function)&&decide (sc.kind=.function)&&decide (∀ x∈scope.names,x.2≠.cell)&&decide (∀ x∈scope.names,x.2=.local→scope.names.lookup x.1=some .local) &&
  decide (∀ x∈scope.names,x.2=.free→sc.names.lookup x.1=some .cell)&&decide (mp.length=N'.length) &&
  (N'.zip mp).all fun p=>match p.2 with
    | none=>true
    | some j=>decide (N[j]?=some p.1)&&decide (scope.names.lookup p.1=some .free)
theorem lookup_relabel_free {env:Env} (hk:env.scope.kind=.function):∀ {names:List (Str×NameKind)} {x:Str},names.lookup x=some .free→env.kindOf x=some .cell →
    (names.map fun (n,k)=>if (k==NameKind.free&&env.scope.kind==.function&&env.kindOf n==some .cell) then (n,NameKind.cell) else (n,k)).lookup x=some .cell
  | [],_,h,_=>by simp at h
  | (n,k)::r,x,h,hc=>by
    have ih:=@lookup_relabel_free env hk r x
    show List.lookup x ((if (k==NameKind.free&&env.scope.kind==.function&&env.kindOf n==some .cell)=true then (n,NameKind.cell) else (n,k))::_)=_
    cases hx:x==n with
    | true =>
      have en:x=n:=by simpa using hx
      subst en
      simp only [List.lookup_cons,hx] at h
      cases h
      rw [if_pos (by rw [hk,hc]; rfl)]
      simp [List.lookup_cons]
    | false =>
      simp only [List.lookup_cons,hx] at h
      split <;> simp only [List.lookup_cons,hx] <;> exact ih h hc
theorem CompSc.of {X:Cx} {scope:Scope} {N':List Str} {mp:List (Option Nat)} (h:compChk X.N X.env.scope scope N' mp=true):CompSc X scope N' mp:=by
  unfold compChk at h
  simp only [Bool.and_eq_true,decide_eq_true_eq] at h
  obtain ⟨⟨⟨⟨⟨⟨h1,h0⟩,h2⟩,h3⟩,h4⟩,h5⟩,h6⟩:=h
  refine ⟨h1,h2,h3,fun x hx hf=>.inl (h4 x hx hf),h5,fun i x j e1 e2=>?_⟩
  have hm:(x,some j)∈N'.zip mp:=by
    have:(N'.zip mp)[i]?=some (x,some j):=by rw [List.getElem?_zip_eq_some]; exact ⟨e1,e2⟩
    exact List.mem_of_getElem? this
  have h7:=List.all_eq_true.mp h6 _ hm
  simp only [Bool.and_eq_true,decide_eq_true_eq] at h7
  have hmem:(x,NameKind.free)∈scope.names:=PySem.mem_of_lookup h7.2
  exact ⟨h7.1,hmem,.inl (lookup_relabel_free h0 h7.2 (h4 _ hmem rfl))⟩
theorem E.globI {X:Cx} {B:Bd} {x:Str} {i:Int} {t:Tok} {pos:Pos} (hm:X.mg x=some (.int i t)) (hg:Gl X x:=by rfl) (hd:(x==("__debug__" : Str))=false:=by decide):E X B (.Name x pos) (eC (.int i)):=E.glob hm (v:=.int i) ⟨t,rfl⟩ (fun _=>rel_int) hg hd
theorem tg_len1 {t:En→PyData→Option En}:∀ η ds η',tgCons t tgNil η ds=some η'→ds.length=1:=fun η ds η' h=>by
  match ds,h with
  | [_],_=>rfl
  | _::_::_,h=>obtain ⟨_,_,h⟩:=bind_some h; cases h
theorem tg_len2 {t u:En→PyData→Option En}:∀ η ds η',tgCons t (tgCons u tgNil) η ds=some η'→ds.length=2:=fun η ds η' h=>by
  match ds,h with
  | d::r,h =>
    obtain ⟨η1,_,h⟩:=bind_some h
    rw [List.length_cons,tg_len1 _ _ _ h]
theorem CompSc.of' {X:Cx} {scope:Scope} {N':List Str} {mp:List (Option Nat)} (N:List Str) (sc:Scope) (hN:X.N=N) (hs:X.env.scope=sc) (h:compChk N sc scope N' mp=true):CompSc X scope N' mp:=CompSc.of (by rw [hN,hs]; exact h)
noncomputable def tyD:PyData→String
  | .none => "NoneType"
  | .bool _ => "bool"
  | .int _ => "int"
  | .str _ => "str"
  | .list _ => "list"
  | .tuple _ => "tuple"
  | .dict _ => "dict"
noncomputable def isB (T:String) (d:PyData):Bool:=match d with
  | .bool _=>T == "bool" || T == "int"
  | d=>tyD d==T
section
variable {X:Cx}
noncomputable def rIsin (K:PySem.W.Frag) (T:String):List V→Hp→VK→Prop:=fun xs H Q=>∃ x F d,xs=[x,.ty T]∧Same F H∧Rel K F d x∧Q (.bl (isB T d)) H
variable {B:Bd} {a b e:Expr} {es:List Expr} {f g:En→Option PyData} {fs:En→Option (List PyData)} {pos pp tp apos cpos pos':Pos} {sts:List Stmt} {u:En→Option Out} {p:En→Option Bool}
noncomputable def pIsin (T:String) (d:PyData):Option PyData:=some (.bool (isB T d))
noncomputable def asBs:List PyData→Option (List Bool)
  | []=>some []
  | .bool i::r=>(asBs r).bind fun ns=>some (i::ns)
  | _::_=>none
theorem asBs_some:∀ {ds:List PyData} {ns:List Bool},asBs ds=some ns→ds=ns.map PyData.bool
  | [],ns,h=>by cases h; rfl
  | .bool i::r,ns,h=>by
    obtain ⟨ms,h1,h2⟩:=bind_some h
    cases h2
    rw [asBs_some h1]; rfl
  | .none::_,_,h=>by cases h
  | .str _::_,_,h=>by cases h
  | .int _::_,_,h=>by cases h
  | .list _::_,_,h=>by cases h
  | .tuple _::_,_,h=>by cases h
  | .dict _::_,_,h=>by cases h
theorem asBs_bools (ns:List Bool):asBs (ns.map PyData.bool)=some ns:=by
  induction ns with
  | nil=>rfl
  | cons n r ih=>rw [List.map_cons]; unfold asBs; rw [ih]; rfl
theorem RelL.bools_of {K:PySem.W.Frag} {F:Hp}:∀ {ns:List Bool} {xs:List V},RelL K F (ns.map PyData.bool) xs→xs=ns.map V.bl
  | [],xs,h=>h.nil_of
  | n::r,xs,h=>by
    obtain ⟨x,ys,rfl,h1,h2⟩:=h.cons_of
    rw [h1.bl,RelL.bools_of h2]; rfl
theorem range_any (bs:List Bool):(List.range bs.length).any (fun i=>bs.getD i false)=bs.any id:=by
  rw [Bool.eq_iff_iff,List.any_eq_true,List.any_eq_true]
  constructor
  · rintro ⟨i,hi,h⟩
    have hi:=List.mem_range.mp hi
    rw [List.getD_eq_getElem?_getD,List.getElem?_eq_getElem hi] at h
    exact ⟨_,List.getElem_mem hi,h⟩
  · rintro ⟨x,hx,h⟩
    obtain ⟨i,hi,rfl⟩:=List.mem_iff_getElem.mp hx
    exact ⟨i,List.mem_range.mpr hi,by rw [List.getD_eq_getElem?_getD,List.getElem?_eq_getElem hi]; exact h⟩
noncomputable def rBools (K:PySem.W.Frag) (r:List Bool→Bool):List V→Hp→VK→Prop:=fun xs H Q=>∃ (p:Addr) (bs:List Bool),xs=[.ref p]∧SqL K H p (bs.map V.bl)∧Q (.bl (r bs)) H
theorem bools_walk (hc:X.calm=true) {pins:List (Addr×Obj)} {s:Shared} {σ:St} {H:Hp} {p:Addr} {bs:List Bool} {Q:Bool→Value→Shared→Prop} {r:(Nat→Bool)→Nat→Bool} (I:Inv X pins σ H s) (hq:SqL X.K H p (bs.map V.bl))
    (hQ:∀ h' tk,(∀ b o,s.heap.get? b=some o→h'.get? b=some o)→Q true (.bool (r (fun i=>bs.getD i false) bs.length)) { s with heap:=h',toks:=tk }) :
    wpAny (model X.prog X.w) X.A.in1 (pyIter (.ref p)) (fun it s₂=>∃ I fp wr n P St tr,it=.ref I∧Walks X.prog X.w X.A.in1 I fp wr n P St∧St 0 s₂.heap∧TruthOf X.prog X.w X.A.in1 P tr ∧
      ∀ h' tk,(∀ b o,b∉wr→s₂.heap.get? b=some o→h'.get? b=some o)→Q true (.bool (r tr n)) { s₂ with heap:=h',toks:=tk }) X.xe s:=by
  obtain ⟨its,rv,pl,hz⟩:=I.list hq
  have hl:=rv.length
  rw [List.length_map] at hl
  have hlt:p < s.heap.objs.size:=by
    obtain ⟨o,ho,_⟩:=pl.isList
    exact Heap.lt_size ho
  refine wpAny_pyIter_list pl.isList ?_
  refine ⟨s.heap.objs.size,_,_,_,_,_,fun i=>bs.getD i false,rfl,Walks.list (A:=X.A.in1) (I.ok.hd hc) s.heap.objs.size p (Nat.ne_of_lt hlt) its.toArray,⟨⟨_,Heap.get?_push_size _ rfl,rfl,rfl⟩,pl.isList.at fun o e=>Heap.get?_push_of_some _ e⟩,?_,fun h' tk hk=>?_⟩
  · intro i v s' Q' E' hv hq'
    have hv':its[i]?=some v:=by simpa using hv
    obtain ⟨hi,_⟩:=List.getElem?_eq_some_iff.mp hv'
    have hn:bs[i]?=some bs[i]:=List.getElem?_eq_getElem (by omega)
    obtain ⟨w,hw,rw'⟩:=rv.get (i:=i) (x:=.bl bs[i]) (by rw [List.getElem?_map,hn]; rfl)
    rw [hv'] at hw
    cases hw
    cases rw'
    have e:bs.getD i false=bs[i]:=by rw [List.getD_eq_getElem?_getD,hn]; rfl
    rw [show (fun i=>bs.getD i false) i=bs[i] from e] at hq'
    exact wpAny_truthy_bool hq'
  · have e:its.toArray.size=bs.length:=by rw [List.size_toArray]; exact hl.symm
    rw [e]
    refine hQ h' tk fun b o eb=>hk b o ?_ (Heap.get?_push_of_some _ eb)
    intro hb
    exact absurd (Heap.lt_size eb) (by rw [List.mem_singleton.mp hb]; exact Nat.lt_irrefl _)
theorem call_any (hc:X.calm=true):CallR X (.builtin "any") (rBools X.K fun bs=>bs.any id):=by
  intro pins s σ H xs us Q I r h
  obtain ⟨p,bs,rfl,hq,q⟩:=h
  obtain ⟨u,rfl,rx⟩:=vals1 r
  cases rx
  refine call_any_walk (bools_walk hc (Q:=fun _ v s'=>EP X pins σ Q v s') (r:=fun tr n=>(List.range n).any tr) I hq fun h' tk k=>?_)
  rw [range_any]
  exact ⟨.bl _,H,I.kept k,rfl,q⟩
noncomputable def pBools (r:List Bool→Bool) (ds:List PyData):Option PyData:=match ds with
  | [.list xs]=>(asBs xs).bind fun bs=>some (.bool (r bs))
  | _=>none
theorem ad_bools {K:PySem.W.Frag} {r:List Bool→Bool}:AdA K (rBools K r) (pBools r):=fun F H xs ds d Q sm rs e q=>by
  unfold pBools at e
  split at e
  · obtain ⟨bs,h1,h2⟩:=bind_some e
    cases h2
    have:=asBs_some h1
    subst this
    obtain ⟨x,r,rfl,rx,rr⟩:=rs.cons_of
    obtain rfl:=rr.nil_of
    obtain ⟨a,ys,rfl,hq,r1⟩:=rx.lst
    have:=r1.bools_of
    subst this
    exact ⟨a,bs,rfl,sm.seq hq,q _ F H (.refl sm) rel_bl⟩
  · cases e
noncomputable def pAll:=pBools fun bs=>bs.all id
noncomputable def pAny:=pBools fun bs=>bs.any id
theorem E.any (hc:X.calm=true) (hm:X.mg "any" = none) (ha:A X B [e] fs) (hg:Gl X "any" := by rfl) (he:starEach [e] X.env=(false,eval e X.env)::starEach [] X.env:=by exact star_of rfl) (hpl:(backTo pos (starEach [] X.env)).any (·.1)=false:=by rfl):E X B (.Call (.Name "any" pp) [e] [] pos) (lA pAny fs) :=
  E.callB (call_any hc) ad_bools hm (by decide +kernel) ha hg (by decide) (by decide) he hpl
noncomputable def pMax (ds:List PyData):Option PyData:=match ds with
  | [.int i,.int j]=>some (.int (if j > i then j else i))
  | _=>none
noncomputable def pMin (ds:List PyData):Option PyData:=match ds with
  | [.int i,.int j]=>some (.int (if j < i then j else i))
  | _=>none
noncomputable def pInt (ds:List PyData):Option PyData:=match ds with
  | [.int i]=>some (.int i)
  | [.bool k]=>some (.int (if k then 1 else 0))
  | _=>none
noncomputable def sAug (i:Nat) (f:En→Option PyData):En→Option Out:=fun η=>(eV i η).bind fun x=>(f η).bind fun y=>match x,y with
  | .int n,.int m=>some (.nx (η.set i (.val (.int (n+m)))))
  | _,_=>none
noncomputable def sWh (c:En→Option Bool) (body:En→Option Out):Nat→En→Option Out
  | 0,_=>none
  | n+1,η=>(c η).bind fun b=>if b=true then (body η).bind fun o=>match o with
    | .nx η'=>sWh c body n η'
    | .ct η'=>sWh c body n η'
    | .bk η'=>some (.nx η')
    | .rt d=>some (.rt d) else some (.nx η)
noncomputable def tInO (neg:Bool) (f:En→Option PyData) (i:Nat):En→Option Bool:=fun η=>(f η).bind fun x=>match η[i]? with
  | some (.own ds)=>(pIn neg x (.list ds)).bind asB
  | _=>none
end
noncomputable def Its (x:Str):It:=⟨fun i _=>i < x.cps.size,fun i H v H'=>H'=H∧∃ c,x.cps[i]?=some c∧v=.str ⟨#[c]⟩,fun i _=>i=x.cps.size⟩
section
variable {X:Cx} {B:Bd} {e:Expr} {f:En→Option PyData} {tg:Expr}
noncomputable def asSg:PyData→Option (List PyData)
  | .str x=>some (signD x)
  | _=>none
end
section
variable {X:Cx} {B:Bd} {a b e:Expr} {f g:En→Option PyData} {apos cpos:Pos}
noncomputable def rJoin (K:PySem.W.Frag):V→List V→Hp→VK→Prop:=fun x vs H Q=>∃ z p ss,x=.str z∧vs=[.ref p]∧SqL K H p (ss.map V.str)∧JoinOk z ss=true∧Q (.str (Txt.join z ss)) H
noncomputable def pJoin (x y:PyData):Option PyData:=match x,y with
  | .str z,.list ds=>(asSs ds).bind fun ss=>if JoinOk z ss=true then some (.str (Txt.join z ss)) else none
  | _,_=>none
end
section
variable {X:Cx} {B:Bd} {a b e:Expr} {f g:En→Option PyData} {pos:Pos}
noncomputable def sUnp (f:En→Option PyData) (t:En→PyData→Option En):En→Option Out:=fun η=>(f η).bind fun d=>(t η d).bind fun η'=>some (.nx η')
noncomputable def isNn:PyData→Bool
  | .none=>true
  | _=>false
noncomputable def pIsN (neg:Bool) (x y:PyData):Option PyData:=match y with
  | .none=>some (.bool (if neg then !isNn x else isNn x))
  | _=>none
end
noncomputable def Itv (K:PySem.W.Frag) (a:Addr) (n:Nat):It :=
  ⟨fun i H=>i < n∧∃ xs x,SqL K H a xs∧xs[n - 1 - i]?=some x,fun i H x H'=>H'=H∧∀ xs,SqL K H a xs→xs[n - 1 - i]?=some x,fun i _=>i=n⟩
theorem turn_rev {P:Program} {w:World} {K:PySem.W.Frag} {tg:Expr} (a it:Addr) (n:Nat):Turn P w K tg (Itv K a n) [it] it (fun i h=>h.IsRevIter it a ((n:Int) - 1 - (i:Nat))) where
  mem:=by simp
  obj:=fun i h st b hb=>by
    have e:b=it:=by simpa using hb
    subst e
    obtain ⟨o,e,c,d⟩:=st
    exact ⟨o,e,fun v z=>by rw [d] at z; cases z⟩
  keep:=fun i h h' st k=>st.at fun o e=>k it (by simp) o e
  item:=by
    intro X hP hw hK hc i pins s σ H E I hf st hg
    subst hP hw hK
    obtain ⟨hi,xs,x,hq,hx⟩:=hg
    obtain ⟨its,rv,p,hz⟩:=I.list hq
    obtain ⟨u,hu,ru⟩:=rv.get hx
    obtain ⟨f0,f1,f2,f3,f4,f5⟩:=hf it (by simp)
    have ei:(n:Int) - 1 - (i:Nat)=((n - 1 - i:Nat):Int):=by omega
    rw [ei] at st
    refine wpAny_pyNext_rev_item st p.isList (x:=u) (by simpa using hu) fun h' st' sb=>?_
    have I1:Inv X pins σ H { s with heap:=h' }:=I.turned (t':=s.toks) (fun b o hb e=>(sb.2 b hb).trans e) f0 f1 f3 f4 f5
    have st2:h'.IsRevIter it a ((n:Int) - 1 - ((i+1:Nat):Nat)):=by
      have e2:((n - 1 - i:Nat):Int) - 1=(n:Int) - 1 - ((i+1:Nat):Nat):=by omega
      rw [← e2]; exact st'
    obtain ⟨o,e,c,d⟩:=id st'
    exact ⟨u,rfl,go_of (s:={ s with heap:=h' }) e c d (by decide) ⟨x,H,I1,ru,⟨rfl,fun ys hy=>by rw [I.list_inj hy hq]; exact hx⟩,st2,fun b hb=>(hf b hb).1⟩⟩
  done:=by
    intro X hP hw hK hc i pins s σ H E I hf st hg
    subst hP hw hK
    obtain ⟨f0,f1,f2,f3,f4,f5⟩:=hf it (by simp)
    have hg:i=n:=hg
    have ei:(n:Int) - 1 - (i:Nat)=-1:=by omega
    rw [ei] at st
    exact wpAny_pyNext_rev_end (I.ok.hd hc) st fun h' eb=>⟨rfl,I.turned (t':=s.toks) (fun b o hb e=>eb b o hb e) f0 f1 f3 f4 f5⟩
  self:=fun _ _ _ _ _ st h=>wpAny_pyIter_revIter st h
section
variable {X:Cx} {B:Bd} {a:Expr} {fs:En→Option (List PyData)} {pos pp:Pos}
noncomputable def rvS (ds:List PyData):Option (List PyData):=match ds with
  | [.list xs]=>some xs.reverse
  | _=>none
theorem itp_rev {K:PySem.W.Frag} {F:Hp} {p:Addr} {ds:List PyData} {xs:List V} (hq:SqL K F p xs) (rs:RelL K F ds xs):ItP K (Itv K p ds.length) F ds.reverse:=fun F1 H1 i s1 s2=>by
  refine ⟨fun d e=>?_,fun e=>by show i=ds.length; rw [e,List.length_reverse]⟩
  have hi:i < ds.length:=by
    have:=(List.getElem?_eq_some_iff.mp e).1
    rwa [List.length_reverse] at this
  rw [List.getElem?_reverse hi] at e
  obtain ⟨x,hx,rx⟩:=rs.get e
  have hq1:SqL K H1 p xs:=s2.seq (s1.seq hq)
  refine ⟨⟨hi,xs,x,hq1,hx⟩,fun v H2 y=>?_⟩
  obtain ⟨rfl,y⟩:=y
  have:=(y xs hq1).symm.trans hx
  cases this
  exact ⟨F1,.refl s2,rx.mono s1⟩
theorem I.rev {tg:Expr} (hc:X.calm=true) (hm:X.mg "reversed" = none) (ha:A X B [a] fs) (hg:Gl X "reversed" := by rfl) (hs:starEach [a] X.env=[(false,eval a X.env)]:=by exact star_of rfl) :
    I X B tg (.Call (.Name "reversed" pp) [a] [] pos) (fun η=>(fs η).bind rvS):=by
  intro pins s σ H R I ⟨F,η,ds,sr,hd,q⟩
  obtain ⟨es,h1,hd⟩:=bind_some hd
  unfold rvS at hd
  split at hd
  · rename_i x
    cases hd
    refine Call_ (ld_blt I hg hm (show bootBuiltins "reversed" = some (.type "reversed") by decide +kernel) (PyProof.Rows.callWith_type1 (thn (ha pos pins s σ H (fun vs H1=>∃ F',Gr F H F' H1∧RelL X.K F' [.list x] vs) I ⟨F,η,_,sr,h1,fun vs F' H' g r=>⟨F',g,r⟩⟩) fun us s1 ⟨vs,H1,I1,r1,F1,g1,rl⟩=>?_) hs rfl))
    obtain ⟨y,r,rfl,ry,rr⟩:=rl.cons_of
    obtain rfl:=rr.nil_of
    obtain ⟨u,rfl,ru⟩:=vals1 r1
    obtain ⟨p,xs,rfl,hq,rs⟩:=ry.lst
    cases ru
    obtain ⟨its,rv,pl,hz⟩:=I1.list (g1.fh.seq hq)
    refine call_reversed_list pl.isList ?_
    have hl:its.toArray.size=x.length:=by
      have h1:=rv.length
      have h2:=rs.length
      rw [List.size_toArray]
      omega
    have st:(s1.heap.push (revObj p ((its.toArray.size:Int) - 1))).IsRevIter s1.heap.objs.size p ((x.length:Int) - 1 - ((0:Nat):Nat)):=by
      refine ⟨_,Heap.get?_push_size _ rfl,rfl,?_⟩
      have e2:(its.toArray.size:Int) - 1=(x.length:Int) - 1 - ((0:Nat):Nat):=by rw [hl]; omega
      rw [← e2]; rfl
    refine wpAny_pyIter_revIter st ?_
    refine ⟨_,[s1.heap.objs.size],_,_,H1,rfl,I1.kept (t':=s1.toks) fun b o e=>Heap.get?_push_of_some _ e,turn_rev p _ x.length,st,fun b hb=>?_,q _ F1 H1 g1 (itp_rev hq rs)⟩
    rw [List.mem_singleton.mp hb]
    exact I1.fpOk (Nat.le_refl _) (I1.hok.fresh (Nat.le_refl _))
  · cases hd
end
section
variable {X:Cx} {B:Bd} {a b e:Expr} {f g:En→Option PyData} {fs:En→Option (List PyData)} {pos:Pos}
noncomputable def eRep (fs:En→Option (List PyData)) (g:En→Option PyData):En→Option PyData:=fun η=>(fs η).bind fun ds=>(g η).bind fun y=>(asI y).bind fun k =>
  if 0≤k∧k < 1000∧ds.length*k.toNat≤1000 then some (.list (List.replicate k.toNat ds).flatten) else none
end
section
variable {X:Cx} {B:Bd} {e st:Expr} {f g:En→Option PyData} {pos p2:Pos}
noncomputable def pRv (x y:PyData):Option PyData:=match x with
  | .list ds=>(asI y).bind fun k=>if k=-1 then some (.list ds.reverse) else none
  | _=>none
end
section
variable {X:Cx} {B:Bd} {pos pp:Pos}
noncomputable def eLenO (i:Nat):En→Option PyData:=fun η=>match η[i]? with
  | some (.own ds)=>some (.int ds.length)
  | _=>none
end
noncomputable def keyOf:PyData→Option Key
  | .int i=>some (.inl i)
  | .str x=>some (.inr x)
  | _=>none
theorem keyOf_kD (k:Key):keyOf (kD k)=some k:=by cases k <;> rfl
noncomputable def lookD (es:List (PyData×PyData)) (k:Key):Option PyData:=(es.find? fun e=>decide (keyOf e.1=some k)).map (·.2)
noncomputable def putP (kvs:List (Key×PyData)) (k:Key) (d:PyData):List (Key×PyData) :=
  if (kvs.any fun kv=>decide (kv.1=k))=true then kvs.map (fun kv=>if kv.1=k then (kv.1,d) else kv) else kvs++[(k,d)]
theorem kD_inj {a b:Key} (h:kD a=kD b):a=b:=by
  have:=congrArg keyOf h
  rw [keyOf_kD,keyOf_kD] at this
  exact Option.some.inj this
section
variable {X:Cx} {B:Bd} {o e e2 a b:Expr} {f g h:En→Option PyData} {pos pos' apos cpos npos:Pos}
noncomputable def pGet2 (x y z:PyData):Option PyData:=match x with
  | .dict es=>(keyOf y).bind fun k=>some ((lookD es k).getD z)
  | _=>none
noncomputable def eGet2 (f g h:En→Option PyData):En→Option PyData:=fun η=>(f η).bind fun x=>(g η).bind fun y=>(h η).bind fun z=>pGet2 x y z
theorem Room.one {k:Nat} {A:Around} (hr:Room k A):A.units+1 < cLine:=by have:=hr.units; omega
noncomputable def pInD (neg:Bool) (x y:PyData):Option Bool:=match y with
  | .dict es=>(keyOf x).bind fun k=>some (if neg then !(lookD es k).isSome else (lookD es k).isSome)
  | _=>none
noncomputable def tInD (neg:Bool) (f g:En→Option PyData):En→Option Bool:=fun η=>(f η).bind fun x=>(g η).bind fun y=>pInD neg x y
noncomputable def sSetD (i:Nat):En→Option Out:=fun η=>some (.nx (η.set i (.odc [])))
noncomputable def eGet2O (i:Nat) (g h:En→Option PyData):En→Option PyData:=fun η=>match η[i]? with
  | some (.odc kvs)=>(g η).bind fun y=>(h η).bind fun z=>(keyOf y).bind fun k=>some ((lookD (prs kvs) k).getD z)
  | _=>none
noncomputable def sPutD (i:Nat) (g h:En→Option PyData):En→Option Out:=fun η=>(h η).bind fun d=>(g η).bind fun y=>(keyOf y).bind fun k=>match η[i]? with
  | some (.odc kvs)=>if kvs.length < sizeLine then some (.nx (η.set i (.odc (putP kvs k d)))) else none
  | _=>none
end
section
variable {X:Cx}
open Classical in
noncomputable def eOf (h:Heap) (dx:PyData) (w:Value):Bool:=if q:∃ d as,Reads h w d as∧d.canLay0=true then PyData.eqv q.choose dx else false
noncomputable def lowD (d:PyData):Bool:=d.canLay0&&decide (d.depth≤8)
noncomputable def rInS (K:PySem.W.Frag) (neg:Bool):R2:=fun x y H Q=>∃ F dx ds p xs,Same F H∧Rel K F dx x∧y=.ref p∧SqL K H p xs∧RelL K F ds xs∧dx.canLay0=true∧ds.all lowD=true∧Q (.bl (if neg then !(ds.any fun d=>PyData.eqv d dx) else ds.any fun d=>PyData.eqv d dx)) H
variable {B:Bd} {a:Expr} {f:En→Option PyData} {pos:Pos}
noncomputable def tInS (neg:Bool) (f:En→Option PyData) (i:Nat):En→Option Bool:=fun η=>(f η).bind fun x=>match η[i]? with
  | some (.own ds)=>if x.canLay0=true∧ds.all lowD=true then some (if neg then !(ds.any fun d=>PyData.eqv d x) else ds.any fun d=>PyData.eqv d x) else none
  | _=>none
end
section
variable {K:PySem.W.Frag} {F F':Hp}
theorem flat_rel {d:PyData} {v:V} (h:flatD d=true) (r:Rel K F' d v):Rel K F d v:=by
  cases d with
  | none=>rw [r.non]; exact rel_non
  | bool b=>rw [r.bl]; exact rel_bl
  | int i=>rw [r.int]; exact rel_int
  | str x=>rw [r.str]; exact rel_str
  | list ds=>cases h
  | tuple ds=>cases h
  | dict es=>cases h
theorem flat_rels:∀ {ds:List PyData} {vs:List V},ds.all flatD=true→RelL K F' ds vs→RelL K F ds vs
  | [],vs,_,r=>by rw [r.nil_of]; exact .nil
  | d::ds,vs,h,r=>by
    rw [List.all_cons,Bool.and_eq_true] at h
    obtain ⟨x,xs,rfl,h1,h2⟩:=r.cons_of
    exact .cons (flat_rel h.1 h1) (flat_rels h.2 h2)
end
theorem Gr.back {F H F1 F' H':Hp} (sm:Same F H) (g:Gr F1 H F' H'):Gr F H F H':=⟨.refl _,g.hh,sm.trans g.hh,fun _ z=>.inl z⟩
section
variable {X:Cx} {B:Bd} {e:Expr} {f:En→Option PyData} {fs:En→Option (List PyData)} {p:En→Option Bool}
noncomputable def lendE (j:Nat) (f:En→Option PyData):En→Option PyData:=fun η=>(f (frz j η)).bind fun d=>if flatD d=true then some d else none
noncomputable def lendO (j:Nat) (f:En→Option (List PyData)):En→Option (List PyData):=fun η=>(f (frz j η)).bind fun ds=>if ds.all flatD=true then some ds else none
noncomputable def lendT (j:Nat) (f:En→Option Bool):En→Option Bool:=fun η=>f (frz j η)
end
section
variable {X:Cx} {B:Bd} {e o:Expr} {f g:En→Option PyData} {fs:En→Option (List PyData)} {pos pp rp rpos:Pos}
noncomputable def pAbs (ds:List PyData):Option PyData:=match ds with
  | [.int i]=>some (.int (if i < 0 then -i else i))
  | _=>none
noncomputable def rRng:List V→Hp→VK→Prop:=fun xs H Q=>∃ j:Int,xs=[.int j]∧∀ l,H l=none→Q (.ref l) (upd H l (.rng 0 j))
theorem call_rng:CallR X (.type "range") rRng:=by
  intro pins s σ H xs us Q I r h
  obtain ⟨j,rfl,q⟩:=h
  obtain ⟨u,rfl,ru⟩:=vals1 r
  obtain ⟨t,rfl⟩:=ru
  refine call_range_1 ⟨.ref s.heap.objs.size,_,I.laid (t':=s.toks+1+1) (fun b o e=>Heap.get?_push_of_some _ e) (Nat.le_refl _) ?_,rfl,q _ (I.hok.fresh (Nat.le_refl _))⟩
  exact ⟨_,_,_,Heap.get?_push_size _ rfl⟩
noncomputable def intsV (n:Nat):List V:=(List.range n).map fun (k:Nat)=>V.int (0+(k:Int))
noncomputable def rLRng:List V→Hp→VK→Prop:=fun xs H Q=>∃ (p:Addr) (j:Int),xs=[.ref p]∧H p=some (.rng 0 j)∧-(2 ^ 62)≤j∧j < 2 ^ 62∧j.toNat≤1000∧∀ l,H l=none→Q (.ref l) (upd H l (.lst (intsV j.toNat)))
theorem vals_rng:∀ (n:Nat) (l:List Value),l.length=n→(∀ j v,l[j]?=some v→∃ t,v=Value.int (0+(j:Nat)*1) t)→Vals (intsV n) l:=by
  intro n
  induction n with
  | zero =>
    intro l hl _
    have:l=[]:=List.eq_nil_of_length_eq_zero hl
    subst this
    exact .nil
  | succ n ih =>
    intro l hl h
    have hne:l≠[]:=by intro z; subst z; simp at hl
    have e:=List.dropLast_concat_getLast hne
    have hd:l.dropLast.length=n:=by rw [List.length_dropLast,hl]; rfl
    have i1:=ih l.dropLast hd fun j v hv=>h j v (by
      have hj:j < l.dropLast.length:=(List.getElem?_eq_some_iff.mp hv).1
      rw [← e,List.getElem?_append_left hj]
      exact hv)
    obtain ⟨t,ht⟩:=h n (l.getLast hne) (by
      conv=>lhs; rw [← e]
      rw [List.getElem?_append_right (by omega),hd]
      simp)
    have e2:intsV (n+1)=intsV n++[V.int (0+(n:Int))]:=by
      unfold intsV
      rw [List.range_succ,List.map_append]; rfl
    rw [e2,← e,ht]
    refine i1.append (.cons ⟨t,?_⟩ .nil)
    show Value.int (0+(n:Nat)*1) t=Value.int (0+(n:Int)) t
    rw [Int.mul_one]
theorem call_list_rng (hh:X.A.handled=none):CallR X (.type "list") rLRng:=by
  intro pins s σ H xs us Q I r h
  obtain ⟨p,j,rfl,hp,h1,h2,h3,q⟩:=h
  obtain ⟨u,rfl,ru⟩:=vals1 r
  cases ru
  obtain ⟨t,u,v,ho⟩:=(show ObjOk X.prog X.w H s.heap p (.rng 0 j) from I.hok p _ hp)
  refine call_list_range (n:=j.toNat) hh ho (small_one (by decide) (by decide) h1 h2) (by rw [rangeSize_one]; split <;> omega) (Nat.le_trans h3 (by decide)) fun h' tk acc' c' kp hS hit=>?_
  refine ⟨.ref s.heap.objs.size,_,I.laid (t':=tk) kp (Nat.le_refl _) (o:=.lst (intsV j.toNat)) ?_,rfl,q _ (I.hok.fresh (Nat.le_refl _))⟩
  refine ⟨by unfold intsV; rw [List.length_map,List.length_range]; exact Nat.le_of_lt (small1000 h3),acc'.toList,c',vals_rng _ _ (by rw [Array.length_toList]; exact hit.1) fun k v hv=>hit.2 k v (by simpa using hv),?_⟩
  simpa using hS
end
end L2.PU
namespace L2.PU
open PySem PySem.Spec PyProof.Rows
noncomputable def Itd (p:Addr) (ob:Obj) (ks:List (Key×V)):It :=
  ⟨fun i H=>i < ks.length∧H p=some (.frz ob (.dK ks)),fun i H x H'=>H'=H∧∃ k v,ks[i]?=some (k,v)∧x=kV k,fun i H=>i=ks.length∧H p=some (.frz ob (.dK ks))⟩
theorem at_of_held {P:Program} {w:World} {H:Hp} {h:Heap} {p:Addr} {ob:Obj} {ks:List (Key×V)} {es:Array DictEntry} {ep:Nat} (hd:ob.data=.dict es ep) (ok:HOk P w H h) (e:H p=some (.frz ob (.dK ks))) :
    (p==sysModules)=false∧∃ vs,KV ks vs∧h.DictAt (mixKind P w) p vs ep:=by
  obtain ⟨h1,z,y,vs,r,o2,es2,ep2,g,c,d,rest⟩:=(show ObjOk P w H h p (.frz ob (.dK ks)) from ok p _ e)
  rw [h1] at g
  cases g
  rw [hd] at d
  cases d
  exact ⟨y,vs,r,ob,es,h1,c,hd,rest⟩
theorem key_rel {k:Key} {v:Value} (h:keyIs k v=true):RelV (kV k) v:=by
  rcases keyIs_shape h with ⟨i,t,rfl,rfl⟩ | ⟨x,t,rfl,rfl⟩
  · exact ⟨t,rfl⟩
  · exact ⟨t,rfl⟩
section
variable {X:Cx} {B:Bd} {pos npos:Pos} {tg:Expr}
noncomputable def iDict (i:Nat):TI:=fun σ H R=>∃ p ob ks,σ[i]?=some (some (.ref p))∧H p=some (.frz ob (.dK ks))∧R (Itd p ob ks) H
noncomputable def keysD (kvs:List (Key×PyData)):List PyData:=kvs.map fun e=>kD e.1
noncomputable def sForD (i:Nat) (t:En→PyData→Option En) (body:En→Option Out):En→Option Out:=fun η=>match η[i]? with
  | some (.odc kvs)=>sGo t body (keysD kvs) (frz i η)
  | _=>none
theorem RelD.keys {K:PySem.W.Frag} {F:Hp}:∀ {kvs:List (Key×PyData)} {ks:List (Key×V)},RelD K F (prs kvs) ks→kvs.map (·.1)=ks.map (·.1)
  | [],ks,h=>by rw [h.nil_of]; rfl
  | (k',d)::kvs,ks,h=>by
    obtain ⟨k2,x,r,rfl,e,h3,h4⟩:=RelD.cons_of (d:=kD k') (e:=d) (es:=prs kvs) h
    have:=kD_inj e
    subst this
    rw [List.map_cons,List.map_cons,RelD.keys h4]
end
end L2.PU
namespace L2.PU
open PySem PySem.Spec PyProof.Rows
section
variable {X:Cx} {B:Bd} {e o:Expr} {f g:En→Option PyData} {fs:En→Option (List PyData)} {pos pos' pp rp rpos:Pos}
noncomputable def lrS (ds:List PyData):Option (List PyData):=match ds with
  | [.int j]=>if -(2 ^ 62)≤j∧j < 2 ^ 62∧j.toNat≤1000 then some (rngL 0 j.toNat) else none
  | _=>none
theorem rel_rng {K:PySem.W.Frag} {F:Hp} (n:Nat):RelL K F (rngL 0 n) (intsV n):=by
  have:=RelL.ints (K:=K) (F:=F) ((List.range n).map fun (k:Nat)=>(0:Int)+(k:Int))
  rw [List.map_map,List.map_map] at this
  exact this
theorem EO.lrng {k:Nat} (hr:Room k X.A) (hl:X.mg "list" = none) (hrg:X.mg "range" = none) (ha:A X B [e] fs) (hg1:Gl X "list" := by rfl) (hg2:Gl X "range" := by rfl)
    (he:starEach [e] X.env=(false,eval e X.env)::starEach [] X.env:=by exact star_of rfl) (hpl:(backTo rpos (starEach [] X.env)).any (·.1)=false:=by rfl)
    (he2:starEach [.Call (.Name "range" rp) [e] [] rpos] X.env=(false,eval (.Call (.Name "range" rp) [e] [] rpos) X.env)::starEach [] X.env:=by rfl) (hpl2:(backTo pos (starEach [] X.env)).any (·.1)=false:=by rfl) :
    EO X B (.Call (.Name "list" pp) [.Call (.Name "range" rp) [e] [] rpos] [] pos) (fun η=>(fs η).bind lrS) :=
  PE.imp (pe_callTy (call_list_rng hr.hd) hg1 hl (by decide +kernel) (pa_cons (pe_callTy call_rng hg2 hrg (by decide +kernel) ha (by decide) (by decide) he hpl) pa_nil he2) (by decide) (by decide) he2 hpl2) fun σ H Q ⟨F,η,ds,sr,hd,q⟩=>by
    obtain ⟨es,hx,hd⟩:=bind_some hd
    unfold lrS at hd
    split at hd
    · rename_i j
      split at hd
      · rename_i hc
        cases hd
        refine ⟨F,η,_,sr,hx,fun vs F1 H1 g1 rs=>?_⟩
        obtain ⟨y,r,rfl,ry,rr⟩:=rs.cons_of
        obtain rfl:=rr.nil_of
        rw [ry.int]
        refine ⟨j,rfl,fun l hl=>⟨l,j,rfl,upd_same,hc.1,hc.2.1,hc.2.2,fun l2 hl2=>?_⟩⟩
        have hn:H1 l2=none:=by
          by_cases z:l2=l
          · rw [z]; exact hl
          · rw [upd_ne z] at hl2; exact hl2
        have hh2:Same H1 (upd (upd H1 l (.rng 0 j)) l2 (.lst (intsV j.toNat))):=(same_new hl _).trans (same_new hl2 _)
        have g2:Gr F1 H1 F1 (upd (upd H1 l (.rng 0 j)) l2 (.lst (intsV j.toNat))):=⟨.refl _,hh2,g1.fh.trans hh2,fun _ z=>.inl z⟩
        exact q l2 _ F1 _ (g1.trans g2) (g1.hh.free hn) (g1.fh.free hn) upd_same (rel_rng _)
      · cases hd
    · cases hd
noncomputable def pAtD (x y:PyData):Option PyData:=match x with
  | .dict es=>(keyOf y).bind fun k=>lookD es k
  | _=>none
end
section
variable {X:Cx} {B:Bd}
noncomputable abbrev PF:=(En→Option PyData)×(En→Option PyData)
noncomputable def DP (X:Cx) (B:Bd) (pos:Pos) (keys:List (Option Expr)) (values:List Expr) (ps:List PF):Prop:=PPs X pos keys values (ps.map fun p=>(tE X.K B p.1,tE X.K B p.2))
noncomputable def evP:List PF→En→Option (List (PyData×PyData))
  | [],_=>some []
  | (f,g)::r,η=>(f η).bind fun x=>(g η).bind fun y=>(evP r η).bind fun l=>some ((x,y)::l)
noncomputable def keysOf:List (PyData×PyData)→Option (List (Key×PyData))
  | []=>some []
  | (x,y)::r=>(keyOf x).bind fun k=>(keysOf r).bind fun l=>some ((k,y)::l)
noncomputable def RelP (K:PySem.W.Frag) (F:Hp):List (PyData×PyData)→List (V×V)→Prop
  | [],ps=>ps=[]
  | (x,y)::r,ps=>∃ u v t,ps=(u,v)::t∧Rel K F x u∧Rel K F y v∧RelP K F r t
noncomputable def mergeP (acc more:List (Key×PyData)):List (Key×PyData):=more.foldl (fun acc kv=>putP acc kv.1 kv.2) acc
noncomputable def sSetDL (i:Nat) (ps:List PF):En→Option Out:=fun η=>(evP ps η).bind fun es=>(keysOf es).bind fun kvs=>if kvs.length≤15 then some (.nx (η.set i (.odc (mergeP [] kvs)))) else none
end
end L2.PU
namespace L2.PU
open PySem PySem.Spec PyProof.Rows
noncomputable def Itel (K:PySem.W.Frag) (l:Addr) (n:Nat):It :=
  ⟨fun i H=>i < n∧∃ xs x,SqL K H l xs∧xs.length=n∧xs[i]?=some x,fun i H v H'=>∃ T x,H T=none∧(∀ xs,SqL K H l xs→xs[i]?=some x)∧v=.ref T∧H'=upd H T (.tup [.int (i:Nat),x]),fun i H=>i=n∧∃ xs,SqL K H l xs∧xs.length=n⟩
section
variable {X:Cx} {B:Bd} {a:Expr} {fs:En→Option (List PyData)} {pos pp:Pos}
noncomputable def enL (ds:List PyData):Option (List PyData):=match ds with
  | [.list xs]=>some (enumD xs 0)
  | _=>none
end
end L2.PU
namespace L2.PU
open PySem PySem.Spec PyProof.Rows
section
variable {X:Cx} {B:Bd} {e:Expr} {f g:En→Option PyData} {fs:En→Option (List PyData)} {pos pp:Pos}
noncomputable def keysP (es:List (PyData×PyData)):List PyData:=es.map (·.1)
noncomputable def rListD:List V→Hp→VK→Prop:=fun xs H Q=>∃ (p:Addr) (ks:List (Key×V)),xs=[.ref p]∧Rd H p (.dK ks)∧∀ l,H l=none→Q (.ref l) (upd H l (.lst (ks.map fun kv=>kV kv.1)))
noncomputable def pListD (ds:List PyData):Option PyData:=match ds with
  | [.dict es]=>some (.list (keysP es))
  | _=>none
noncomputable def rSortDI:List V→Hp→VK→Prop:=fun xs H Q=>∃ (p:Addr) (ks:List (Key×V)) (ns:List Int),xs=[.ref p]∧Rd H p (.dK ks)∧ks.map (·.1)=ns.map Sum.inl∧ns.length < 64∧∀ l,H l=none→Q (.ref l) (upd H l (.lst ((srtI ns).map V.int)))
noncomputable def pSortD (ds:List PyData):Option PyData:=match ds with
  | [.dict es]=>(asIs (keysP es)).bind fun ns=>if ns.length < 64 then some (.list ((srtI ns).map PyData.int)) else none
  | _=>none
noncomputable def delP (kvs:List (Key×PyData)) (k:Key):List (Key×PyData):=kvs.filter fun kv=>decide (kv.1≠k)
noncomputable def sPopD (i:Nat) (g:En→Option PyData):En→Option Out:=fun η=>(g η).bind fun y=>(keyOf y).bind fun k=>match η[i]? with
  | some (.odc kvs)=>if (lookD (prs kvs) k).isSome=true then some (.nx (η.set i (.odc (delP kvs k)))) else none
  | _=>none
end
end L2.PU
namespace L2.PU
open PySem PySem.Spec PyProof.Rows
end L2.PU
namespace L2.PU
open PySem PySem.Spec PyProof.Rows
noncomputable def Itz (K:PySem.W.Frag) (l1 l2:Addr) (n:Nat):It :=
  ⟨fun i H=>i < n∧∃ xs ys x y,SqL K H l1 xs∧SqL K H l2 ys∧min xs.length ys.length=n∧xs[i]?=some x∧ys[i]?=some y,
   fun i H v H'=>∃ T x y,H T=none∧(∀ xs,SqL K H l1 xs→xs[i]?=some x)∧(∀ ys,SqL K H l2 ys→ys[i]?=some y)∧v=.ref T∧H'=upd H T (.tup [x,y]),
   fun i H=>i=n∧∃ xs ys,SqL K H l1 xs∧SqL K H l2 ys∧min xs.length ys.length=n⟩
section
variable {X:Cx} {B:Bd} {a b:Expr} {fs:En→Option (List PyData)} {pos pp:Pos}
noncomputable def zpD:List PyData→List PyData→List PyData
  | x::xs,y::ys=>.tuple [x,y]::zpD xs ys
  | _,_=>[]
noncomputable def zpL (ds:List PyData):Option (List PyData):=match ds with
  | [.list xs,.list ys]=>some (zpD xs ys)
  | _=>none
end
section
variable {X:Cx} {B:Bd} {e:Expr} {fs:En→Option (List PyData)} {pos pp:Pos}
noncomputable def rListL (K:PySem.W.Frag):List V→Hp→VK→Prop:=fun xs H Q=>∃ (p:Addr) (ys:List V),xs=[.ref p]∧SqL K H p ys∧∀ l,H l=none→Q (.ref l) (upd H l (.lst ys))
noncomputable def pListL (ds:List PyData):Option PyData:=match ds with
  | [.list xs]=>some (.list xs)
  | _=>none
noncomputable def sBk:En→Option Out:=fun η=>some (.bk η)
end
end L2.PU
namespace L2.PU
open PySem PySem.Spec PyProof.Rows
inductive D where
  | d (x:PyData)
  | r (n:Nat)
inductive Cell where
  | obj (k:Nat) (fs:List (Str×D))
  | lst (ds:List D)
  | dct (kvs:List (Key×D))
  | fz (x:PyData)
noncomputable abbrev Sto:=List Cell
noncomputable abbrev MEn:=List (Option D)
noncomputable def DR (K:PySem.W.Frag) (θ:List Addr) (F:Hp):D→V→Prop
  | .d x,v=>Rel K F x v
  | .r n,v=>∃ a,θ[n]?=some a∧v=.ref a
noncomputable abbrev DRs (K:PySem.W.Frag) (θ:List Addr) (F:Hp):List D→List V→Prop:=Paired (DR K θ F)
noncomputable abbrev DRf (K:PySem.W.Frag) (θ:List Addr) (F:Hp):List (Str×D)→List (Str×V)→Prop:=Paired fun p q=>p.1=q.1∧DR K θ F p.2 q.2
noncomputable abbrev DRk (K:PySem.W.Frag) (θ:List Addr) (F:Hp):List (Key×D)→List (Key×V)→Prop:=Paired fun p q=>p.1=q.1∧DR K θ F p.2 q.2
noncomputable def CelR (K:PySem.W.Frag) (cl:Nat→Addr) (θ:List Addr) (F H:Hp) (a:Addr):Cell→Prop
  | .obj k fs=>F a=none∧Cls K (cl k)∧(∀ f∈fs.map (·.1),NoAttr K (cl k) f)∧∃ dx xs,H a=some (.ins (cl k) dx xs)∧DRf K θ F fs xs
  | .lst ds=>F a=none∧∃ xs,H a=some (.lst xs)∧DRs K θ F ds xs
  | .dct kvs=>F a=none∧∃ ks,H a=some (.dK ks)∧DRk K θ F kvs ks
  | .fz x=>Rel K F x (.ref a)∧∃ o,H a=some o
structure MR (K:PySem.W.Frag) (cl:Nat→Addr) (θ:List Addr) (F H:Hp) (s:Sto):Prop where
  sm:Same F H
  len:θ.length=s.length
  nd:θ.Nodup
  cel:∀ (n:Nat) a c,θ[n]?=some a→s[n]?=some c→CelR K cl θ F H a c
structure MV (K:PySem.W.Frag) (θ:List Addr) (F:Hp) (σ:St) (η:MEn):Prop where
  len:η.length=σ.length
  val:∀ (i:Nat) d,η[i]?=some (some d)→∃ v,σ[i]?=some (some v)∧DR K θ F d v
section
variable {K:PySem.W.Frag} {cl:Nat→Addr} {θ θ':List Addr} {F F' H H':Hp} {s:Sto} {σ:St} {η:MEn}
theorem pre_get {α:Type} {l l':List α} (h:l <+: l') {n:Nat} {a:α} (e:l[n]?=some a):l'[n]?=some a:=by
  obtain ⟨t,rfl⟩:=h
  rw [List.getElem?_append_left (List.getElem?_eq_some_iff.mp e).1]; exact e
theorem DR.mono (hp:θ <+: θ') (hs:Same F F'):∀ {d:D} {v:V},DR K θ F d v→DR K θ' F' d v
  | .d _,_,h=>Rel.mono hs h
  | .r _,_,⟨a,e1,e2⟩=>⟨a,pre_get hp e1,e2⟩
theorem DRs.mono (hp:θ <+: θ') (hs:Same F F') {ds:List D} {vs:List V} (h:DRs K θ F ds vs):DRs K θ' F' ds vs:=Paired.mapP h fun _ _ r=>DR.mono hp hs r
theorem DRf.mono (hp:θ <+: θ') (hs:Same F F') {ds:List (Str×D)} {vs:List (Str×V)} (h:DRf K θ F ds vs):DRf K θ' F' ds vs:=Paired.mapP h fun _ _ r=>⟨r.1,DR.mono hp hs r.2⟩
theorem DRk.mono (hp:θ <+: θ') (hs:Same F F') {ds:List (Key×D)} {vs:List (Key×V)} (h:DRk K θ F ds vs):DRk K θ' F' ds vs:=Paired.mapP h fun _ _ r=>⟨r.1,DR.mono hp hs r.2⟩
theorem MV.mono (hp:θ <+: θ') (hs:Same F F') (h:MV K θ F σ η):MV K θ' F' σ η:=⟨h.len,fun i d e=>let ⟨v,e1,e2⟩:=h.val i d e; ⟨v,e1,e2.mono hp hs⟩⟩
theorem MV.set (h:MV K θ F σ η) (i:Nat) {d:D} {v:V} (r:DR K θ F d v):MV K θ F (σ.set i (some v)) (η.set i (some d)):=by
  refine ⟨by rw [List.length_set,List.length_set]; exact h.len,fun j d' e=>?_⟩
  by_cases hj:i=j
  · subst hj
    by_cases hl:i < η.length
    · rw [List.getElem?_set_self hl] at e
      have e':d=d':=Option.some.inj (Option.some.inj e)
      subst e'
      exact ⟨v,by rw [List.getElem?_set_self (by rw [← h.len]; exact hl)],r⟩
    · rw [List.getElem?_eq_none (by rw [List.length_set]; omega)] at e; cases e
  · rw [List.getElem?_set_ne hj] at e ⊢; exact h.val j d' e
theorem DRs.get {ds:List D} {vs:List V} (h:DRs K θ F ds vs) {i:Nat} {d:D} (e:ds[i]?=some d):∃ v,vs[i]?=some v∧DR K θ F d v:=by
  induction h generalizing i with
  | nil=>simp at e
  | @cons a b as bs r t ih =>
    cases i with
    | zero=>simp at e; subst e; exact ⟨b,rfl,r⟩
    | succ i=>exact ih (by simpa using e)
theorem MR.grow (m:MR K cl θ F H s) (g:Gr F H F' H'):MR K cl θ F' H' s where
  sm:=g.fh
  len:=m.len
  nd:=m.nd
  cel:=fun n a c e1 e2=>by
    have q:=m.cel n a c e1 e2
    have fr:F a=none→∀ o,H a=some o→F' a=none:=fun hF o hH=>by
      cases z:F' a with
      | none=>rfl
      | some u =>
        rcases g.new a (by rw [z]; simp) with y | y
        · exact absurd hF y
        · rw [hH] at y; cases y
    cases c with
    | obj k fs =>
      obtain ⟨h1,h2,h3,dx,xs,h4,h5⟩:=q
      exact ⟨fr h1 _ h4,h2,h3,dx,xs,g.hh _ _ h4,h5.mono (List.prefix_refl _) g.ff⟩
    | lst ds =>
      obtain ⟨h1,xs,h4,h5⟩:=q
      exact ⟨fr h1 _ h4,xs,g.hh _ _ h4,h5.mono (List.prefix_refl _) g.ff⟩
    | dct kvs =>
      obtain ⟨h1,xs,h4,h5⟩:=q
      exact ⟨fr h1 _ h4,xs,g.hh _ _ h4,h5.mono (List.prefix_refl _) g.ff⟩
    | fz x=>exact ⟨Rel.mono g.ff q.1,let ⟨o,e⟩:=q.2; ⟨o,g.hh _ _ e⟩⟩
noncomputable def Mu:Cell→Bool
  | .fz _=>false
  | _=>true
theorem CelR.mut {a:Addr} {c:Cell} (h:CelR K cl θ F H a c) (hm:Mu c=true):F a=none∧∃ o,H a=some o:=by
  cases c with
  | obj k fs=>obtain ⟨h1,_,_,dx,xs,h4,_⟩:=h; exact ⟨h1,_,h4⟩
  | lst ds=>obtain ⟨h1,xs,h4,_⟩:=h; exact ⟨h1,_,h4⟩
  | dct kvs=>obtain ⟨h1,xs,h4,_⟩:=h; exact ⟨h1,_,h4⟩
  | fz x=>cases hm
theorem CelR.else {a b:Addr} {o:HO} {c:Cell} (h:CelR K cl θ F H a c) (hne:a≠b):CelR K cl θ F (upd H b o) a c:=by
  cases c with
  | obj k fs=>obtain ⟨h1,h2,h3,dx,xs,h4,h5⟩:=h; exact ⟨h1,h2,h3,dx,xs,by rw [upd_ne hne]; exact h4,h5⟩
  | lst ds=>obtain ⟨h1,xs,h4,h5⟩:=h; exact ⟨h1,xs,by rw [upd_ne hne]; exact h4,h5⟩
  | dct kvs=>obtain ⟨h1,xs,h4,h5⟩:=h; exact ⟨h1,xs,by rw [upd_ne hne]; exact h4,h5⟩
  | fz x=>exact ⟨h.1,let ⟨o,e⟩:=h.2; ⟨o,by rw [upd_ne hne]; exact e⟩⟩
theorem CelR.pre {a:Addr} {c:Cell} (hp:θ <+: θ') (h:CelR K cl θ F H a c):CelR K cl θ' F H a c:=by
  cases c with
  | obj k fs=>obtain ⟨h1,h2,h3,dx,xs,h4,h5⟩:=h; exact ⟨h1,h2,h3,dx,xs,h4,h5.mono hp (.refl _)⟩
  | lst ds=>obtain ⟨h1,xs,h4,h5⟩:=h; exact ⟨h1,xs,h4,h5.mono hp (.refl _)⟩
  | dct kvs=>obtain ⟨h1,xs,h4,h5⟩:=h; exact ⟨h1,xs,h4,h5.mono hp (.refl _)⟩
  | fz x=>exact h
theorem nd_ne {l:List Addr} (h:l.Nodup) {i j:Nat} {a b:Addr} (e1:l[i]?=some a) (e2:l[j]?=some b) (hne:i≠j):a≠b:=fun z=>by
  subst z
  obtain ⟨l1,q1⟩:=List.getElem?_eq_some_iff.mp e1
  obtain ⟨l2,q2⟩:=List.getElem?_eq_some_iff.mp e2
  have pw:=List.pairwise_iff_getElem.mp h
  rcases Nat.lt_or_gt_of_ne hne with z | z
  · exact pw i j l1 l2 z (q1.trans q2.symm)
  · exact pw j i l2 l1 z (q2.trans q1.symm)
theorem MR.put (m:MR K cl θ F H s) {n:Nat} {a:Addr} {c c':Cell} {o:HO} (e1:θ[n]?=some a) (e2:s[n]?=some c) (hm:Mu c=true) (h:CelR K cl θ F (upd H a o) a c'):MR K cl θ F (upd H a o) (s.set n c') where
  sm:=fun b u q=>by
    have nb:b≠a:=ne_of_none q (CelR.mut (m.cel n a c e1 e2) hm).1
    rw [upd_ne nb]; exact m.sm b u q
  len:=by rw [List.length_set]; exact m.len
  nd:=m.nd
  cel:=fun k b c2 f1 f2=>by
    by_cases hk:n=k
    · subst hk
      rw [List.getElem?_set_self (List.getElem?_eq_some_iff.mp e2).1] at f2
      cases f2
      rw [e1] at f1
      cases f1
      exact h
    · rw [List.getElem?_set_ne hk] at f2
      exact (m.cel k b c2 f1 f2).else (nd_ne m.nd f1 e1 (Ne.symm hk))
theorem CelR.there {a:Addr} {c:Cell} (h:CelR K cl θ F H a c):∃ o,H a=some o:=by
  cases c with
  | obj k fs=>obtain ⟨_,_,_,dx,xs,h4,_⟩:=h; exact ⟨_,h4⟩
  | lst ds=>obtain ⟨_,xs,h4,_⟩:=h; exact ⟨_,h4⟩
  | dct kvs=>obtain ⟨_,xs,h4,_⟩:=h; exact ⟨_,h4⟩
  | fz x=>exact h.2
theorem MR.ne (m:MR K cl θ F H s) {a:Addr} (ha:H a=none) {k:Nat} {b:Addr} (e:θ[k]?=some b):b≠a:=fun z=>by
  subst z
  have hk:k < s.length:=by rw [← m.len]; exact (List.getElem?_eq_some_iff.mp e).1
  obtain ⟨o,h⟩:=(m.cel k b _ e (List.getElem?_eq_getElem hk)).there
  rw [ha] at h; cases h
theorem MR.new (m:MR K cl θ F H s) {a:Addr} {c:Cell} {o:HO} (ha:H a=none) (h:CelR K cl (θ++[a]) F (upd H a o) a c):MR K cl (θ++[a]) F (upd H a o) (s++[c]) where
  sm:=fun b u q=>by
    have nb:b≠a:=ne_of_none q (m.sm.free ha)
    rw [upd_ne nb]; exact m.sm b u q
  len:=by rw [List.length_append,List.length_append,m.len]; rfl
  nd:=by
    rw [List.nodup_append]
    refine ⟨m.nd,by simp,fun b hb b' hb'=>?_⟩
    rw [List.mem_singleton.mp hb']
    obtain ⟨k,hk⟩:=List.getElem?_of_mem hb
    exact m.ne ha hk
  cel:=fun k b c2 f1 f2=>by
    by_cases hk:k < θ.length
    · rw [List.getElem?_append_left hk] at f1
      rw [List.getElem?_append_left (by rw [← m.len]; exact hk)] at f2
      exact ((m.cel k b c2 f1 f2).else (m.ne ha f1)).pre (List.prefix_append _ _)
    · have hk1:k=θ.length:=by
        have:=(List.getElem?_eq_some_iff.mp f1).1
        rw [List.length_append] at this
        have e1:[a].length=1:=rfl
        omega
      subst hk1
      rw [List.getElem?_append_right (Nat.le_refl _),Nat.sub_self] at f1
      rw [List.getElem?_append_right (by rw [m.len]; exact Nat.le_refl _),m.len,Nat.sub_self] at f2
      cases f1
      cases f2
      exact h
theorem MR.more (m:MR K cl θ F H s) {a:Addr} {o:HO} (ha:H a=none):MR K cl θ F (upd H a o) s where
  sm:=fun b u q=>by
    have nb:b≠a:=ne_of_none q (m.sm.free ha)
    rw [upd_ne nb]; exact m.sm b u q
  len:=m.len
  nd:=m.nd
  cel:=fun k b c f1 f2=>(m.cel k b c f1 f2).else (m.ne ha f1)
end
end L2.PU
namespace L2.PU
open PySem PySem.Spec PyProof.Rows
structure Wd where
  η:MEn
  s:Sto
noncomputable def pD (s:Sto):D→Option PyData
  | .d x=>some x
  | .r n=>match s[n]? with | some (.fz x)=>some x | _=>none
noncomputable def dOnly:D→Option PyData
  | .d x=>some x
  | .r _=>none
noncomputable def dAll:List D→Option (List PyData)
  | []=>some []
  | d::r=>(dOnly d).bind fun x=>(dAll r).bind fun xs=>some (x::xs)
noncomputable def dKvs:List (Key×D)→Option (List (Key×PyData))
  | []=>some []
  | (k,d)::r=>(dOnly d).bind fun x=>(dKvs r).bind fun xs=>some ((k,x)::xs)
noncomputable def lD (s:Sto):D→Option PyData
  | .d x=>some x
  | .r n=>match s[n]? with
    | some (.fz x)=>some x
    | some (.lst ds)=>(dAll ds).bind fun xs=>some (.list xs)
    | some (.dct kvs)=>(dKvs kvs).bind fun xs=>some (.dict (prs xs))
    | _=>none
noncomputable def vwS (g:D→Option PyData) (s:Sto):Option D→Sl
  | none=>.un
  | some (.d x)=>.val x
  | some (.r n)=>match s[n]? with
    | some (.obj _ fs)=>.ob fun f=>(fs.lookup f).bind g
    | _=>match g (.r n) with | some x=>.val x | none=>.un
noncomputable def vw (w:Wd):En:=w.η.map (vwS (pD w.s) w.s)
noncomputable def vwL (w:Wd):En:=w.η.map (vwS (lD w.s) w.s)
section
variable {K:PySem.W.Frag} {cl:Nat→Addr} {θ θ':List Addr} {F F' H H':Hp} {s:Sto} {σ:St} {η:MEn} {w:Wd}
theorem DRf.look {fs:List (Str×D)} {xs:List (Str×V)} (h:DRf K θ F fs xs) (f:Str):(∀ d,fs.lookup f=some d→∃ v,xs.lookup f=some v∧DR K θ F d v)∧(fs.lookup f=none→xs.lookup f=none):=by
  induction h with
  | nil=>exact ⟨fun d e=>(by cases e),fun _=>rfl⟩
  | @cons a b as bs r t ih =>
    obtain ⟨ka,da⟩:=a
    obtain ⟨kb,vb⟩:=b
    have e:ka=kb:=r.1
    subst e
    by_cases hk:f=ka
    · subst hk
      simp only [List.lookup_cons_self]
      exact ⟨fun d e=>(by cases e; exact ⟨vb,rfl,r.2⟩),fun e=>(by cases e)⟩
    · have hb:(f==ka)=false:=by simpa using hk
      simp only [List.lookup_cons,hb]
      exact ih
theorem look_mem {fs:List (Str×D)} {f:Str} {d:D} (h:fs.lookup f=some d):f∈fs.map (·.1):=by
  induction fs with
  | nil=>cases h
  | cons a r ih =>
    obtain ⟨k,x⟩:=a
    by_cases hk:f=k
    · subst hk; simp
    · have hb:(f==k)=false:=by simpa using hk
      simp only [List.lookup_cons,hb] at h
      exact List.mem_cons_of_mem _ (ih h)
noncomputable def Sees (K:PySem.W.Frag) (θ:List Addr) (F Fv:Hp) (g:D→Option PyData):Prop:=∀ d x v,g d=some x→DR K θ F d v→Rel K Fv x v
theorem vw_sr {g:D→Option PyData} {Fv:Hp} (m:MR K cl θ F H s) (e:MV K θ F σ η) (hs:Same Fv H) (hg:Sees K θ F Fv g) (hd:∀ x,g (.d x)=some x):SR K ⟨Fv,H⟩ Fv H σ (η.map (vwS g s)):=by
  have no:∀ (i:Nat) a,(η.map (vwS g s))[i]?=some a→isOwn a=false:=fun i a q=>by
    rw [List.getElem?_map] at q
    cases h:η[i]? with
    | none=>rw [h] at q; cases q
    | some o =>
      rw [h] at q
      have q':vwS g s o=a:=Option.some.inj q
      subst q'
      unfold vwS
      split
      · rfl
      · rfl
      · split
        · rfl
        · split <;> rfl
  refine ⟨.refl hs,⟨by rw [List.length_map]; exact e.len,fun i x q=>?_,fun i a q ha=>(by rw [no i a q] at ha; cases ha),fun i _ a _ q _ ha _ _=>(by rw [no i a q] at ha; cases ha),fun i fs q=>?_⟩⟩
  · rw [List.getElem?_map] at q
    cases h:η[i]? with
    | none=>rw [h] at q; cases q
    | some o =>
      rw [h] at q
      have q':vwS g s o=.val x:=Option.some.inj q
      unfold vwS at q'
      split at q'
      · cases q'
      · rename_i y
        have:y=x:=by injection q'
        subst this
        obtain ⟨v,e1,e2⟩:=e.val i _ h
        exact ⟨v,e1,hg _ _ _ (hd y) e2⟩
      · rename_i n
        split at q'
        · cases q'
        · split at q'
          · rename_i y hy
            have:y=x:=by injection q'
            subst this
            obtain ⟨v,e1,e2⟩:=e.val i _ h
            exact ⟨v,e1,hg _ _ _ hy e2⟩
          · cases q'
  · rw [List.getElem?_map] at q
    cases h:η[i]? with
    | none=>rw [h] at q; cases q
    | some o =>
      rw [h] at q
      have q':vwS g s o=.ob fs:=Option.some.inj q
      unfold vwS at q'
      split at q'
      · cases q'
      · cases q'
      · rename_i n
        split at q'
        · rename_i k fs0 hc
          have:(fun f=>(fs0.lookup f).bind g)=fs:=by injection q'
          subst this
          obtain ⟨v,e1,a,e2,e3⟩:=e.val i _ h
          subst e3
          obtain ⟨h1,h2,h3,dx,xs,h4,h5⟩:=m.cel n a _ e2 hc
          refine ⟨a,cl k,dx,xs,e1,h4,h2,fun f d hf=>?_⟩
          obtain ⟨D',hl,hx⟩:=bind_some hf
          obtain ⟨v,e5,e6⟩:=(h5.look f).1 D' hl
          exact ⟨h3 f (look_mem hl),v,e5,hg _ _ _ hx e6⟩
        · split at q' <;> cases q'
theorem sees_p (m:MR K cl θ F H s):Sees K θ F F (pD s):=fun d x v h r=>by
  cases d with
  | d y=>cases h; exact r
  | r n =>
    have h:(match s[n]? with | some (.fz x)=>some x | _=>none)=some x:=h
    split at h
    · rename_i y hy
      cases h
      obtain ⟨a,e1,e2⟩:=r
      subst e2
      exact (m.cel n a _ e1 hy).1
    · cases h
theorem MR.vw (m:MR K cl θ F H w.s) (e:MV K θ F σ w.η):SR K ⟨F,H⟩ F H σ (vw w):=vw_sr m e m.sm (sees_p m) fun _=>rfl
noncomputable def lentH (θ:List Addr) (F H:Hp):Hp:=fun b=>match F b with | some o=>some o | none=>if b∈θ then H b else none
theorem lent_of (θ:List Addr) (F H:Hp):Same F (lentH θ F H):=fun b u q=>by unfold lentH; rw [q]
theorem lent_in {θ:List Addr} {F H:Hp} (h:Same F H):Same (lentH θ F H) H:=fun b u q=>by
  unfold lentH at q
  split at q
  · rename_i o ho; rw [← q]; exact h _ _ ho
  · split at q
    · exact q
    · cases q
theorem lent_at {θ:List Addr} {F H:Hp} {n:Nat} {a:Addr} {o:HO} (e:θ[n]?=some a) (hF:F a=none) (hH:H a=some o):lentH θ F H a=some o:=by
  unfold lentH
  rw [hF]
  dsimp only
  rw [if_pos (List.mem_of_getElem? e)]; exact hH
theorem dAll_rel {ds:List D} {xs:List V} (h:DRs K θ F ds xs):∀ {ys:List PyData},dAll ds=some ys→RelL K F ys xs:=by
  induction h with
  | nil=>intro ys e; cases e; exact .nil
  | @cons a b as bs r t ih =>
    intro ys e
    unfold dAll at e
    obtain ⟨x,h1,e⟩:=bind_some e
    obtain ⟨zs,h2,e⟩:=bind_some e
    cases e
    cases a with
    | d y=>cases h1; exact .cons r (ih h2)
    | r n=>cases h1
theorem dKvs_rel {ds:List (Key×D)} {xs:List (Key×V)} (h:DRk K θ F ds xs):∀ {ys:List (Key×PyData)},dKvs ds=some ys→RelD K F (prs ys) xs:=by
  induction h with
  | nil=>intro ys e; cases e; exact .nil
  | @cons a b as bs r t ih =>
    intro ys e
    obtain ⟨ka,da⟩:=a
    obtain ⟨kb,vb⟩:=b
    have hk:ka=kb:=r.1
    subst hk
    unfold dKvs at e
    obtain ⟨x,h1,e⟩:=bind_some e
    obtain ⟨zs,h2,e⟩:=bind_some e
    cases e
    cases da with
    | d y=>cases h1; exact RelD.cons r.2 (ih h2)
    | r n=>cases h1
theorem sees_l (m:MR K cl θ F H s):Sees K θ F (lentH θ F H) (lD s):=fun d x v h r=>by
  have sm:=lent_of θ F H
  cases d with
  | d y=>cases h; exact Rel.mono sm r
  | r n =>
    have h:(match s[n]? with | some (.fz x)=>some x | some (.lst ds)=>(dAll ds).bind fun xs=>some (.list xs) | some (.dct kvs)=>(dKvs kvs).bind fun xs=>some (.dict (prs xs)) | _=>none)=some x:=h
    obtain ⟨a,e1,e2⟩:=r
    subst e2
    split at h
    · rename_i y hy
      cases h
      exact Rel.mono sm (m.cel n a _ e1 hy).1
    · rename_i ds hy
      obtain ⟨ys,h1,h2⟩:=bind_some h
      cases h2
      obtain ⟨q1,xs,q2,q3⟩:=m.cel n a _ e1 hy
      exact rel_lst (SqL.of (lent_at e1 q1 q2)) ((dAll_rel q3 h1).mono sm)
    · rename_i kvs hy
      obtain ⟨ys,h1,h2⟩:=bind_some h
      cases h2
      obtain ⟨q1,ks,q2,q3⟩:=m.cel n a _ e1 hy
      exact rel_dct (.inl (lent_at e1 q1 q2)) ((dKvs_rel q3 h1).mono sm)
    · cases h
end
end L2.PU
namespace L2.PU
open PySem PySem.Spec PyProof.Rows
noncomputable abbrev MF:=Wd→Option (D×Sto)
noncomputable abbrev MFs:=Wd→Option (List D×Sto)
section
variable (K:PySem.W.Frag) (cl:Nat→Addr)
noncomputable def tM (f:MF):TE:=fun σ H Q=>∃ θ F w d s',MR K cl θ F H w.s∧MV K θ F σ w.η∧f w=some (d,s')∧∀ v θ' F' H',θ <+: θ'→Same F F'→MR K cl θ' F' H' s'→DR K θ' F' d v→Q v H'
noncomputable def tMT (f:Wd→Option (Bool×Sto)):TT:=fun σ H Q=>∃ θ F w b s',MR K cl θ F H w.s∧MV K θ F σ w.η∧f w=some (b,s')∧∀ θ' F' H',θ <+: θ'→Same F F'→MR K cl θ' F' H' s'→Q b H'
noncomputable def tMA (f:MFs):TA:=fun σ H Q=>∃ θ F w ds s',MR K cl θ F H w.s∧MV K θ F σ w.η∧f w=some (ds,s')∧∀ vs θ' F' H',θ <+: θ'→Same F F'→MR K cl θ' F' H' s'→DRs K θ' F' ds vs→Q vs H'
end
noncomputable def ME (X:Cx) (cl:Nat→Addr) (e:Expr) (f:MF):Prop:=PE X e (tM X.K cl f)
noncomputable abbrev MTF:=Wd→Option (Bool×Sto)
noncomputable def MT (X:Cx) (cl:Nat→Addr) (e:Expr) (f:MTF):Prop:=PT X e (tMT X.K cl f)
noncomputable def MTW (X:Cx) (cl:Nat→Addr) (e:Expr) (f:MTF):Prop:=PW X e (tMT X.K cl f)
noncomputable def MA (X:Cx) (cl:Nat→Addr) (es:List Expr) (f:MFs):Prop:=PA X es (tMA X.K cl f)
noncomputable def mP (f:En→Option PyData):MF:=fun w=>(f (vw w)).bind fun x=>some (.d x,w.s)
noncomputable def mL (f:En→Option PyData):MF:=fun w=>(f (vwL w)).bind fun x=>if flatD x=true then some (.d x,w.s) else none
noncomputable def mLO (f:En→Option (List PyData)):MF:=fun w=>(f (vwL w)).bind fun xs=>if xs.all flatD=true then some (.d (.list xs),w.s) else none
noncomputable def mN (f:En→Option (List PyData)):MF:=fun w=>(f (vw w)).bind fun xs=>some (.r w.s.length,w.s++[.lst (xs.map .d)])
noncomputable def mV (i:Nat):MF:=fun w=>match w.η[i]? with | some (some d)=>some (d,w.s) | _=>none
noncomputable def tPv (f:En→Option Bool):MTF:=fun w=>(f (vw w)).bind fun b=>some (b,w.s)
noncomputable def tPl (f:En→Option Bool):MTF:=fun w=>(f (vwL w)).bind fun b=>some (b,w.s)
section
variable {X:Cx} {cl:Nat→Addr} {a b c e o:Expr} {es:List Expr} {f g:MF} {fs:MFs} {p:En→Option PyData} {ps:En→Option (List PyData)} {pt:En→Option Bool} {pos:Pos}
theorem ME.pu (h:∀ B,E X B e p):ME X cl e (mP p):=fun pins s σ H Q I ⟨θ,F,w,d,s',m,v,hf,q⟩=>by
  obtain ⟨x,hx,hf⟩:=bind_some hf
  cases hf
  exact h ⟨F,H⟩ pins s σ H Q I ⟨F,vw w,x,m.vw v,hx,fun u F' H' g r=>q u θ F' H' (List.prefix_refl _) g.ff (m.grow g) r⟩
theorem list_in {K:PySem.W.Frag} {F H F' H':Hp} {p:Addr} {xs:List V} {ds:List PyData} (sm:Same F H) (g:Gr F H F' H') (hp:H p=none) (fp:F' p=none) (hp':H' p=some (.lst xs)) (rs:RelL K F' ds xs):Gr F H (upd F' p (.lst xs)) H'∧Rel K (upd F' p (.lst xs)) (.list ds) (.ref p):=by
  have sn:=same_new (H:=F') fp (.lst xs)
  refine ⟨⟨g.ff.trans sn,g.hh,fun b u z=>?_,fun b z=>?_⟩,rel_lst (SqL.of upd_same) (rs.mono sn)⟩
  · by_cases e:b=p
    · subst e; rw [upd_same] at z; rw [← z]; exact hp'
    · rw [upd_ne e] at z; exact g.fh _ _ z
  · by_cases e:b=p
    · subst e; exact .inr hp
    · rw [upd_ne e] at z; exact g.new b z
theorem rel_ds {K:PySem.W.Frag} {θ:List Addr} {F:Hp}:∀ {xs:List PyData} {vs:List V},RelL K F xs vs→DRs K θ F (xs.map .d) vs
  | [],_,h=>by rw [h.nil_of]; exact .nil
  | x::xs,vs,h=>by
    obtain ⟨v,r,rfl,h1,h2⟩:=h.cons_of
    exact .cons h1 (rel_ds h2)
theorem ME.nw (h:∀ B,EO X B e ps):ME X cl e (mN ps):=fun pins s σ H Q I ⟨θ,F,w,d,s',m,v,hf,q⟩=>by
  obtain ⟨x,hx,hf⟩:=bind_some hf
  cases hf
  refine h ⟨F,H⟩ pins s σ H Q I ⟨F,vw w,x,m.vw v,hx,fun p xs F' H' g hp fp hp' rs=>?_⟩
  have m1:=m.grow g
  have na:∀ (k:Nat) b,θ[k]?=some b→b≠p:=fun k b e=>m.ne hp e
  have pre:θ <+: θ++[p]:=List.prefix_append _ _
  refine q _ (θ++[p]) F' H' pre g.ff ⟨m1.sm,by rw [List.length_append,List.length_append,m1.len]; rfl,?_,fun k b c2 f1 f2=>?_⟩ ⟨p,by rw [← m.len,List.getElem?_append_right (Nat.le_refl _),Nat.sub_self]; rfl,rfl⟩
  · rw [List.nodup_append]
    refine ⟨m.nd,by simp,fun b hb b' hb'=>?_⟩
    rw [List.mem_singleton.mp hb']
    obtain ⟨k,hk⟩:=List.getElem?_of_mem hb
    exact na k b hk
  · by_cases hk:k < θ.length
    · rw [List.getElem?_append_left hk] at f1
      rw [List.getElem?_append_left (by rw [← m.len]; exact hk)] at f2
      exact (m1.cel k b c2 f1 f2).pre pre
    · have hk1:k=θ.length:=by
        have:=(List.getElem?_eq_some_iff.mp f1).1
        rw [List.length_append] at this
        have e1:[p].length=1:=rfl
        omega
      subst hk1
      rw [List.getElem?_append_right (Nat.le_refl _),Nat.sub_self] at f1
      rw [List.getElem?_append_right (by rw [m.len]; exact Nat.le_refl _),m.len,Nat.sub_self] at f2
      cases f1
      cases f2
      exact ⟨fp,xs,hp',rel_ds rs⟩
theorem ME.v (i:Nat) {x:Str} (hN:X.N[i]?=some x:=by rfl) (hv:Vis X.env.scope x:=by first | exact Or.inl rfl | exact Or.inr (Or.inl rfl) | exact Or.inr (Or.inr rfl)) (hd:(x==("__debug__" : Str))=false:=by decide)
    (hcd:(x==("__classdict__" : Str))=false:=by decide):ME X cl (.Name x pos) (mV i) :=
  PE.imp (pe_var hN hv hd hcd) fun σ H Q ⟨θ,F,w,d,s',m,v,hf,q⟩=>by
    unfold mV at hf
    split at hf
    · rename_i d' e
      cases hf
      obtain ⟨u,e1,e2⟩:=v.val i _ e
      exact ⟨u,e1,q u θ F H (List.prefix_refl _) (.refl _) m e2⟩
    · cases hf
theorem MT.pu (h:∀ B,T X B e pt):MT X cl e (tPv pt):=fun pins s σ H Q I ⟨θ,F,w,b,s',m,v,hf,q⟩=>by
  obtain ⟨c,hx,hf⟩:=bind_some hf
  cases hf
  exact h ⟨F,H⟩ pins s σ H Q I ⟨F,vw w,_,m.vw v,hx,fun F' H' g=>q θ F' H' (List.prefix_refl _) g.ff (m.grow g)⟩
noncomputable def tmNot (f:MTF):MTF:=fun w=>(f w).bind fun r=>some (!r.1,r.2)
noncomputable def tmAnd (f g:MTF):MTF:=fun w=>(f w).bind fun r=>if r.1=true then g ⟨w.η,r.2⟩ else some (false,r.2)
noncomputable def tmOr (f g:MTF):MTF:=fun w=>(f w).bind fun r=>if r.1=true then some (true,r.2) else g ⟨w.η,r.2⟩
variable {ta tb:MTF} {rest:List Expr}
theorem MTW.t (h:MTW X cl a ta):MT X cl a ta:=PW.pt h
theorem MTW.and1 (ha:MT X cl a ta):MTW X cl (.BoolOp .And [a] pos) ta:=pw_and1 ha
theorem MTW.or1 (ha:MT X cl a ta):MTW X cl (.BoolOp .Or [a] pos) ta:=pw_or1 ha
theorem MTW.and (ha:MT X cl a ta) (hb:MTW X cl (.BoolOp .And (b::rest) pos) tb):MTW X cl (.BoolOp .And (a::b::rest) pos) (tmAnd ta tb):=PW.imp (pw_and ha hb) fun σ H Q ⟨θ,F,w,b,s',m,v,hf,q⟩=>by
  obtain ⟨⟨c,s1⟩,hx,hf⟩:=bind_some hf
  refine ⟨θ,F,w,c,s1,m,v,hx,fun θ1 F1 H1 p1 q1 m1=>?_⟩
  cases c with
  | false =>
    rw [if_neg Bool.false_ne_true] at hf ⊢
    cases hf
    exact q θ1 F1 H1 p1 q1 m1
  | true =>
    rw [if_pos rfl] at hf ⊢
    exact ⟨θ1,F1,⟨w.η,s1⟩,b,s',m1,v.mono p1 q1,hf,fun θ2 F2 H2 p2 q2 m2=>q θ2 F2 H2 (p1.trans p2) (q1.trans q2) m2⟩
theorem MTW.or (ha:MT X cl a ta) (hb:MTW X cl (.BoolOp .Or (b::rest) pos) tb):MTW X cl (.BoolOp .Or (a::b::rest) pos) (tmOr ta tb):=PW.imp (pw_or ha hb) fun σ H Q ⟨θ,F,w,b,s',m,v,hf,q⟩=>by
  obtain ⟨⟨c,s1⟩,hx,hf⟩:=bind_some hf
  refine ⟨θ,F,w,c,s1,m,v,hx,fun θ1 F1 H1 p1 q1 m1=>?_⟩
  cases c with
  | true =>
    rw [if_pos rfl] at hf ⊢
    cases hf
    exact q θ1 F1 H1 p1 q1 m1
  | false =>
    rw [if_neg Bool.false_ne_true] at hf ⊢
    exact ⟨θ1,F1,⟨w.η,s1⟩,b,s',m1,v.mono p1 q1,hf,fun θ2 F2 H2 p2 q2 m2=>q θ2 F2 H2 (p1.trans p2) (q1.trans q2) m2⟩
noncomputable def mOp (o:PyData→PyData→Option PyData) (f g:MF):MF:=fun w=>(f w).bind fun r=>(g ⟨w.η,r.2⟩).bind fun q=>(pD q.2 r.1).bind fun x=>(pD q.2 q.1).bind fun y=>(o x y).bind fun z=>some (.d z,q.2)
noncomputable def mOpL (o:PyData→PyData→Option PyData) (f g:MF):MF:=fun w=>(f w).bind fun r=>(g ⟨w.η,r.2⟩).bind fun q=>(lD q.2 r.1).bind fun x=>(lD q.2 q.1).bind fun y=>(o x y).bind fun z=>if flatD z=true then some (.d z,q.2) else none
theorem op_of {r:R2} {o:PyData→PyData→Option PyData} (ad:Ad2 X.K r o):∀ σ H Q,tM X.K cl (mOp o f g) σ H Q→tOp r (tM X.K cl f) (tM X.K cl g) σ H Q:=fun σ H Q ⟨θ,F,w,d,s',m,v,hf,q⟩=>by
  obtain ⟨⟨d1,s1⟩,h1,hf⟩:=bind_some hf
  obtain ⟨⟨d2,s2⟩,h2,hf⟩:=bind_some hf
  obtain ⟨x,hx,hf⟩:=bind_some hf
  obtain ⟨y,hy,hf⟩:=bind_some hf
  obtain ⟨z,hz,hf⟩:=bind_some hf
  cases hf
  refine ⟨θ,F,w,d1,s1,m,v,h1,fun u θ1 F1 H1 p1 q1 m1 r1=>⟨θ1,F1,⟨w.η,s1⟩,d2,_,m1,v.mono p1 q1,h2,fun u2 θ2 F2 H2 p2 q2 m2 r2=>?_⟩⟩
  exact ad F2 H2 u u2 x y z Q m2.sm (sees_p m2 _ _ _ hx (r1.mono p2 q2)) (sees_p m2 _ _ _ hy r2) hz fun t F3 H3 g3 rt=>q t θ2 F3 H3 (p1.trans p2) (q1.trans (q2.trans g3.ff)) (m2.grow g3) rt
theorem opL_of {r:R2} {o:PyData→PyData→Option PyData} (ad:Ad2 X.K r o):∀ σ H Q,tM X.K cl (mOpL o f g) σ H Q→tOp r (tM X.K cl f) (tM X.K cl g) σ H Q:=fun σ H Q ⟨θ,F,w,d,s',m,v,hf,q⟩=>by
  obtain ⟨⟨d1,s1⟩,h1,hf⟩:=bind_some hf
  obtain ⟨⟨d2,s2⟩,h2,hf⟩:=bind_some hf
  obtain ⟨x,hx,hf⟩:=bind_some hf
  obtain ⟨y,hy,hf⟩:=bind_some hf
  obtain ⟨z,hz,hf⟩:=bind_some hf
  split at hf
  · rename_i hfl
    cases hf
    refine ⟨θ,F,w,d1,s1,m,v,h1,fun u θ1 F1 H1 p1 q1 m1 r1=>⟨θ1,F1,⟨w.η,s1⟩,d2,_,m1,v.mono p1 q1,h2,fun u2 θ2 F2 H2 p2 q2 m2 r2=>?_⟩⟩
    exact ad (lentH θ2 F2 H2) H2 u u2 x y z Q (lent_in m2.sm) (sees_l m2 _ _ _ hx (r1.mono p2 q2)) (sees_l m2 _ _ _ hy r2) hz fun t F3 H3 g3 rt=>q t θ2 F2 H3 (p1.trans p2) (q1.trans q2) (m2.grow (Gr.back m2.sm g3)) (flat_rel hfl rt)
  · cases hf
theorem ME.op {op:Operator} {r:R2} {oo:PyData→PyData→Option PyData} (ho:OpR X (binaryOp op) r) (ad:Ad2 X.K r oo) (ha:ME X cl a f) (hb:ME X cl b g):ME X cl (.BinOp a op b pos) (mOp oo f g):=PE.imp (pe_op ho ha hb) (op_of ad)
theorem ME.cmp {op:CmpOp} {r:R2} {oo:PyData→PyData→Option PyData} (ho:OpR X (compareOp op) r) (ad:Ad2 X.K r oo) (hm:behindInMarks op b=false) (ha:ME X cl a f) (hb:ME X cl b g):ME X cl (.Compare a [op] [b] pos) (mOpL oo f g):=PE.imp (pe_cmpR ho ha hb hm) (opL_of ad)
theorem ME.ix {r:R2} {oo:PyData→PyData→Option PyData} (hr:IxR X r) (ad:Ad2 X.K r oo) (ha:ME X cl a f) (hb:ME X cl b g) (hs:PlainIx b:=by intro _ _; rfl):ME X cl (.Subscript a b pos) (mOp oo f g):=PE.imp (pe_ix hr ha hb hs) (op_of ad)
noncomputable def mB (f:MF):MTF:=fun w=>(f w).bind fun r=>match r.1 with | .d x=>(asB x).bind fun b=>some (b,r.2) | _=>none
theorem MT.cmp {op:CmpOp} {r:R2} {oo:PyData→PyData→Option PyData} (ho:OpR X (compareOp op) r) (ad:Ad2 X.K r oo) (hm:behindInMarks op b=false) (ha:ME X cl a f) (hb:ME X cl b g):MT X cl (.Compare a [op] [b] pos) (mB (mOpL oo f g)) :=
  PT.imp (pt_cmpR ho ha hb hm) fun σ H Q ⟨θ,F,w,c,s',m,v,hf,q⟩=>by
    obtain ⟨⟨d,s1⟩,h1,hf⟩:=bind_some hf
    cases d with
    | r n=>cases hf
    | d x =>
      dsimp only at hf
      obtain ⟨b,hb,hf⟩:=bind_some hf
      cases hf
      obtain rfl:=asB_some hb
      exact opL_of ad σ H _ ⟨θ,F,w,_,_,m,v,h1,fun u θ1 F1 H1 p1 q1 m1 r1=>⟨c,(show Rel X.K F1 (.bool c) u from r1).bl,q θ1 F1 H1 p1 q1 m1⟩⟩
noncomputable def maN:MFs:=fun w=>some ([],w.s)
noncomputable def maC (f:MF) (fs:MFs):MFs:=fun w=>(f w).bind fun r=>(fs ⟨w.η,r.2⟩).bind fun rs=>some (r.1::rs.1,rs.2)
theorem MA.nil:MA X cl [] maN:=PA.imp pa_nil fun σ H Q ⟨θ,F,w,ds,s',m,v,hf,q⟩=>by
  cases hf
  exact q [] θ F H (List.prefix_refl _) (.refl _) m .nil
theorem MA.cons (ha:ME X cl e f) (hr:MA X cl es fs) (hs:starEach (e::es) X.env=(false,eval e X.env)::starEach es X.env:=by exact star_of rfl):MA X cl (e::es) (maC f fs):=PA.imp (pa_cons ha hr hs) fun σ H Q ⟨θ,F,w,ds,s',m,v,hf,q⟩=>by
  obtain ⟨⟨d,s1⟩,h1,hf⟩:=bind_some hf
  obtain ⟨⟨ds2,s2⟩,h2,hf⟩:=bind_some hf
  cases hf
  refine ⟨θ,F,w,d,s1,m,v,h1,fun u θ1 F1 H1 p1 q1 m1 r1=>⟨θ1,F1,⟨w.η,s1⟩,ds2,s2,m1,v.mono p1 q1,h2,fun us θ2 F2 H2 p2 q2 m2 r2=>?_⟩⟩
  exact q (u::us) θ2 F2 H2 (p1.trans p2) (q1.trans q2) m2 (.cons (r1.mono p2 q2) r2)
noncomputable def mFld (o:MF) (f:Str):MF:=fun w=>(o w).bind fun r=>match r.1 with
  | .r n=>(match r.2[n]? with | some (.obj _ fs)=>(fs.lookup f).bind fun d=>some (d,r.2) | _=>none)
  | _=>none
theorem ME.fld {f:Str} {g:MF} (ho:ME X cl o g) (hb:attributeBase o f X.env (eval o X.env)=eval o X.env:=by rfl):ME X cl (.Attribute o f pos) (mFld g f) :=
  PE.imp (pe_fld ho hb) fun σ H Q ⟨θ,F,w,d,s',m,v,hf,q⟩=>by
    obtain ⟨⟨d0,s0⟩,h0,hf⟩:=bind_some hf
    cases d0 with
    | d x=>cases hf
    | r n =>
      dsimp only at hf
      split at hf
      · rename_i k fs hc
        obtain ⟨d1,hl,hf⟩:=bind_some hf
        cases hf
        refine ⟨θ,F,w,.r n,_,m,v,h0,fun u θ1 F1 H1 p1 q1 m1 r1=>?_⟩
        obtain ⟨a,e1,rfl⟩:=r1
        obtain ⟨h1,h2,h3,dx,xs,h4,h5⟩:=m1.cel n a _ e1 hc
        obtain ⟨u,e5,e6⟩:=(h5.look f).1 _ hl
        exact ⟨a,cl k,dx,xs,u,rfl,h4,h2,h3 f (look_mem hl),e5,q u θ1 F1 H1 p1 q1 m1 e6⟩
      · cases hf
end
noncomputable def eFld (i:Nat) (f:Str):En→Option PyData:=fun η=>match η[i]? with | some (.ob fs)=>fs f | _=>none
theorem E.fld (i:Nat) {X:Cx} {B:Bd} {x f:Str} {npos pos:Pos} (hN:X.N[i]?=some x:=by rfl) (hv:Vis X.env.scope x:=by first | exact Or.inl rfl | exact Or.inr (Or.inl rfl) | exact Or.inr (Or.inr rfl)) (hd:(x==("__debug__" : Str))=false:=by decide)
    (hcd:(x==("__classdict__" : Str))=false:=by decide) (hb:attributeBase (.Name x npos) f X.env (eval (.Name x npos) X.env)=eval (.Name x npos) X.env:=by rfl):E X B (.Attribute (.Name x npos) f pos) (eFld i f) :=
  PE.imp (pe_fld (pe_var hN hv hd hcd) hb) fun σ H Q ⟨F,η,d,sr,hd,q⟩=>by
    unfold eFld at hd
    split at hd
    · rename_i fs e
      obtain ⟨p,C,dx,xs,e1,e2,e3,e4⟩:=sr.en.obs i fs e
      obtain ⟨n,v,h1,h2⟩:=e4 f d hd
      exact ⟨_,e1,p,C,dx,xs,v,rfl,e2,e3,n,h1,q v F H (.refl sr.same) h2⟩
    · cases hd
end L2.PU
namespace L2.PU
open PySem PySem.Spec PyProof.Rows
noncomputable def spM (K:PySem.W.Frag) (cl:Nat→Addr) (fn:List D→Sto→Option (D×Sto)):Sp:=fun vs H Q _=>∃ θ F s ds d s',MR K cl θ F H s∧DRs K θ F ds vs∧fn ds s=some (d,s')∧∀ v θ' F' H',θ <+: θ'→Same F F'→MR K cl θ' F' H' s'→DR K θ' F' d v→Q v H'
noncomputable def mCall (fn:List D→Sto→Option (D×Sto)) (fs:MFs):MF:=fun w=>(fs w).bind fun r=>fn r.1 r.2
noncomputable def upP (fn:List PyData→Option PyData):List D→Sto→Option (D×Sto):=fun ds s=>(dAll ds).bind fun xs=>(fn xs).bind fun x=>some (.d x,s)
section
variable {X:Cx} {cl:Nat→Addr} {e o:Expr} {es:List Expr} {g:MF} {fs:MFs} {pos:Pos}
noncomputable def mMeth (k:Nat) (nm:Str) (fn:List D→Sto→Option (D×Sto)) (o:MF) (fs:MFs):MF:=fun w=>(o w).bind fun r=>match r.1 with
  | .r n=>(match r.2[n]? with
    | some (.obj k' as)=>if k'=k∧as.lookup nm=none then (fs ⟨w.η,r.2⟩).bind fun rs=>fn (.r n::rs.1) rs.2 else none
    | _=>none)
  | _=>none
theorem meth_of {nm:Str} {k:Nat} {fn:List D→Sto→Option (D×Sto)}:∀ σ H Q,tM X.K cl (mMeth k nm fn g fs) σ H Q→tMeth (cl k) nm (spM X.K cl fn) [] E0 (tM X.K cl g) (tMA X.K cl fs) σ H Q:=fun σ H Q ⟨θ,F,w,d,s',m,v,hf,q⟩=>by
  obtain ⟨⟨d0,s0⟩,h0,hf⟩:=bind_some hf
  cases d0 with
  | d x=>cases hf
  | r n =>
    dsimp only at hf
    split at hf
    · rename_i k' as hc
      split at hf
      · rename_i hk
        obtain ⟨⟨ds,s1⟩,h1,hf⟩:=bind_some hf
        obtain ⟨hk1,hk2⟩:=hk
        rw [hk1] at hc
        refine ⟨θ,F,w,.r n,s0,m,v,h0,fun u θ1 F1 H1 p1 q1 m1 r1=>?_⟩
        obtain ⟨a,e1,rfl⟩:=id r1
        obtain ⟨c1,c2,c3,dx,xs,c4,c5⟩:=m1.cel n a _ e1 hc
        refine ⟨a,dx,xs,rfl,c4,(c5.look nm).2 hk2,θ1,F1,⟨w.η,s0⟩,ds,s1,m1,v.mono p1 q1,h1,fun vs θ2 F2 H2 p2 q2 m2 r2=>?_⟩
        show spM X.K cl fn (.ref a::(vs++[])) H2 Q E0
        rw [List.append_nil]
        exact ⟨θ2,F2,s1,.r n::ds,d,s',m2,.cons (DR.mono p2 q2 r1) r2,hf,fun u θ3 F3 H3 p3 q3 m3 r3=>q u θ3 F3 H3 (p1.trans (p2.trans p3)) (q1.trans (q2.trans q3)) m3 r3⟩
      · cases hf
    · cases hf
theorem ME.meth {pl:Sem Bool} {k k' kc:Nat} {fa:Addr} {fd:FuncData} {ps:List Str} {nm:Str} {apos:Pos} {fn:List D→Sto→Option (D×Sto)} (ho:ME X cl o g) (c:Cls X.K (cl kc)) (hm:Meth X.K (cl kc) nm fa) (G:FnOk X.prog X.w X.K X.mg X.base CX0 k fa fd ps (spM X.K cl fn)) (hr:Room k' X.A) (hkk:k≤k') (hb:Binds X.K fd ps [])
    (ha:MA X cl (e::es) fs) (hst:starEach (e::es) X.env=(false,eval e X.env)::starEach es X.env:=by exact star_of rfl) (hpl:(backTo pos (starEach es X.env)).any (·.1)=false:=by exact plain_of rfl)
    (ht:eval (.Call (.Attribute o nm apos) (e::es) [] pos) X.env=(do
      let ov ← eval o X.env
      standAt apos.atName
      let (f,first) ← holding [ov] (getMethod ov nm pl)
      callWith pos f first (backTo pos (starEach (e::es) X.env)) (backToKw pos (keywordEach [] X.env))):=by rfl):ME X cl (.Call (.Attribute o nm apos) (e::es) [] pos) (mMeth kc nm fn g fs) :=
  PE.imp (pe_meth (pl:=pl) ho c hm G (hr.mono hkk) hb .nil pass0 ha hst hpl ht) meth_of
noncomputable def mMake (k:Nat) (fn:List D→Sto→Option (D×Sto)) (fs:MFs):MF:=fun w=>(fs w).bind fun r=>(fn (.r r.2.length::r.1) (r.2++[.obj k []])).bind fun q=>match q.1 with
  | .d .none=>some (.r r.2.length,q.2)
  | _=>none
theorem made_of {K:PySem.W.Frag} {θ:List Addr} {F H:Hp} {s:Sto} {kc:Nat} (c:Cls K (cl kc)) (m:MR K cl θ F H s) {x dx:Addr} (hx:H x=none) (hdx:H dx=none) (hne:dx≠x) :
    MR K cl (θ++[x]) F (upd (upd H dx (.own x)) x (.ins (cl kc) dx [])) (s++[.obj kc []]):=by
  have m1:=m.more (o:=.own x) hdx
  have hx1:upd H dx (.own x) x=none:=by rw [upd_ne (Ne.symm hne)]; exact hx
  exact m1.new hx1 ⟨m1.sm.free hx1,c,fun f hf=>(by cases hf),dx,[],upd_same,.nil⟩
theorem make_of {kc:Nat} {fn:List D→Sto→Option (D×Sto)} (c:Cls X.K (cl kc)) {θ:List Addr} {F H:Hp} {s s':Sto} {ds:List D} {d:D} {vs:List V} {Q:VK} (m:MR X.K cl θ F H s) (r:DRs X.K θ F ds vs)
    (hf:((fn (.r s.length::ds) (s++[.obj kc []])).bind fun q=>match q.1 with | .d .none=>some (D.r s.length,q.2) | _=>none)=some (d,s'))
    (q:∀ v θ' F' H',θ <+: θ'→Same F F'→MR X.K cl θ' F' H' s'→DR X.K θ' F' d v→Q v H') (x dx:Addr) (hx:H x=none) (hdx:H dx=none) (hne:dx≠x) :
    spM X.K cl fn (.ref x::vs) (upd (upd H dx (.own x)) x (.ins (cl kc) dx [])) (fun v H2=>v=.non∧Q (.ref x) H2) E0:=by
  obtain ⟨⟨d1,s1⟩,h1,hf⟩:=bind_some hf
  have pre:θ <+: θ++[x]:=List.prefix_append _ _
  have hix:(θ++[x])[s.length]?=some x:=by rw [← m.len,List.getElem?_append_right (Nat.le_refl _),Nat.sub_self]; rfl
  refine ⟨θ++[x],F,s++[.obj kc []],.r s.length::ds,d1,s1,made_of c m hx hdx hne,.cons ⟨x,hix,rfl⟩ (r.mono pre (.refl _)),h1,fun v θ2 F2 H2 p2 q2 m2 r2=>?_⟩
  dsimp only at hf
  split at hf
  · rename_i hd
    cases hf
    have r2':Rel X.K F2 .none v:=r2
    exact ⟨r2'.non,q _ θ2 F2 H2 (pre.trans p2) q2 m2 ⟨x,pre_get p2 hix,rfl⟩⟩
  · cases hf
theorem ME.make {k k' kc:Nat} {fa:Addr} {fd:FuncData} {ps:List Str} {x:Str} {ppos:Pos} {fn:List D→Sto→Option (D×Sto)} (c:Cls X.K (cl kc)) (M:Mk X.K (cl kc) fa) (G:FnOk X.prog X.w X.K X.mg X.base CX0 k fa fd ps (spM X.K cl fn)) (hr:Room k' X.A) (hkk:k+1≤k') (hm:X.mg x=some (.ref (cl kc))) (hb:Binds X.K fd ps [])
    (ha:MA X cl (e::es) fs) (hg:Gl X x:=by rfl) (hdb:(x==("__debug__" : Str))=false:=by decide) (he:starEach (e::es) X.env=(false,eval e X.env)::starEach es X.env:=by exact star_of rfl) (hpl:(backTo pos (starEach es X.env)).any (·.1)=false:=by exact plain_of rfl) :
    ME X cl (.Call (.Name x ppos) (e::es) [] pos) (mMake kc fn fs):=PE.imp (pe_make M G (hr.mono hkk) hg hm hb .nil pass0 ha hdb he hpl) fun σ H Q ⟨θ,F,w,d,s',m,v,hf,q⟩=>by
  obtain ⟨⟨ds,s1⟩,h1,hf⟩:=bind_some hf
  refine ⟨θ,F,w,ds,s1,m,v,h1,fun vs θ1 F1 H1 p1 q1 m1 r1=>fun x dx hx hdx hne=>?_⟩
  show spM X.K cl fn (.ref x::(vs++[])) _ _ E0
  rw [List.append_nil]
  exact make_of c m1 r1 hf (fun u θ2 F2 H2 p2 q2 m2 r2=>q u θ2 F2 H2 (p1.trans p2) (q1.trans q2) m2 r2) x dx hx hdx hne
end
end L2.PU
namespace L2.PU
open PySem PySem.Spec PyProof.Rows
inductive MOut where
  | nx (w:Wd)
  | rt (d:D) (s:Sto)
  | bk (w:Wd)
  | ct (w:Wd)
section
variable (K:PySem.W.Frag) (cl:Nat→Addr)
noncomputable def MNx (θ:List Addr) (F:Hp) (N:St→Hp→Prop) (w:Wd):Prop:=∀ σ' θ' F' H',θ <+: θ'→Same F F'→MR K cl θ' F' H' w.s→MV K θ' F' σ' w.η→N σ' H'
noncomputable def MOk (θ:List Addr) (F:Hp) (Z:Ends):MOut→Prop
  | .nx w=>MNx K cl θ F Z.nx w
  | .rt d s=>∀ v θ' F' H',θ <+: θ'→Same F F'→MR K cl θ' F' H' s→DR K θ' F' d v→Z.rt v H'
  | .bk w=>MNx K cl θ F Z.bk w
  | .ct w=>MNx K cl θ F Z.ct w
noncomputable def tMS (f:Wd→Option MOut):TS:=fun Z σ H=>∃ θ F w o,MR K cl θ F H w.s∧MV K θ F σ w.η∧f w=some o∧MOk K cl θ F Z o
end
noncomputable def MS (X:Cx) (cl:Nat→Addr) (st:Stmt) (f:Wd→Option MOut):Prop:=PS X st (tMS X.K cl f)
noncomputable def MSs (X:Cx) (cl:Nat→Addr) (st:List Stmt) (f:Wd→Option MOut):Prop:=PSs X st (tMS X.K cl f)
theorem MNx.up {K:PySem.W.Frag} {cl:Nat→Addr} {θ θ1:List Addr} {F F1:Hp} {N:St→Hp→Prop} {w:Wd} (h:MNx K cl θ F N w) (p:θ <+: θ1) (s:Same F F1):MNx K cl θ1 F1 N w:=fun σ' θ' F' H' p' s'=>h σ' θ' F' H' (p.trans p') (s.trans s')
theorem MOk.up {K:PySem.W.Frag} {cl:Nat→Addr} {θ θ1:List Addr} {F F1:Hp} {Z:Ends} {o:MOut} (h:MOk K cl θ F Z o) (p:θ <+: θ1) (s:Same F F1):MOk K cl θ1 F1 Z o:=by
  cases o with
  | nx w=>exact MNx.up h p s
  | rt d s2=>exact fun v θ' F' H' p' s'=>h v θ' F' H' (p.trans p') (s.trans s')
  | bk w=>exact MNx.up h p s
  | ct w=>exact MNx.up h p s
noncomputable def mNx:Wd→Option MOut:=fun w=>some (.nx w)
noncomputable def mSeq (f g:Wd→Option MOut):Wd→Option MOut:=fun w=>(f w).bind fun o=>match o with
  | .nx w'=>g w'
  | o=>some o
noncomputable def mRet (f:MF):Wd→Option MOut:=fun w=>(f w).bind fun r=>some (.rt r.1 r.2)
noncomputable def mIf (c:MTF) (f g:Wd→Option MOut):Wd→Option MOut:=fun w=>(c w).bind fun r=>if r.1=true then f ⟨w.η,r.2⟩ else g ⟨w.η,r.2⟩
noncomputable def mSet (i:Nat) (f:MF):Wd→Option MOut:=fun w=>(f w).bind fun r=>some (.nx ⟨w.η.set i (some r.1),r.2⟩)
noncomputable def mExp (f:MF):Wd→Option MOut:=fun w=>(f w).bind fun r=>some (.nx ⟨w.η,r.2⟩)
noncomputable def putA (f:Str) (v:D):List (Str×D)→List (Str×D)
  | []=>[(f,v)]
  | (g,x)::r=>if g=f then (g,v)::r else (g,x)::putA f v r
noncomputable def mPut (k:Nat) (nm:Str) (o e:MF):Wd→Option MOut:=fun w=>(e w).bind fun r=>(o ⟨w.η,r.2⟩).bind fun q=>match q.1 with
  | .r n=>(match q.2[n]? with
    | some (.obj k' fs)=>if k'=k∧fs.length < 999 then some (.nx ⟨w.η,q.2.set n (.obj k (putA nm r.1 fs))⟩) else none
    | _=>none)
  | _=>none
section
variable {X:Cx} {cl:Nat→Addr} {st:Stmt} {sts sts':List Stmt} {u v:Wd→Option MOut} {a b c e o:Expr} {f g:MF} {p:MTF} {pos pos':Pos}
theorem MSs.nil:MSs X cl [] mNx:=PSs.imp pss_nil fun Z σ H ⟨θ,F,w,o,m,v,hf,q⟩=>by
  cases hf
  exact q σ θ F H (List.prefix_refl _) (.refl _) m v
theorem MSs.one (h:MS X cl st u):MSs X cl [st] u:=pss_one h
theorem MSs.cons (h:MS X cl st u) (k:MSs X cl sts v):MSs X cl (st::sts) (mSeq u v):=PSs.imp (pss_cons h k) fun Z σ H ⟨θ,F,w,o,m,v,hf,q⟩=>by
  obtain ⟨o1,h1,hf⟩:=bind_some hf
  refine ⟨θ,F,w,o1,m,v,h1,?_⟩
  cases o1 with
  | nx w'=>exact fun σ' θ' F' H' p s m' v'=>⟨θ',F',w',o,m',v',hf,q.up p s⟩
  | rt d s=>cases hf; exact q
  | bk w'=>cases hf; exact q
  | ct w'=>cases hf; exact q
theorem MS.never:MS X cl st (fun _=>none):=PS.imp ps_never fun Z σ H ⟨θ,F,w,o,m,v,hf,q⟩=>by cases hf
theorem MS.ret (he:ME X cl e f):MS X cl (.Return (some e) pos) (mRet f):=PS.imp (ps_ret he) fun Z σ H ⟨θ,F,w,o,m,v,hf,q⟩=>by
  obtain ⟨⟨d,s⟩,h1,hf⟩:=bind_some hf
  cases hf
  exact ⟨θ,F,w,d,s,m,v,h1,q⟩
theorem MS.exp (he:ME X cl e f) (hs:swapsWith e none pos.line X.env=pure false:=by rfl):MS X cl (.Expr e pos) (mExp f):=PS.imp (ps_expr he hs) fun Z σ H ⟨θ,F,w,o,m,v,hf,q⟩=>by
  obtain ⟨⟨d,s⟩,h1,hf⟩:=bind_some hf
  cases hf
  exact ⟨θ,F,w,d,s,m,v,h1,fun u θ' F' H' p' s' m' _=>q σ θ' F' H' p' s' m' (v.mono p' s')⟩
theorem MS.ifS (hc:MT X cl c p) (ha:MSs X cl sts u) (hb:MSs X cl sts' v):MS X cl (.If c sts sts' pos) (mIf p u v):=PS.imp (ps_if hc ha hb) fun Z σ H ⟨θ,F,w,o,m,v,hf,q⟩=>by
  obtain ⟨⟨b,s1⟩,h1,hf⟩:=bind_some hf
  refine ⟨θ,F,w,b,s1,m,v,h1,fun θ' F' H' p' s' m'=>?_⟩
  cases b with
  | false =>
    rw [if_neg Bool.false_ne_true] at hf ⊢
    exact ⟨θ',F',⟨w.η,s1⟩,o,m',v.mono p' s',hf,q.up p' s'⟩
  | true =>
    rw [if_pos rfl] at hf ⊢
    exact ⟨θ',F',⟨w.η,s1⟩,o,m',v.mono p' s',hf,q.up p' s'⟩
theorem MS.set (i:Nat) {x:Str} (hN:X.N.Nodup) (he:ME X cl e f) (hi:X.N[i]?=some x:=by rfl) (hx:Loc X.env.scope x:=by first | exact Or.inl rfl | exact Or.inr rfl) (hs:swapsWith e (some (.Name x pos')) pos.line X.env=pure false:=by rfl)
    (hf:X.fn x=true∨X.env.scope.names.lookup x=some .local:=by first | exact .inl rfl | exact .inr rfl):MS X cl (.Assign [.Name x pos'] e pos) (mSet i f):=PS.imp (ps_set hN hi hx he hs hf) fun Z σ H ⟨θ,F,w,o,m,v,hf,q⟩=>by
  obtain ⟨⟨d,s⟩,h1,hf⟩:=bind_some hf
  cases hf
  exact ⟨θ,F,w,d,s,m,v,h1,fun u θ' F' H' p' s' m' r'=>q _ θ' F' H' p' s' m' ((v.mono p' s').set i r')⟩
theorem DRf.put {K:PySem.W.Frag} {θ:List Addr} {F:Hp} {fs:List (Str×D)} {xs:List (Str×V)} (h:DRf K θ F fs xs) (f:Str) {d:D} {v:V} (r:DR K θ F d v):DRf K θ F (putA f d fs) (putF f v xs):=by
  induction h with
  | nil=>exact .cons ⟨rfl,r⟩ .nil
  | @cons a b as bs q t ih =>
    obtain ⟨ka,da⟩:=a
    obtain ⟨kb,vb⟩:=b
    have e:ka=kb:=q.1
    subst e
    unfold putA putF
    by_cases hk:ka=f
    · rw [if_pos hk,if_pos hk]; exact .cons ⟨rfl,r⟩ t
    · rw [if_neg hk,if_neg hk]; exact .cons q ih
theorem putA_keys {f:Str} {d:D}:∀ {fs:List (Str×D)} {g:Str},g∈(putA f d fs).map (·.1)→g=f∨g∈fs.map (·.1)
  | [],g,h=>.inl (by simpa [putA] using h)
  | (k,x)::r,g,h=>by
    unfold putA at h
    by_cases hk:k=f
    · rw [if_pos hk] at h
      rcases List.mem_cons.mp h with z | z
      · exact .inr (by rw [z]; exact List.mem_cons_self)
      · exact .inr (List.mem_cons_of_mem _ z)
    · rw [if_neg hk] at h
      rcases List.mem_cons.mp h with z | z
      · exact .inr (by rw [z]; exact List.mem_cons_self)
      · rcases putA_keys z with y | y
        · exact .inl y
        · exact .inr (List.mem_cons_of_mem _ y)
theorem MS.put {k:Nat} {nm:Str} (ho:ME X cl o g) (he:ME X cl e f) (hn:NoAttr X.K (cl k) nm) (hs:swapsWith e (some (.Attribute o nm pos')) pos.line X.env=pure false:=by rfl):MS X cl (.Assign [.Attribute o nm pos'] e pos) (mPut k nm g f) :=
  PS.imp (ps_fld ho he hs) fun Z σ H ⟨θ,F,w,o,m,v,hf,q⟩=>by
    obtain ⟨⟨d,s1⟩,h1,hf⟩:=bind_some hf
    obtain ⟨⟨d2,s2⟩,h2,hf⟩:=bind_some hf
    cases d2 with
    | d x=>cases hf
    | r n =>
      dsimp only at hf h2
      split at hf
      · rename_i k' fs hc
        split at hf
        · rename_i hk
          cases hf
          obtain ⟨hk1,hk2⟩:=hk
          rw [hk1] at hc
          refine ⟨θ,F,w,d,s1,m,v,h1,fun y θ1 F1 H1 p1 q1 m1 r1=>⟨θ1,F1,⟨w.η,s1⟩,.r n,s2,m1,v.mono p1 q1,h2,fun x θ2 F2 H2 p2 q2 m2 r2=>?_⟩⟩
          obtain ⟨a,e1,rfl⟩:=r2
          obtain ⟨c1,c2,c3,dx,xs,c4,c5⟩:=m2.cel n a _ e1 hc
          have hl:xs.length < 1000:=by
            have:=Paired.length c5
            omega
          refine ⟨a,cl k,dx,xs,rfl,c4,c2,hn,hl,q _ θ2 F2 _ (p1.trans p2) (q1.trans q2) (m2.put e1 hc rfl ⟨c1,c2,fun f hf=>?_,dx,_,upd_same,c5.put nm (r1.mono p2 q2)⟩) ((v.mono p1 q1).mono p2 q2)⟩
          rcases putA_keys hf with z | z
          · rw [z]; exact hn
          · exact c3 f z
        · cases hf
      · cases hf
end
noncomputable def runM (n m:Nat) (g:Wd→Option MOut):List D→Sto→Option (D×Sto):=fun ds s=>if ds.length=n then (g ⟨ds.map some++List.replicate (m - n) none,s⟩).bind fun o=>match o with
  | .rt d s'=>some (d,s')
  | .nx w=>some (.d .none,w.s)
  | _=>none else none
section
variable {P:Program} {w:World} {K:PySem.W.Frag} {mg:Str→Option Value} {base:Heap} {cl:Nat→Addr}
theorem MV.start {θ:List Addr} {F:Hp} {N:List Str} {ds:List D} {vs:List V} (r:DRs K θ F ds vs):MV K θ F (L2.start N vs) (ds.map some++List.replicate (N.length - ds.length) none) where
  len:=by unfold L2.start; rw [List.length_append,List.length_append,List.length_map,List.length_map,List.length_replicate,List.length_replicate,Paired.length r]
  val:=fun i d e=>by
    unfold L2.start
    by_cases hi:i < ds.length
    · rw [List.getElem?_append_left (by rw [List.length_map]; exact hi),List.getElem?_map] at e
      rw [List.getElem?_append_left (by rw [List.length_map,← Paired.length r]; exact hi),List.getElem?_map]
      cases q:ds[i]? with
      | none=>rw [q] at e; cases e
      | some d' =>
        rw [q] at e
        have:d'=d:=Option.some.inj (Option.some.inj e)
        subst this
        obtain ⟨x,e1,e2⟩:=r.get q
        exact ⟨x,by rw [e1]; rfl,e2⟩
    · rw [List.getElem?_append_right (by rw [List.length_map]; omega),List.getElem?_replicate] at e
      split at e <;> cases e
theorem fnM {x qual:Str} {st:Stmt} {f:Addr} {fd:FuncData} {N ps:List Str} {k:Nat} {g:Wd→Option MOut} (Fn:Fun K x qual st f fd) (Sc:FnScope N ps (defScope st))
    (hb:∀ (cdv:Value) (A:Around) (outer:List Env) (s:Shared) (H:Hp) (E:XK),Room k (A.deeper (envOfC qual (defScope st) s.heap.objs.size f cdv)) →
      MSs (cxOf CX0 P w K mg base N qual (defScope st) f cdv A outer s H E).nox cl (defBody st) g) :
    FnOk P w K mg base CX0 (k+1) f fd ps (spM K cl (runM ps.length N.length g)):=by
  refine Fn.ok Sc (fun vs H Q E h=>?_) (fun cdv A outer s H vs Q E hr h=>?_)
  · obtain ⟨θ,F,s,ds,d,s',_,r,e,_⟩:=h
    unfold runM at e
    split at e
    · rename_i hl
      rw [← Paired.length r]; exact hl
    · cases e
  · obtain ⟨θ,F,s0,ds,d,s',m,r,e,q⟩:=h
    refine ⟨_,hb cdv A outer s H E hr,?_⟩
    unfold runM at e
    split at e
    · rename_i hl
      obtain ⟨o,h1,e⟩:=bind_some e
      have z:=MV.start (K:=K) (N:=N) r
      rw [hl] at z
      refine ⟨θ,F,⟨_,s0⟩,o,m,z,h1,?_⟩
      cases o with
      | rt d' s2 =>
        cases e
        exact q
      | nx w' =>
        cases e
        exact fun σ' θ' F' H' p' s' m' _=>q .non θ' F' H' p' s' m' (show Rel K F' .none .non from rel_non)
      | bk w'=>cases e
      | ct w'=>cases e
    · cases e
theorem fnM0 {f:Addr} {fd:FuncData} {ps:List Str} {k:Nat}:FnOk P w K mg base CX0 k f fd ps (spM K cl (fun _ _=>none)) :=
  ⟨fun vs H Q E h=>(by obtain ⟨_,_,_,_,_,_,_,_,e,_⟩:=h; cases e),fun A outer s H args us vs Q E _ _ _ _ h=>(by obtain ⟨_,_,_,_,_,_,_,_,e,_⟩:=h; cases e)⟩
end
end L2.PU
namespace L2.PU
open PySem PySem.Spec PyProof.Rows
noncomputable def tMI (K:PySem.W.Frag) (cl:Nat→Addr) (f:Wd→Option (List PyData×Sto)):TI:=fun σ H R=>∃ θ F w ds s',MR K cl θ F H w.s∧MV K θ F σ w.η∧f w=some (ds,s')∧∀ J θ' F' H',θ <+: θ'→Same F F'→MR K cl θ' F' H' s'→ItP K J F' ds→R J H'
noncomputable def MI (X:Cx) (cl:Nat→Addr) (tg iter:Expr) (f:Wd→Option (List PyData×Sto)):Prop:=PI X tg iter (tMI X.K cl f)
noncomputable def iPu (f:En→Option (List PyData)):Wd→Option (List PyData×Sto):=fun w=>(f (vw w)).bind fun ds=>some (ds,w.s)
noncomputable def iM (f:MF):Wd→Option (List PyData×Sto):=fun w=>(f w).bind fun r=>match r.1 with | .d (.list ds)=>some (ds,r.2) | _=>none
noncomputable def back:List Nat→MEn→En→Option MEn
  | [],η,_=>some η
  | k::ks,η,ζ=>match ζ[k]? with | some (.val x)=>back ks (η.set k (some (.d x))) ζ | _=>none
noncomputable def mTg (ks:List Nat) (t:En→PyData→Option En) (w:Wd) (d:PyData):Option Wd:=(t (vw w) d).bind fun ζ=>(back ks w.η ζ).bind fun η=>some ⟨η,w.s⟩
noncomputable def mGo (ks:List Nat) (t:En→PyData→Option En) (body:Wd→Option MOut):List PyData→Wd→Option MOut
  | [],w=>some (.nx w)
  | d::ds,w=>(mTg ks t w d).bind fun w1=>(body w1).bind fun o=>match o with
    | .nx w2=>mGo ks t body ds w2
    | .ct w2=>mGo ks t body ds w2
    | .bk w2=>some (.nx w2)
    | .rt d s=>some (.rt d s)
noncomputable def mFor (ks:List Nat) (it:Wd→Option (List PyData×Sto)) (t:En→PyData→Option En) (body:Wd→Option MOut):Wd→Option MOut:=fun w=>(it w).bind fun r=>mGo ks t body r.1 ⟨w.η,r.2⟩
section
variable {X:Cx} {cl:Nat→Addr} {tg iter e:Expr} {f:MF} {fi:En→Option (List PyData)} {pos:Pos}
theorem MI.pu (h:∀ B,I X B tg iter fi):MI X cl tg iter (iPu fi):=fun pins s σ H R I ⟨θ,F,w,ds,s',m,v,hf,q⟩=>by
  obtain ⟨x,hx,hf⟩:=bind_some hf
  cases hf
  exact h ⟨F,H⟩ pins s σ H R I ⟨F,vw w,_,m.vw v,hx,fun J F' H' g ip=>q J θ F' H' (List.prefix_refl _) g.ff (m.grow g) ip⟩
theorem MI.list (h:ME X cl e f):MI X cl tg e (iM f):=PI.imp (pi_list h) fun σ H R ⟨θ,F,w,ds,s',m,v,hf,q⟩=>by
  obtain ⟨⟨d,s1⟩,h1,hf⟩:=bind_some hf
  dsimp only at hf
  split at hf
  · rename_i ys hd
    cases hf
    refine ⟨θ,F,w,_,_,m,v,h1,fun u θ' F' H' p' s' m' r'=>?_⟩
    have r2:Rel X.K F' (.list ds) u:=r'
    obtain ⟨a,xs,rfl,hq,rs⟩:=r2.lst
    exact ⟨a,rfl,⟨xs,m'.sm.seq hq⟩,q _ θ' F' H' p' s' m' (itp_list hq rs)⟩
  · cases hf
theorem back_ok {K:PySem.W.Frag} {θ:List Addr} {B:Bd} {F H:Hp} {σ':St} {ζ:En} (sr:SR K B F H σ' ζ):∀ (ks:List Nat) {η η':MEn},back ks η ζ=some η'→η.length=σ'.length →
    (∀ (i:Nat) d,η[i]?=some (some d)→i∈ks∨∃ v,σ'[i]?=some (some v)∧DR K θ F d v)→MV K θ F σ' η'
  | [],η,η',h,hl,hv=>by
    cases h
    exact ⟨hl,fun i d e=>(hv i d e).elim (fun z=>(by cases z)) id⟩
  | k::ks,η,η',h,hl,hv=>by
    unfold back at h
    split at h
    · rename_i x hx
      refine back_ok sr ks h (by rw [List.length_set]; exact hl) fun i d e=>?_
      by_cases hk:k=i
      · subst hk
        by_cases hlt:k < η.length
        · rw [List.getElem?_set_self hlt] at e
          have e':D.d x=d:=Option.some.inj (Option.some.inj e)
          subst e'
          exact .inr (sr.en.val k x hx)
        · rw [List.getElem?_eq_none (by rw [List.length_set]; omega)] at e; cases e
      · rw [List.getElem?_set_ne hk] at e
        rcases hv i d e with z | z
        · rcases List.mem_cons.mp z with y | y
          · exact absurd y.symm hk
          · exact .inl y
        · exact .inr z
    · cases h
theorem tg_ok {K:PySem.W.Frag} {cl:Nat→Addr} {ks:List Nat} {gt:TG} {t:En→PyData→Option En} (ht:TgP K ks gt t) {θ:List Addr} {F H:Hp} {σ:St} {w w1:Wd} {d:PyData} {x:V} (m:MR K cl θ F H w.s) (v:MV K θ F σ w.η) (rx:Rel K F d x) (h:mTg ks t w d=some w1) {Q:St→Hp→Prop}
    (q:∀ σ' F' H',Same F F'→MR K cl θ F' H' w1.s→MV K θ F' σ' w1.η→Q σ' H'):gt x σ H Q:=by
  obtain ⟨ζ,h1,h⟩:=bind_some h
  obtain ⟨η,h2,h⟩:=bind_some h
  cases h
  refine ht ⟨F,H⟩ F H σ (vw w) d x ζ (m.vw v) rx h1 Q fun σ' F' H' sr g hl hn=>q σ' F' H' g.ff (m.grow g) (back_ok sr ks h2 (by rw [v.len,hl]) fun i d' e=>?_)
  by_cases hi:i∈ks
  · exact .inl hi
  · obtain ⟨u,e1,e2⟩:=v.val i d' e
    exact .inr ⟨u,by rw [hn i hi]; exact e1,e2.mono (List.prefix_refl _) g.ff⟩
theorem MS.for {body:List Stmt} {gt:TG} {ks:List Nat} {t:En→PyData→Option En} {fi:Wd→Option (List PyData×Sto)} {u:Wd→Option MOut} (hp:PassesOwn (model X.prog X.w) X.A X.env X.xe) (hc:X.calm=true) (hi:MI X cl tg iter fi) (hg:PG X tg gt) (ht:TgP X.K ks gt t) (hb:MSs X cl body u)
    (hs:∀ x,foldedSetIterable iter X.env x=pure x:=by intro _; rfl):MS X cl (.For tg iter body [] pos) (mFor ks fi t u):=PS.imp (ps_for hp hc hi hg hb hs) fun Z σ H ⟨θ,F,w,o,m,v,hf,q⟩=>by
  obtain ⟨⟨ds,s1⟩,h1,hd⟩:=bind_some hf
  refine ⟨θ,F,w,ds,s1,m,v,h1,fun J θ1 F1 H1 p1 q1 m1 ip=>?_⟩
  refine ⟨fun i n σ H=>n=ds.length - i∧i≤ds.length∧∃ θc Fc wc,θ1 <+: θc∧Same F1 Fc∧MR X.K cl θc Fc H wc.s∧MV X.K θc Fc σ wc.η∧mGo ks t u (ds.drop i) wc=some o,⟨_,rfl,Nat.zero_le _,θ1,F1,⟨w.η,s1⟩,List.prefix_refl _,.refl _,m1,v.mono p1 q1,by simpa using hd⟩,?_⟩
  rintro i n σc Hc ⟨rfl,hi,θc,Fc,wc,pc,sc,mc,vc,hgo⟩
  obtain ⟨ip1,ip2⟩:=ip Fc Hc i sc mc.sm
  by_cases hlt:i < ds.length
  · have e:ds[i]?=some ds[i]:=List.getElem?_eq_getElem hlt
    obtain ⟨go,yl⟩:=ip1 _ e
    rw [List.drop_eq_getElem_cons hlt] at hgo
    unfold mGo at hgo
    obtain ⟨w1,e1,hgo⟩:=bind_some hgo
    obtain ⟨o1,e2,hgo⟩:=bind_some hgo
    have cont:∀ (w2:Wd),mGo ks t u (ds.drop (i+1)) w2=some o→∀ σ' θ' F' H',θ1 <+: θ'→Same F1 F'→MR X.K cl θ' F' H' w2.s→MV X.K θ' F' σ' w2.η →
        ∃ n',n' < ds.length - i∧(fun i n σ H=>n=ds.length - i∧i≤ds.length∧∃ θc Fc wc,θ1 <+: θc∧Same F1 Fc∧MR X.K cl θc Fc H wc.s∧MV X.K θc Fc σ wc.η∧mGo ks t u (ds.drop i) wc=some o) (i+1) n' σ' H':=fun w2 h2 σ' θ' F' H' p s m v =>
      ⟨ds.length - (i+1),by omega,rfl,hlt,θ',F',w2,p,s,m,v,h2⟩
    refine .inr ⟨go,fun σ' H'=>∃ n',n' < ds.length - i∧(fun i n σ H=>n=ds.length - i∧i≤ds.length∧∃ θc Fc wc,θ1 <+: θc∧Same F1 Fc∧MR X.K cl θc Fc H wc.s∧MV X.K θc Fc σ wc.η∧mGo ks t u (ds.drop i) wc=some o) (i+1) n' σ' H',fun σ' H' n=>n,fun x H' y=>?_⟩
    obtain ⟨F2,g2,rx⟩:=yl x H' y
    refine tg_ok ht (mc.grow g2) (vc.mono (List.prefix_refl _) g2.ff) rx e1 fun σ3 F3 H3 s3 m3 v3=>?_
    refine ⟨θc,F3,w1,o1,m3,v3,e2,?_⟩
    have s4:Same F1 F3:=sc.trans (g2.ff.trans s3)
    cases o1 with
    | nx w2=>exact fun σ' θ' F' H' p' s' m' v'=>cont w2 hgo σ' θ' F' H' (pc.trans p') (s4.trans s') m' v'
    | ct w2=>exact fun σ' θ' F' H' p' s' m' v'=>cont w2 hgo σ' θ' F' H' (pc.trans p') (s4.trans s') m' v'
    | bk w2 =>
      cases hgo
      exact fun σ' θ' F' H' p' s' m' v'=>q σ' θ' F' H' (p1.trans (pc.trans p')) (q1.trans (s4.trans s')) m' v'
    | rt d s2 =>
      cases hgo
      exact fun u θ' F' H' p' s' m' r'=>q u θ' F' H' (p1.trans (pc.trans p')) (q1.trans (s4.trans s')) m' r'
  · have ei:i=ds.length:=by omega
    subst ei
    rw [List.drop_length] at hgo
    cases hgo
    exact .inl ⟨ip2 rfl,q σc θc Fc Hc (p1.trans pc) (q1.trans sc) mc vc⟩
end
section
variable {X:Cx} {cl:Nat→Addr} {tg iter elt:Expr} {ifs:List Expr} {scope:Scope} {N':List Str} {mp:List (Option Nat)} {ks:List Nat} {gt:TG} {t:En→PyData→Option En} {fi:En→Option (List PyData)} {p:En→Option Bool} {f:En→Option PyData} {pos:Pos}
noncomputable def mC (fs:En→Option (List PyData)):MF:=fun w=>(fs (vw w)).bind fun xs=>some (.d (.list xs),w.s)
theorem MS.setC (i:Nat) {y:Str} {py spos:Pos} (hc:X.calm=true) (hN:X.N.Nodup) (ck:CompSc X scope N' mp) (ht:TgP X.K ks gt t) (hks:∀ k∈ks,mp[k]?=some none) (hi:∀ B,I X B tg iter fi)
    (hb:∀ B s H fp,PG (compCx X scope N' s H fp) tg gt∧Ts (compCx X scope N' s H fp) B ifs p∧E (compCx X scope N' s H fp) B elt f)
    (hiy:X.N[i]?=some y:=by rfl) (hy:X.env.scope.names.lookup y=some .local:=by rfl) (hsw:swapsWith (.ListComp elt [⟨tg,iter,ifs,0⟩] scope pos) (some (.Name y py)) spos.line X.env=pure true:=by rfl)
    (hs:∀ x,foldedSetIterable iter X.env x=pure x:=by intro _; rfl):MS X cl (.Assign [.Name y py] (.ListComp elt [⟨tg,iter,ifs,0⟩] scope pos) spos) (mSet i (mC (sComp mp fi t p f))):=fun pins s σ H Z I ⟨θ,F,w,o,m,v,hf,q⟩=>by
  obtain ⟨⟨d,s1⟩,h1,hf⟩:=bind_some hf
  cases hf
  obtain ⟨xs,hx,h1⟩:=bind_some h1
  cases h1
  refine ps_setComp (g:=gt) (tt:=tT X.K ⟨F,H⟩ p) (te:=tE X.K ⟨F,H⟩ f) hc hN hiy hy ck (hi ⟨F,H⟩) (hb ⟨F,H⟩) hsw hs pins s σ H Z I ?_
  refine comp_of ht hks σ H _ ⟨F,vw w,xs,m.vw v,hx,fun p zs F' H' g hp fp hp' rs=>?_⟩
  obtain ⟨g2,r2⟩:=list_in m.sm g hp fp hp' rs
  exact q _ θ _ H' (List.prefix_refl _) g2.ff (m.grow g2) ((v.mono (List.prefix_refl _) g2.ff).set i r2)
end
end L2.PU
namespace L2.PU
open PySem PySem.Spec PyProof.Rows
noncomputable def truD:PyData→Option Bool
  | .none=>some false
  | .bool b=>some b
  | .int i=>some (i != 0)
  | .list ds=>some (!ds.isEmpty)
  | .tuple ds=>some (!ds.isEmpty)
  | _=>none
noncomputable def bTr (f:En→Option PyData):En→Option Bool:=fun η=>(f η).bind truD
noncomputable def pDs (s:Sto):List D→Option (List PyData)
  | []=>some []
  | d::r=>(pD s d).bind fun x=>(pDs s r).bind fun xs=>some (x::xs)
noncomputable def mCB (o:List PyData→Option PyData) (fs:MFs):MF:=fun w=>(fs w).bind fun r=>(pDs r.2 r.1).bind fun xs=>(o xs).bind fun x=>some (.d x,r.2)
section
variable {X:Cx} {cl:Nat→Addr} {e:Expr} {es:List Expr} {fs:MFs} {pos pp:Pos}
theorem pDs_rel {K:PySem.W.Frag} {θ:List Addr} {F H:Hp} {s:Sto} (m:MR K cl θ F H s) {ds:List D} {vs:List V} (h:DRs K θ F ds vs):∀ {xs:List PyData},pDs s ds=some xs→RelL K F xs vs:=by
  induction h with
  | nil=>intro xs e; cases e; exact .nil
  | @cons a b as bs r t ih =>
    intro xs e
    unfold pDs at e
    obtain ⟨x,h1,e⟩:=bind_some e
    obtain ⟨zs,h2,e⟩:=bind_some e
    cases e
    exact .cons (sees_p m _ _ _ h1 r) (ih h2)
end
section
variable {X:Cx} {cl:Nat→Addr} {a b:Expr} {f g:MF} {pos:Pos}
theorem ME.eq {k:Nat} (hr:Room k X.A) (ha:ME X cl a f) (hb:ME X cl b g):ME X cl (.Compare a [.Eq] [b] pos) (mOpL pEq f g):=ME.cmp (op_eqD hr.units) ad_eq (nomark b) ha hb
theorem MT.ne {k:Nat} (hr:Room k X.A) (ha:ME X cl a f) (hb:ME X cl b g):MT X cl (.Compare a [.NotEq] [b] pos) (mB (mOpL pNe f g)):=MT.cmp (op_neD hr.units) ad_ne (nomark b) ha hb
theorem ME.add (ha:ME X cl a f) (hb:ME X cl b g):ME X cl (.BinOp a .Add b pos) (mOp pAdd f g):=ME.op op_addA ad_add ha hb
theorem ME.at (ha:ME X cl a f) (hb:ME X cl b g) (hs:PlainIx b:=by intro _ _; rfl):ME X cl (.Subscript a b pos) (mOp pIx f g):=ME.ix ix_seq ad_ix ha hb hs
end
noncomputable def spL (K:PySem.W.Frag):Sp:=fun vs H Q _=>∃ (a:Addr) (ns:List Int),vs=[.ref a]∧SqL K H a (ns.map V.int)∧ns.length≤63∧∀ H',Q (.bl true) H'
theorem spM_law {K:PySem.W.Frag} {cl:Nat→Addr} {fn:List D→Sto→Option (D×Sto)} (main:∀ ns:List Int,ns.length≤63→∃ s',fn [.d (.list (ns.map PyData.int))] []=some (.d (.bool true),s')):∀ vs H Q E,spL K vs H Q E→spM K cl fn vs H Q E:=fun vs H Q E ⟨a,ns,e,hS,hl,q⟩=>by
  subst e
  obtain ⟨s',hm⟩:=main ns hl
  exact ⟨[],H,[],[.d (.list (ns.map PyData.int))],.d (.bool true),s',⟨.refl _,rfl,by simp,fun n a c h=>by simp at h⟩,.cons (show Rel K H (.list (ns.map PyData.int)) (.ref a) from rel_lst hS (RelL.ints ns)) .nil,hm,fun v θ' F' H' _ _ _ r=>by rw [(show Rel K F' (.bool true) v from r).bl]; exact q H'⟩
end L2.PU
namespace L2.PU
open PySem PySem.Spec PyProof.Rows
section
variable {w w1:Wd} {s s1 s2:Sto} {d d1 d2:D} {ds:List D} {n i k:Nat} {nm:Str}
theorem mSeq_of {f g:Wd→Option MOut} {r:Option MOut} (h1:f w=some (.nx w1)) (h2:g w1=r):mSeq f g w=r:=by
  unfold mSeq
  rw [h1]; exact h2
theorem mSeq_rt {f g:Wd→Option MOut} (h1:f w=some (.rt d s)):mSeq f g w=some (.rt d s):=by
  unfold mSeq
  rw [h1]; rfl
theorem mSet_of {f:MF} (h:f w=some (d,s)):mSet i f w=some (.nx ⟨w.η.set i (some d),s⟩):=by
  unfold mSet
  rw [h]; rfl
theorem mRet_of {f:MF} (h:f w=some (d,s)):mRet f w=some (.rt d s):=by
  unfold mRet
  rw [h]; rfl
theorem mExp_of {f:MF} (h:f w=some (d,s)):mExp f w=some (.nx ⟨w.η,s⟩):=by
  unfold mExp
  rw [h]; rfl
theorem mP_of {f:En→Option PyData} {x:PyData} (h:f (vw w)=some x):mP f w=some (.d x,w.s):=by
  unfold mP
  rw [h]; rfl
theorem mC_of {f:En→Option (List PyData)} {x:List PyData} (h:f (vw w)=some x):mC f w=some (.d (.list x),w.s):=by
  unfold mC
  rw [h]; rfl
theorem tPv_of {f:En→Option Bool} {b:Bool} (h:f (vw w)=some b):tPv f w=some (b,w.s):=by
  unfold tPv
  rw [h]; rfl
theorem mIfT {c:MTF} {f g:Wd→Option MOut} {r:Option MOut} (h:c w=some (true,s)) (h2:f ⟨w.η,s⟩=r):mIf c f g w=r:=by
  unfold mIf
  rw [h]; exact h2
theorem mIfF {c:MTF} {f g:Wd→Option MOut} {r:Option MOut} (h:c w=some (false,s)) (h2:g ⟨w.η,s⟩=r):mIf c f g w=r:=by
  unfold mIf
  rw [h]; exact h2
theorem mIfN {c:MTF} {f:Wd→Option MOut} (h:c w=some (false,s)):mIf c f mNx w=some (.nx ⟨w.η,s⟩):=mIfF h rfl
theorem maN_of:maN w=some ([],w.s):=rfl
theorem maC_of {f:MF} {fs:MFs} (h1:f w=some (d,s1)) (h2:fs ⟨w.η,s1⟩=some (ds,s2)):maC f fs w=some (d::ds,s2):=by
  unfold maC
  rw [h1,Option.bind_some,h2]; rfl
theorem mMeth_of {fn:List D→Sto→Option (D×Sto)} {o:MF} {fs:MFs} {as:List (Str×D)} (h0:o w=some (.r n,s)) (hc:s[n]?=some (.obj k as)) (hl:as.lookup nm=none) (h1:fs ⟨w.η,s⟩=some (ds,s1)) (h2:fn (.r n::ds) s1=some (d,s2)):mMeth k nm fn o fs w=some (d,s2):=by
  unfold mMeth
  rw [h0,Option.bind_some]
  dsimp only
  rw [hc]
  dsimp only
  rw [if_pos ⟨rfl,hl⟩,h1]; exact h2
theorem mMake_of {fn:List D→Sto→Option (D×Sto)} {fs:MFs} (h1:fs w=some (ds,s)) (h2:fn (.r s.length::ds) (s++[.obj k []])=some (.d .none,s2)):mMake k fn fs w=some (.r s.length,s2):=by
  unfold mMake
  rw [h1,Option.bind_some,h2]; rfl
theorem mPut_of {o e:MF} {fs:List (Str×D)} (h1:e w=some (d,s1)) (h2:o ⟨w.η,s1⟩=some (.r n,s2)) (hc:s2[n]?=some (.obj k fs)) (hl:fs.length < 999):mPut k nm o e w=some (.nx ⟨w.η,s2.set n (.obj k (putA nm d fs))⟩):=by
  unfold mPut
  rw [h1,Option.bind_some,h2,Option.bind_some]
  dsimp only
  rw [hc]
  dsimp only
  rw [if_pos ⟨rfl,hl⟩]
theorem mB_of {f:MF} {b:Bool} (h:f w=some (.d (.bool b),s)):mB f w=some (b,s):=by
  unfold mB
  rw [h]; rfl
theorem mOpL_of {o:PyData→PyData→Option PyData} {f g:MF} {x y z:PyData} (h1:f w=some (d1,s1)) (h2:g ⟨w.η,s1⟩=some (d2,s2)) (hx:lD s2 d1=some x) (hy:lD s2 d2=some y) (ho:o x y=some z) (hf:flatD z=true):mOpL o f g w=some (.d z,s2):=by
  unfold mOpL
  rw [h1,Option.bind_some,h2,Option.bind_some,hx,Option.bind_some,hy,Option.bind_some,ho,Option.bind_some,if_pos hf]
theorem mOp_of {o:PyData→PyData→Option PyData} {f g:MF} {x y z:PyData} (h1:f w=some (d1,s1)) (h2:g ⟨w.η,s1⟩=some (d2,s2)) (hx:pD s2 d1=some x) (hy:pD s2 d2=some y) (ho:o x y=some z):mOp o f g w=some (.d z,s2):=by
  unfold mOp
  rw [h1,Option.bind_some,h2,Option.bind_some,hx,Option.bind_some,hy,Option.bind_some,ho,Option.bind_some]
theorem tmAndF {f g:MTF} (h1:f w=some (false,w.s)):tmAnd f g w=some (false,w.s):=by
  unfold tmAnd
  rw [h1]; rfl
theorem mRun_of {a b:Nat} {g:Wd→Option MOut} (hl:ds.length=a) (h:g ⟨ds.map some++List.replicate (b - a) none,s⟩=some (.rt d s1)):runM a b g ds s=some (d,s1):=by
  unfold runM
  rw [if_pos hl,h]; rfl
theorem mRunN {a b:Nat} {g:Wd→Option MOut} (hl:ds.length=a) (h:g ⟨ds.map some++List.replicate (b - a) none,s⟩=some (.nx w1)):runM a b g ds s=some (.d .none,w1.s):=by
  unfold runM
  rw [if_pos hl,h]; rfl
theorem mFor_of {ks:List Nat} {it:Wd→Option (List PyData×Sto)} {t:En→PyData→Option En} {body:Wd→Option MOut} {xs:List PyData} {r:Option MOut} (h:it w=some (xs,s)) (h2:mGo ks t body xs ⟨w.η,s⟩=r):mFor ks it t body w=r:=by
  unfold mFor
  rw [h]; exact h2
theorem iPu_of {f:En→Option (List PyData)} {xs:List PyData} (h:f (vw w)=some xs):iPu f w=some (xs,w.s):=by
  unfold iPu
  rw [h]; rfl
theorem mTg_name {x:PyData} (h:i < w.η.length):mTg [i] (tgN i) w x=some ⟨w.η.set i (some (.d x)),w.s⟩:=by
  have e:((vw w).set i (.val x))[i]?=some (.val x):=List.getElem?_set_self (by unfold vw; rw [List.length_map]; exact h)
  show (some ((vw w).set i (.val x))).bind _=_
  rw [Option.bind_some]
  unfold back
  rw [e]
  rfl
theorem mGo_all {ι:Type} {ks:List Nat} {t:En→PyData→Option En} {body:Wd→Option MOut} (Z:ι→PyData) (Inv:List ι→Wd→Prop) (all:List ι)
    (st:∀ done x rest w,all=done++x::rest→Inv done w→∃ w1 w2,mTg ks t w (Z x)=some w1∧body w1=some (.nx w2)∧Inv (done++[x]) w2) {w:Wd} (h0:Inv [] w):∃ w',mGo ks t body (all.map Z) w=some (.nx w')∧Inv all w':=by
  have key:∀ (rest done:List ι) (w:Wd),all=done++rest→Inv done w→∃ w',mGo ks t body (rest.map Z) w=some (.nx w')∧Inv all w':=by
    intro rest
    induction rest with
    | nil=>intro done w e h; exact ⟨w,rfl,by rw [e,List.append_nil]; exact h⟩
    | cons x r ih =>
      intro done w e h
      obtain ⟨w1,w2,h1,h2,h3⟩:=st done x r w e h
      obtain ⟨w',e1,e2⟩:=ih (done++[x]) w2 (by rw [e]; simp) h3
      refine ⟨w',?_,e2⟩
      rw [List.map_cons]
      unfold mGo
      rw [h1,Option.bind_some,h2,Option.bind_some]
      exact e1
  exact key all [] w rfl h0
theorem vwS_obj {g:D→Option PyData} {fs:List (Str×D)} (hc:s[n]?=some (.obj k fs)):vwS g s (some (.r n))=.ob fun f=>(fs.lookup f).bind g:=by
  unfold vwS
  dsimp only
  rw [hc]
end
end L2.PU
namespace L2.PU
open PySem PySem.Spec PyProof.Rows
noncomputable def mcIn (mp:List (Option Nat)) (η:MEn):MEn:=mp.map fun o=>o.bind fun j=>(η[j]?).join
noncomputable def mcGo (ks:List Nat) (t:En→PyData→Option En) (p:MTF) (f:MF) (n:Nat) (η:MEn):List PyData→Sto→Option Sto
  | [],s=>some s
  | d::ds,s=>(mTg ks t ⟨η,s⟩ d).bind fun w1=>(p w1).bind fun r=>if r.1=true then
      (f ⟨w1.η,r.2⟩).bind fun q=>match q.2[n]? with
        | some (.lst acc)=>if acc.length < sizeLine then mcGo ks t p f n η ds (q.2.set n (.lst (acc++[q.1]))) else none
        | _=>none
    else mcGo ks t p f n η ds r.2
noncomputable def mcL (mp:List (Option Nat)) (it:Wd→Option (List PyData×Sto)) (ks:List Nat) (t:En→PyData→Option En) (p:MTF) (f:MF):MF:=fun w=>(it w).bind fun r =>
  (mcGo ks t p f r.2.length (mcIn mp w.η) r.1 (r.2++[.lst []])).bind fun s=>some (.r r.2.length,s)
noncomputable def MTs (X:Cx) (cl:Nat→Addr) (ifs:List Expr) (f:MTF):Prop:=PTs X ifs (tMT X.K cl f)
noncomputable def tmTrue:MTF:=fun w=>some (true,w.s)
section
variable {X:Cx} {cl:Nat→Addr} {tg iter elt c:Expr} {ifs:List Expr} {scope:Scope} {N':List Str} {mp:List (Option Nat)} {ks:List Nat} {gt:TG} {t:En→PyData→Option En} {fi:Wd→Option (List PyData×Sto)} {p:MTF} {f:MF} {pos:Pos}
theorem paired_app {α β:Type} {R:α→β→Prop} {as:List α} {bs:List β} (h:Paired R as bs) {a:α} {b:β} (r:R a b):Paired R (as++[a]) (bs++[b]):=by
  induction h with
  | nil=>exact .cons r .nil
  | cons q _ ih=>exact .cons q ih
theorem paired_len {α β:Type} {R:α→β→Prop} {as:List α} {bs:List β} (h:Paired R as bs):as.length=bs.length:=by
  induction h with
  | nil=>rfl
  | cons q _ ih=>rw [List.length_cons,List.length_cons,ih]
end
end L2.PU
namespace L2.PU
open PySem PySem.Spec PyProof.Rows
noncomputable def tPM (K:PySem.W.Frag) (cl:Nat→Addr) (f:En→Option (Option Int)):TO:=fun σ H Q=>∃ θ F w o,MR K cl θ F H w.s∧MV K θ F σ w.η∧f (vw w)=some o∧∀ F' H',Same F F'→MR K cl θ F' H' w.s→Q o H'
noncomputable def mSl (f:MF) (fl fh:En→Option (Option Int)):MF:=fun w=>(f w).bind fun r=>(pD r.2 r.1).bind fun x=>(fl (vw ⟨w.η,r.2⟩)).bind fun l=>(fh (vw ⟨w.η,r.2⟩)).bind fun h=>(pSl x l h).bind fun z=>some (.d z,r.2)
end L2.PU
namespace L2.PU
open PySem PySem.Spec PyProof.Rows
noncomputable def mFz (f:MF):MF:=fun w=>(f w).bind fun r=>match r.1 with
  | .d x=>some (.d x,r.2)
  | .r n=>match r.2[n]? with
    | some (.lst ds)=>(dAll ds).bind fun xs=>some (.d (.list xs),r.2.set n (.fz (.list xs)))
    | some (.fz x)=>some (.d x,r.2)
    | _=>none
noncomputable def mIfx (c:MTF) (f g:MF):MF:=fun w=>(c w).bind fun r=>if r.1=true then f ⟨w.η,r.2⟩ else g ⟨w.η,r.2⟩
noncomputable def mLst (fs:MFs):MF:=fun w=>(fs w).bind fun r=>if r.1.length≤sizeLine then some (.r r.2.length,r.2++[.lst r.1]) else none
noncomputable def mIxL (f g:MF):MF:=fun w=>(f w).bind fun r=>(g ⟨w.η,r.2⟩).bind fun q=>match r.1,q.1 with
  | .r n,.d (.int i)=>(match q.2[n]? with | some (.lst ds)=>(atI ds i).bind fun d=>some (d,q.2) | _=>none)
  | _,_=>none
noncomputable def mNewD:MF:=fun w=>some (.r w.s.length,w.s++[.dct []])
section
variable {X:Cx} {cl:Nat→Addr} {a b c e o:Expr} {es:List Expr} {f g:MF} {fs:MFs} {tc:MTF} {pos:Pos}
theorem CelR.frz {K:PySem.W.Frag} {θ:List Addr} {F H:Hp} {a b:Addr} {o:HO} {c:Cell} (h:CelR K cl θ F H b c) (hne:b≠a) (hF:F a=none):CelR K cl θ (upd F a o) H b c:=by
  have sn:Same F (upd F a o):=same_new hF o
  cases c with
  | obj k fs=>obtain ⟨h1,h2,h3,dx,xs,h4,h5⟩:=h; exact ⟨by rw [upd_ne hne]; exact h1,h2,h3,dx,xs,h4,h5.mono (List.prefix_refl _) sn⟩
  | lst ds=>obtain ⟨h1,xs,h4,h5⟩:=h; exact ⟨by rw [upd_ne hne]; exact h1,xs,h4,h5.mono (List.prefix_refl _) sn⟩
  | dct kvs=>obtain ⟨h1,xs,h4,h5⟩:=h; exact ⟨by rw [upd_ne hne]; exact h1,xs,h4,h5.mono (List.prefix_refl _) sn⟩
  | fz x=>exact ⟨Rel.mono sn h.1,h.2⟩
theorem MR.frz {K:PySem.W.Frag} {θ:List Addr} {F H:Hp} {s:Sto} (m:MR K cl θ F H s) {n:Nat} {ad:Addr} {ds:List D} {xs:List PyData} (e1:θ[n]?=some ad) (e2:s[n]?=some (.lst ds)) (hx:dAll ds=some xs) :
    ∃ F',Same F F'∧MR K cl θ F' H (s.set n (.fz (.list xs)))∧Rel K F' (.list xs) (.ref ad):=by
  obtain ⟨h1,vs,h4,h5⟩:=m.cel n ad _ e1 e2
  have sn:Same F (upd F ad (.lst vs)):=same_new h1 _
  have rl:Rel K (upd F ad (.lst vs)) (.list xs) (.ref ad):=rel_lst (SqL.of upd_same) ((dAll_rel h5 hx).mono sn)
  refine ⟨upd F ad (.lst vs),sn,⟨fun b u q=>?_,by rw [List.length_set]; exact m.len,m.nd,fun k b c f1 f2=>?_⟩,rl⟩
  · by_cases hb:b=ad
    · subst hb; rw [upd_same] at q; rw [← q]; exact h4
    · rw [upd_ne hb] at q; exact m.sm b u q
  · by_cases hk:n=k
    · subst hk
      rw [List.getElem?_set_self (List.getElem?_eq_some_iff.mp e2).1] at f2
      cases f2
      rw [e1] at f1
      cases f1
      exact ⟨rl,_,h4⟩
    · rw [List.getElem?_set_ne hk] at f2
      exact (m.cel k b c f1 f2).frz (nd_ne m.nd f1 e1 (Ne.symm hk)) h1
theorem fz_of:∀ σ H Q,tM X.K cl (mFz f) σ H Q→tM X.K cl f σ H Q:=fun σ H Q ⟨θ,F,w,d,s',m,v,hf,q⟩=>by
  obtain ⟨⟨d1,s1⟩,h1,hf⟩:=bind_some hf
  refine ⟨θ,F,w,d1,s1,m,v,h1,fun u θ1 F1 H1 p1 q1 m1 r1=>?_⟩
  cases d1 with
  | d x=>cases hf; exact q u θ1 F1 H1 p1 q1 m1 r1
  | r n =>
    dsimp only at hf
    obtain ⟨ad,e1,rfl⟩:=r1
    split at hf
    · rename_i ds e2
      obtain ⟨xs,hx,hf⟩:=bind_some hf
      cases hf
      obtain ⟨F2,sn,m2,rl⟩:=m1.frz e1 e2 hx
      exact q _ θ1 F2 H1 p1 (q1.trans sn) m2 rl
    · rename_i x e2
      cases hf
      exact q _ θ1 F1 H1 p1 q1 m1 (m1.cel n ad _ e1 e2).1
    · cases hf
theorem ME.fz (h:ME X cl e f):ME X cl e (mFz f):=PE.imp h fz_of
theorem new_last {θ:List Addr} {s:Sto} {p:Addr} (h:θ.length=s.length):(θ++[p])[s.length]?=some p:=by rw [← h,List.getElem?_append_right (Nat.le_refl _),Nat.sub_self]; rfl
theorem ME.dict0:ME X cl (.Dict [] [] pos) mNewD:=PE.imp pe_dnewK fun σ H Q ⟨θ,F,w,d,s',m,v,hf,q⟩ p hp=>by
  cases hf
  have pp:θ <+: θ++[p]:=List.prefix_append _ _
  exact q _ (θ++[p]) F _ pp (.refl _) (m.new hp ⟨m.sm.free hp,[],upd_same,.nil⟩) ⟨p,new_last m.len,rfl⟩
end
noncomputable def mExtC (o g:MF):MF:=fun w=>(o w).bind fun r=>match r.1 with
  | .r n=>(match r.2[n]? with
    | some (.lst _)=>(g ⟨w.η,r.2⟩).bind fun q=>(pD q.2 q.1).bind fun x=>match x,q.2[n]? with
      | .list ys,some (.lst ds)=>if ds.length+ys.length≤sizeLine then some (.d .none,q.2.set n (.lst (ds++ys.map .d))) else none
      | _,_=>none
    | _=>none)
  | _=>none
noncomputable def mAppC (o g:MF):MF:=fun w=>(o w).bind fun r=>match r.1 with
  | .r n=>(match r.2[n]? with
    | some (.lst _)=>(g ⟨w.η,r.2⟩).bind fun q=>match q.2[n]? with
      | some (.lst ds)=>if ds.length < sizeLine then some (.d .none,q.2.set n (.lst (ds++[q.1]))) else none
      | _=>none
    | _=>none)
  | _=>none
section
variable {X:Cx} {cl:Nat→Addr} {o e:Expr} {f g:MF} {apos cpos:Pos}
theorem paired_apps {α β:Type} {R:α→β→Prop} {as as':List α} {bs bs':List β} (h:Paired R as bs) (h':Paired R as' bs'):Paired R (as++as') (bs++bs'):=by
  induction h with
  | nil=>exact h'
  | cons q _ ih=>exact .cons q ih
theorem ME.appC (ho:ME X cl o f) (he:ME X cl e g) (hbase:attributeBase o "append" X.env (eval o X.env)=eval o X.env:=by rfl)
    (hfew:((backTo cpos (starEach [e] X.env)).all (fun x=>!x.1)&&(backToKw cpos (keywordEach [] X.env)).all (fun x=>x.1.isSome)
      && decide ([e].length+([]:List Keyword).length+(if ([]:List Keyword).isEmpty then 0 else 1) < 30))=true:=by rfl)
    (hline:(apos.endLine==cpos.line)=true:=by rfl) (hs:starEach [e] X.env=(false,eval e X.env)::starEach [] X.env:=by exact star_of rfl) (hplain:(backTo cpos (starEach [] X.env)).any (·.1)=false:=by rfl) :
    ME X cl (.Call (.Attribute o "append" apos) [e] [] cpos) (mAppC f g) :=
  PE.imp (pe_bm PySem.F.plainAttrs_list PySem.F.slot_list_append PySem.F.type_list_append mt_append ho (MA.cons he MA.nil hs) hbase hfew hline hs hplain) fun σ H Q ⟨θ,F,w,d,s',m,v,hf,q⟩=>by
    obtain ⟨⟨d1,s1⟩,h1,hf⟩:=bind_some hf
    cases d1 with
    | d x=>cases hf
    | r n =>
      dsimp only at hf
      split at hf
      · rename_i ds0 hc0
        obtain ⟨⟨d2,s2⟩,h2,hf⟩:=bind_some hf
        dsimp only at hf
        split at hf
        · rename_i ds hc
          split at hf
          · rename_i hl
            cases hf
            refine ⟨θ,F,w,_,s1,m,v,h1,fun u θ1 F1 H1 p1 q1 m1 r1=>?_⟩
            obtain ⟨ad,z1,rfl⟩:=r1
            obtain ⟨w1,xs0,w3,w4⟩:=m1.cel n ad _ z1 hc0
            refine ⟨.inl ⟨rfl,xs0,SqL.of w3⟩,θ1,F1,⟨w.η,s1⟩,[d2],s2,m1,v.mono p1 q1,maC_of h2 maN_of,fun vs θ2 F2 H2 p2 q2 m2 r2=>?_⟩
            cases r2 with
            | @cons _ y _ _ ra rn =>
              cases rn
              have z2:=pre_get p2 z1
              obtain ⟨w5,xs,w6,w7⟩:=m2.cel n ad _ z2 hc
              have hlx:=paired_len w7
              refine ⟨ad,xs,y,rfl,rfl,w6,by rw [← hlx]; exact hl,?_⟩
              exact q _ θ2 F2 _ (p1.trans p2) (q1.trans q2) (m2.put (c':=.lst (ds++[d2])) z2 hc rfl ⟨w5,xs++[y],upd_same,paired_app w7 ra⟩) (show Rel X.K F2 .none .non from rel_non)
          · cases hf
        · cases hf
      · cases hf
end
end L2.PU
namespace L2.PU
open PySem PySem.Spec PyProof.Rows
noncomputable def tDSd (td ty tx:TE):TE:=fun σ H Q=>td σ H fun x H1=>∃ a,x=.ref a∧IsD H1 a∧ty σ H1 fun y H2=>tx σ H2 fun z H3=>∃ kvs k,H3 a=some (.dK kvs)∧y=kV k ∧
  (∀ v,valV kvs k=some v→Q v H3)∧(valV kvs k=none→kvs.length < sizeLine∧Q z (upd H3 a (.dK (putK kvs k z))))
noncomputable def keyP:PyData→Option Key
  | .int i=>some (.inl i)
  | .str x=>some (.inr x)
  | _=>none
noncomputable def lookK (kvs:List (Key×D)) (k:Key):Option D:=(kvs.find? fun kv=>decide (kv.1=k)).map (·.2)
theorem DRk.look {K:PySem.W.Frag} {θ:List Addr} {F:Hp} {kvs:List (Key×D)} {vs:List (Key×V)} (h:DRk K θ F kvs vs) (k:Key):(∀ d,lookK kvs k=some d→∃ v,valV vs k=some v∧DR K θ F d v)∧(lookK kvs k=none→valV vs k=none):=by
  induction h with
  | nil=>exact ⟨fun d e=>(by cases e),fun _=>rfl⟩
  | @cons a b as bs r t ih =>
    by_cases hk:a.1=k
    · have hb:b.1=k:=by rw [← r.1]; exact hk
      have e1:lookK (a::as) k=some a.2:=by simp [lookK,List.find?_cons,hk]
      rw [e1,valV_pos hb]
      exact ⟨fun d e=>(by cases e; exact ⟨_,rfl,r.2⟩),fun e=>(by cases e)⟩
    · have hb:¬ b.1=k:=by rw [← r.1]; exact hk
      have e1:lookK (a::as) k=lookK as k:=by simp [lookK,List.find?_cons,hk]
      rw [e1,valV_neg hb]
      exact ih
noncomputable def mSetD (o g f:MF):MF:=fun w=>(o w).bind fun r=>match r.1 with
  | .r n=>(match r.2[n]? with
    | some (.dct _)=>(g ⟨w.η,r.2⟩).bind fun q=>match q.1 with
      | .d x=>(keyP x).bind fun k=>(f ⟨w.η,q.2⟩).bind fun z=>match z.2[n]? with
        | some (.dct kvs)=>(match lookK kvs k with
          | some d=>some (d,z.2)
          | none=>if kvs.length < sizeLine then some (z.1,z.2.set n (.dct (kvs++[(k,z.1)]))) else none)
        | _=>none
      | _=>none
    | _=>none)
  | _=>none
end L2.PU
namespace L2.PU
open PySem PySem.Spec PyProof.Rows
noncomputable def mAnd (f g:MF):MF:=fun w=>(f w).bind fun r=>match r.1 with | .d x=>(asB x).bind fun c=>if c=true then g ⟨w.η,r.2⟩ else some (.d (.bool false),r.2) | _=>none
noncomputable def mOr (f g:MF):MF:=fun w=>(f w).bind fun r=>match r.1 with | .d x=>(asB x).bind fun c=>if c=true then some (.d (.bool true),r.2) else g ⟨w.η,r.2⟩ | _=>none
end L2.PU
namespace L2.PU
open PySem PySem.Spec PyProof.Rows
section
variable {X:Cx} {cl:Nat→Addr} {tg e:Expr} {f:MF} {pos:Pos}
noncomputable def mUnp (ks:List Nat) (f:MF) (t:En→PyData→Option En):Wd→Option MOut:=fun w=>(f w).bind fun r=>match r.1 with | .d d=>(mTg ks t ⟨w.η,r.2⟩ d).bind fun w'=>some (.nx w') | _=>none
theorem MS.unp {gt:TG} {ks:List Nat} {t:En→PyData→Option En} (he:ME X cl e f) (hg:PG X tg gt) (ht:TgP X.K ks gt t) (hs:swapsWithSole [tg] e pos.line X.env=pure false:=by rfl) (hw:swappedStores [tg] e X.env=pure none:=by rfl)
    (h1:(assignEach [tg] X.env).map (·.2)=[assign tg X.env]:=by rfl):MS X cl (.Assign [tg] e pos) (mUnp ks f t) :=
  PS.imp (ps_asg he hg hs hw h1) fun Z σ H ⟨θ,F,w,o,m,v,hf,q⟩=>by
    obtain ⟨⟨d,s1⟩,h2,hf⟩:=bind_some hf
    dsimp only at hf
    split at hf
    · rename_i dd
      obtain ⟨w',h3,hf⟩:=bind_some hf
      cases hf
      refine ⟨θ,F,w,.d dd,s1,m,v,h2,fun u θ' F' H' p' s' m' r'=>?_⟩
      exact tg_ok (w:=⟨w.η,s1⟩) ht m' (v.mono p' s') r' h3 fun σ2 F2 H2 sm mr mv=>q σ2 θ' F2 H2 p' (s'.trans sm) mr mv
    · cases hf
theorem mUnp_of {w w':Wd} {ks:List Nat} {t:En→PyData→Option En} {d:PyData} {s1:Sto} (h1:f w=some (.d d,s1)) (h2:mTg ks t ⟨w.η,s1⟩ d=some w'):mUnp ks f t w=some (.nx w'):=by
  unfold mUnp
  rw [h1,Option.bind_some]
  dsimp only
  rw [h2]; rfl
end
end L2.PU
namespace L2.PU
open PySem PySem.Spec PyProof.Rows
noncomputable def mTruL (f:MF):MTF:=fun w=>(f w).bind fun r=>match r.1 with
  | .r n=>(match r.2[n]? with
    | some (.lst ds)=>some (!ds.isEmpty,r.2)
    | _=>none)
  | _=>none
noncomputable def mLenL (f:MF):MF:=fun w=>(f w).bind fun r=>match r.1 with
  | .r n=>(match r.2[n]? with
    | some (.lst ds)=>some (.d (.int ds.length),r.2)
    | _=>none)
  | _=>none
noncomputable def mPopL (f:MF):MF:=fun w=>(f w).bind fun r=>match r.1 with
  | .r n=>(match r.2[n]? with
    | some (.lst ds)=>(ds[ds.length - 1]?).bind fun d=>some (d,r.2.set n (.lst ds.dropLast))
    | _=>none)
  | _=>none
noncomputable def mCopyL (f:MF):MF:=fun w=>(f w).bind fun r=>match r.1 with
  | .r n=>(match r.2[n]? with
    | some (.lst ds)=>some (.r r.2.length,r.2++[.lst ds])
    | _=>none)
  | _=>none
noncomputable def mTupD (fs:MFs):MF:=fun w=>(fs w).bind fun r=>(pDs r.2 r.1).bind fun xs=>if xs.length≤sizeLine then some (.d (.tuple xs),r.2) else none
section
variable {X:Cx} {cl:Nat→Addr} {o e:Expr} {f:MF} {apos cpos pos pp:Pos}
theorem ME.tupM {x1} {es:List Expr} {fs:MFs} (h:MA X cl es fs):ME X cl (.Tuple es x1 pos) (mTupD fs):=PE.imp (pe_tup h) fun σ H Q ⟨θ,F,w,d,s',m,v,hf,q⟩=>by
  obtain ⟨⟨ds,s1⟩,h1,hf⟩:=bind_some hf
  obtain ⟨xs,h2,hf⟩:=bind_some hf
  split at hf
  · rename_i hl
    cases hf
    refine ⟨θ,F,w,ds,_,m,v,h1,fun vs θ1 F1 H1 p1 q1 m1 r1=>?_⟩
    have rs:=pDs_rel m1 r1 h2
    refine ⟨by rw [rs.length]; exact hl,fun p hp=>?_⟩
    have g2:Gr F1 H1 (upd F1 p (.tup vs)) (upd H1 p (.tup vs)):=Gr.one m1.sm hp
    exact q _ θ1 _ _ p1 (q1.trans g2.ff) (m1.grow g2) (show Rel X.K _ (.tuple xs) (.ref p) from rel_tup (SqT.of upd_same) (rs.mono g2.ff))
  · cases hf
end
end L2.PU
namespace L2.PU
open PySem PySem.Spec PyProof.Rows
noncomputable def Itdn (lo:Int) (n:Nat):It:=⟨fun i _=>i < n,fun i H x H'=>H'=H∧x=.int (lo - i),fun i _=>n≤i⟩
section
variable {X:Cx} {tg a b c:Expr} {B:Bd} {fs:En→Option (List PyData)} {pos:Pos}
noncomputable def iRngD (ta:TA):TI:=fun σ H R=>ta σ H fun vs H1=>∃ i j:Int,vs=[.int i,.int j,.int (-1)]∧(-(2 ^ 58)≤i∧i < 2 ^ 58∧-(2 ^ 58)≤j∧j < 2 ^ 58)∧R (Itdn i (i - j).toNat) H1
noncomputable def rngLd (lo:Int) (n:Nat):List PyData:=(List.range n).map fun (k:Nat)=>PyData.int (lo - k)
noncomputable def rngD (ds:List PyData):Option (List PyData):=match ds with
  | [.int i,.int j,.int (-1)]=>if (-(2 ^ 58)≤i∧i < 2 ^ 58)∧(-(2 ^ 58)≤j∧j < 2 ^ 58) then some (rngLd i (i - j).toNat) else none
  | _=>none
end
section
variable {X:Cx} {cl:Nat→Addr} {tg a b e:Expr} {f g:MF} {pos:Pos}
noncomputable def iMT (f:MF):Wd→Option (List PyData×Sto):=fun w=>(f w).bind fun r=>match r.1 with | .d (.tuple ds)=>some (ds,r.2) | _=>none
end
end L2.PU
namespace L2.PU
open PySem PySem.Spec PyProof.Rows
end L2.PU
namespace L2.PU
open PySem PySem.Spec PyProof.Rows
theorem paired_get {α β:Type} {R:α→β→Prop} {as:List α} {bs:List β} (h:Paired R as bs) {i:Nat} {b:β} (e:bs[i]?=some b):∃ a,as[i]?=some a∧R a b:=by
  induction h generalizing i with
  | nil=>simp at e
  | @cons a b as bs r t ih =>
    cases i with
    | zero=>simp at e; subst e; exact ⟨a,rfl,r⟩
    | succ i=>exact ih (by simpa using e)
theorem entry_itemiter:entryFor table "dict_itemiterator.__iter__" = some Builtin.«dict_keyiterator.__iter__»:=entryFor_alias (id' := "dict_keyiterator.__iter__") (by kernel_rfl) rfl (by decide +kernel) (by kernel_rfl)
theorem wpAny_pyIter_itemiter {prog:Program} {w:World} {A:Around} {E:Value→Shared→Prop} {s:Shared} {it d:Addr} {i n ep:Nat} {ok ov:Value} {Q:Value→Shared→Prop} (hit:IsItemIter s.heap it d i n ep ok ov) (h:Q (.ref it) s):wpAny (model prog w) A (pyIter (.ref it)) Q E s:=by
  have hT:s.TypeIs (.ref it) "dict_itemiterator" := ⟨_,hit,rfl⟩
  refine wpAny_pyIter_slot hT PySem.F.slot_dict_itemiterator_iter (wpAny_call_entry PySem.F.slot_dict_itemiterator_iter hT entry_itemiter ?_ (PySem.F.args_dict_itemiterator_iter_1 _))
  show wpAny _ _ (ret (.ref it)) _ _ s
  exact wpAny_pure ⟨_,rfl, "dict_itemiterator", _,hT,PySem.F.slot_dict_itemiterator_next.lookup,h⟩
noncomputable def Iti (p:Addr) (ob:Obj) (ks:List (Key×V)):It :=
  ⟨fun i H=>i < ks.length∧H p=some (.frz ob (.dK ks)),
   fun i H v H'=>∃ T k x,H T=none∧ks[i]?=some (k,x)∧v=.ref T∧H'=upd H T (.tup [kV k,x]),
   fun i H=>i=ks.length∧H p=some (.frz ob (.dK ks))⟩
theorem turn_items {P:Program} {w:World} {K:PySem.W.Frag} {elts:List Expr} {kk:Nat} {tp:Pos} (it p:Addr) (ob:Obj) (ks:List (Key×V)) {es:Array DictEntry} {ep:Nat} (hd:ob.data=.dict es ep) :
    Turn P w K (.Tuple elts kk tp) (Iti p ob ks) [it] it (fun i h=>∃ ok ov,IsItemIter h it p i ks.length ep ok ov) where
  mem:=by simp
  obj:=fun i h st b hb=>by
    rw [List.mem_singleton.mp hb]
    obtain ⟨ok,ov,he⟩:=st
    exact ⟨_,he,fun v z=>by cases z⟩
  keep:=fun i h h' st k=>by
    obtain ⟨ok,ov,he⟩:=st
    exact ⟨ok,ov,k it (by simp) _ he⟩
  item:=by
    intro X hP hw hK hc i pins s σ H E I hf st hg
    subst hP hw hK
    obtain ⟨hi,hH⟩:=hg
    obtain ⟨f0,f1,f2,f3,f4,f5⟩:=hf it (by simp)
    obtain ⟨y,vs,r,da⟩:=at_of_held hd I.hok hH
    have hl:ks.length=vs.length:=r.length
    have hi2:i < vs.length:=by omega
    obtain ⟨⟨k,u⟩,hx⟩:∃ q,vs[i]?=some q:=⟨vs[i],List.getElem?_eq_getElem hi2⟩
    obtain ⟨⟨k',x⟩,hk',ek,ru⟩:=paired_get r hx
    have ek:k'=k:=ek
    subst ek
    obtain ⟨ok,ov,he⟩:=st
    rw [hl] at he
    refine wpAny_pyNext_items_item he da hx fun key h' hkey ho hT hsz hk=>⟨.ref s.heap.objs.size,rfl,?_⟩
    refine wpAny_letOwnedTupleGo_items (s:={ s with heap:=h' }) ho fun h'' he'' hs''=>?_
    generalize hTe:s.heap.objs.size=T at *
    have hTs:s.heap.objs.size≤T:=by rw [hTe]; exact Nat.le_refl _
    have nT:H T=none:=I.hok.fresh hTs
    have ltT:∀ b o,s.heap.get? b=some o→b≠T:=fun b o q=>Nat.ne_of_lt (Nat.lt_of_lt_of_le (Heap.lt_size q) hTs)
    have itT:T≠it:=fun z=>ltT it _ he z.symm
    have kall:∀ b o,b∉[it]→s.heap.get? b=some o→h''.get? b=some o:=fun b o hb q=>hs''.extBut b o (by simpa using hb) (hk b o (by simpa using hb) q)
    have hIs'':IsTup h'' T #[key,u]:=⟨_,hs''.extBut T _ itT hT,rfl,_,rfl⟩
    have J:Inv X pins σ (upd H T (.tup [kV k',x])) { s with heap:=h'' }:=by
      refine I.step (h':=h'') (g':=s.gens) (d':=s.drawn) (t':=s.toks) (ch:=[it]) (fun b hb=>⟨(hf b hb).2.2.2.1,(hf b hb).2.1,(hf b hb).2.2.2.2.1,(hf b hb).2.2.2.2.2⟩)
        (fun b o _ _ hb q _=>kall b o hb q) (fun b o _ _ hb q _=>⟨o.slots,kall b o hb q⟩) (fun b o _ q n=>by rw [upd_ne (ltT b o q)]; exact n) (fun b o hb q=>⟨o,kall b o hb q⟩)
        (fun b xs q=>by rw [upd_ne (ne_of_none q nT)]; exact q) (fun b o xs q=>by rw [upd_ne (ne_of_none q nT)]; exact q) (fun b ps q=>⟨#[],by rw [upd_ne (ne_of_none q nT),q]; simp⟩) (fun m hm=>?_) (fun b o q=>?_) I.bare
      · obtain ⟨o,es,ep,ho,r⟩:=hm
        refine ⟨o,es,ep,kall _ o (fun hb=>?_) ho,r⟩
        exact (hf _ hb).2.1 rfl
      · by_cases hb:b=T
        · subst hb
          rw [upd_same] at q
          cases q
          exact ⟨by show 2≤sizeLine; decide,[key,u],.cons (key_rel hkey) (.cons ru .nil),hIs''⟩
        · rw [upd_ne hb] at q
          have nfp:∀ b o,H b=some o→b∉[it]:=fun b o q hb=>by rw [(hf b hb).1] at q; cases q
          refine (I.hok b o q).stay (fun c' v hc' z=>kall c' v ?_ z) (fun c' z=>by rw [upd_ne (ne_of_none z nT)]; exact z) fun c' xs z=>by rw [upd_ne (ne_of_none z nT)]; exact z
          rcases hc' with rfl | hc'
          · exact nfp _ _ q
          · exact nfp _ _ hc'
    refine ⟨.ref T,upd H T (.tup [kV k',x]),J,rfl,⟨T,k',x,nT,hk',rfl,rfl⟩,⟨_,_,by rw [hl]; exact he''⟩,fun b hb=>?_⟩
    have nb:b≠T:=fun z=>itT (by rw [← z]; exact List.mem_singleton.mp hb)
    rw [upd_ne nb]; exact (hf b hb).1
  done:=by
    intro X hP hw hK hc i pins s σ H E I hf st hg
    subst hP hw hK
    obtain ⟨hi,hH⟩:=hg
    obtain ⟨f0,f1,f2,f3,f4,f5⟩:=hf it (by simp)
    obtain ⟨y,vs,r,da⟩:=at_of_held hd I.hok hH
    have hl:ks.length=vs.length:=r.length
    obtain ⟨ok,ov,he⟩:=st
    rw [hl] at he
    exact wpAny_pyNext_items_end (I.ok.hd hc) he da (List.getElem?_eq_none (by omega)) fun h' he'=>⟨rfl,I.turned (t':=s.toks) (fun b o hb e=>he' b o hb e) f0 f1 f3 f4 f5⟩
  self:=fun _ _ _ _ _ st h=>by
    obtain ⟨ok,ov,he⟩:=st
    exact wpAny_pyIter_itemiter he h
theorem Inv.unhold {X:Cx} {pins:List (Addr×Obj)} {σ:St} {H Hc:Hp} {s0 s:Shared} {p:Addr} {ob:Obj} {ks:List (Key×V)} (I0:Inv X pins σ H s0) (hp:H p=some (.dK ks)) (I:Inv X pins σ Hc s) (hc:Hc p=some (.frz ob (.dK ks))):Inv X pins σ (upd Hc p (.dK ks)) s:=by
  have ne:∀ b,Hc b=none→b≠p:=fun b q z=>by rw [z,hc] at q; cases q
  refine ⟨I.ok,I.os,I.bare,⟨I.base.keep,I.base.slot,fun b o q n hx=>?_,I.base.there,fun b xs q=>?_,fun b o u q=>?_,fun b ps q=>?_⟩,I.loc,I.cell,by rw [upd_ne (ne _ I.free)]; exact I.free,fun x c e=>by rw [upd_ne (ne _ (I.freeC x c e))]; exact I.freeC x c e,fun q hq=>?_,fun b o q=>?_,I.len⟩
  · have nb:b≠p:=fun z=>by
      have:=I0.base.free b o q n hx
      rw [z,hp] at this; cases this
    rw [upd_ne nb]; exact I.base.free b o q n hx
  · have nb:b≠p:=fun z=>by
      have:=I0.base.tups b xs q
      rw [z,hp] at this; cases this
    rw [upd_ne nb]; exact I.base.tups b xs q
  · have nb:b≠p:=fun z=>by
      have:=I0.base.frzs b o u q
      rw [z,hp] at this; cases this
    rw [upd_ne nb]; exact I.base.frzs b o u q
  · have nb:b≠p:=fun z=>by
      obtain ⟨m,this⟩:=I0.base.tbls b ps q
      rw [z,hp] at this; cases this
    rw [upd_ne nb]; exact I.base.tbls b ps q
  · obtain ⟨h1,h2,h3⟩:=I.pin q hq
    exact ⟨h1,by rw [upd_ne (ne _ h2)]; exact h2,h3⟩
  · have own:∀ c y,Hc c=some (.own y)→upd Hc p (.dK ks) c=some (.own y):=fun c y z=>by
      have nc:c≠p:=fun e=>by rw [e,hc] at z; cases z
      rw [upd_ne nc]; exact z
    have tup:∀ c xs,Hc c=some (.tup xs)→upd Hc p (.dK ks) c=some (.tup xs):=fun c xs z=>by
      have nc:c≠p:=fun e=>by rw [e,hc] at z; cases z
      rw [upd_ne nc]; exact z
    by_cases hb:b=p
    · subst hb
      rw [upd_same] at q
      cases q
      have z:ObjOk X.prog X.w Hc s.heap b (.frz ob (.dK ks)):=I.hok b _ hc
      exact ObjOk.stay z.2 (fun _ _ _ e=>e) (fun c e=>own c _ e) tup
    · rw [upd_ne hb] at q
      exact ObjOk.stay (I.hok b o q) (fun _ _ _ e=>e) (fun c e=>own c _ e) tup
end L2.PU
namespace L2.PU
open PySem PySem.Spec PyProof.Rows
section
variable {X:Cx} {cl:Nat→Addr} {elts:List Expr} {kk:Nat} {tp np ap ip cp pos:Pos} {elt:Expr} {ifs:List Expr} {scope:Scope} {N':List Str} {mp:List (Option Nat)} {ks:List Nat} {gt:TG} {t:En→PyData→Option En} {p:En→Option Bool} {f:En→Option PyData}
noncomputable def iItems (K:PySem.W.Frag) (i:Nat) (fld:Str):TI:=fun σ H R=>∃ a C dx fs p ob ks,σ[i]?=some (some (.ref a))∧H a=some (.ins C dx fs)∧Cls K C∧NoAttr K C fld∧fs.lookup fld=some (.ref p)∧H p=some (.frz ob (.dK ks))∧R (Iti p ob ks) H
theorem pi_items (i:Nat) {x fld:Str} (hN:X.N[i]?=some x) (hv:Vis X.env.scope x) (hd:(x==("__debug__" : Str))=false) (hcd:(x==("__classdict__" : Str))=false)
    (hb1:attributeBase (.Name x np) fld X.env (eval (.Name x np) X.env)=eval (.Name x np) X.env) (hb2:attributeBase (.Attribute (.Name x np) fld ap) "items" X.env (eval (.Attribute (.Name x np) fld ap) X.env)=eval (.Attribute (.Name x np) fld ap) X.env) (hline:(ip.endLine==cp.line)=true) :
    PI X (.Tuple elts kk tp) (.Call (.Attribute (.Attribute (.Name x np) fld ap) "items" ip) [] [] cp) (iItems X.K i fld):=by
  intro pins s σ H R I ⟨a,C,dx,fs,p,ob,ks,e1,e2,e3,e4,e5,e6,q⟩
  refine wpAny_Call_method0_late hb2 hline (thn (pe_fld (pe_var hN hv hd hcd) hb1 pins s σ H (fun v H1=>v=.ref p∧H1=H) I ⟨.ref a,e1,a,C,dx,fs,.ref p,rfl,e2,e3,e4,e5,rfl,rfl⟩) fun v s1 ⟨y,H1,I1,r1,ey,eH⟩=>?_)
  subst ey eH
  cases r1
  obtain ⟨t1,t2,t3⟩:=isD_at I1 (a:=p) (.inl ⟨ks,.inr ⟨ob,e6⟩⟩)
  obtain ⟨h1,z,y,vs,r,o2,es,ep,g,c,d,rest⟩:=(show ObjOk X.prog X.w H1 s1.heap p (.frz ob (.dK ks)) from I1.hok p _ e6)
  rw [h1] at g
  cases g
  have da:s1.heap.DictAt (mixKind X.prog X.w) p vs ep:=⟨ob,es,h1,c,d,rest⟩
  refine ⟨"dict", "dict.items", PySem.F.plainAttrs_dict,PySem.F.slot_dict_items,PySem.F.type_dict_items,t1,t2,Calls.callWith_builtin rfl (PySem.evalArgs_none ?_)⟩
  refine call_meetsIn PySem.F.slot_dict_items t1 PySem.F.entry_dict_items (PySem.F.args_dict_items_1 _) (meets_dict_items (mixKind X.prog X.w) p t3) ⟨⟨vs,da.dictOf⟩,?_⟩
  have I2:Inv X pins σ H1 { s1 with heap:=s1.heap.push { cls:=.type "dict_items", data:=.fields #[.ref p] } }:=I1.kept (t':=s1.toks) fun b u e=>Heap.get?_push_of_some _ e
  have hl:ks.length=vs.length:=r.length
  refine wpAny_pyIter_items (s:={ s1 with heap:=s1.heap.push { cls:=.type "dict_items", data:=.fields #[.ref p] } }) ⟨_,Heap.get?_push_size _ rfl,rfl,rfl⟩ (da.push _) ?_
  refine ⟨_,[(s1.heap.push { cls:=.type "dict_items", data:=.fields #[.ref p] }).objs.size],_,Iti p ob ks,H1,rfl,I2.kept (t':=s1.toks) fun b u e=>Heap.get?_push_of_some _ e,turn_items _ p ob ks d,?_,fun b hb=>?_,q⟩
  · exact ⟨.none,.none,by rw [hl]; exact Heap.get?_push_size _ rfl⟩
  · rw [List.mem_singleton.mp hb]
    exact I2.fpOk (Nat.le_refl _) (I2.hok.fresh (Nat.le_refl _))
noncomputable def itemsD (xs:List (Key×PyData)):List PyData:=xs.map fun kv=>.tuple [kD kv.1,kv.2]
theorem reld_at {K:PySem.W.Frag} {F:Hp}:∀ {kvs:List (Key×PyData)} {ks:List (Key×V)} (i:Nat) {k:Key} {x:PyData},RelD K F (prs kvs) ks→kvs[i]?=some (k,x)→∃ v,ks[i]?=some (k,v)∧Rel K F x v
  | [],_,i,k,x,_,e=>by simp at e
  | (k',d)::kvs,ks,i,k,x,h,e=>by
    obtain ⟨k2,v,r,rfl,e1,h3,h4⟩:=RelD.cons_of (d:=kD k') (e:=d) (es:=prs kvs) h
    have:=kD_inj e1
    subst this
    cases i with
    | zero =>
      have:(k',d)=(k,x):=by simpa using e
      cases this
      exact ⟨v,rfl,h3⟩
    | succ i=>exact reld_at i h4 (by simpa using e)
theorem itp_items {K:PySem.W.Frag} {F:Hp} {p:Addr} {ob:Obj} {ks:List (Key×V)} {kvs:List (Key×PyData)} (hF:F p=some (.frz ob (.dK ks))) (hr:RelD K F (prs kvs) ks):ItP K (Iti p ob ks) F (itemsD kvs):=fun F1 H1 i s1 s2=>by
  have hH:H1 p=some (.frz ob (.dK ks)):=s2 _ _ (s1 _ _ hF)
  have hl:kvs.length=ks.length:=by
    have:=congrArg List.length hr.keys
    rwa [List.length_map,List.length_map] at this
  have hlD:(itemsD kvs).length=kvs.length:=by unfold itemsD; rw [List.length_map]
  refine ⟨fun d e=>?_,fun e=>⟨by omega,hH⟩⟩
  have hi:i < kvs.length:=by rw [← hlD]; exact (List.getElem?_eq_some_iff.mp e).1
  obtain ⟨⟨k,x⟩,hx⟩:∃ q,kvs[i]?=some q:=⟨kvs[i],List.getElem?_eq_getElem hi⟩
  obtain ⟨v,hv,rv⟩:=reld_at i hr hx
  have hd:d=.tuple [kD k,x]:=by
    unfold itemsD at e
    rw [List.getElem?_map,hx] at e
    exact (Option.some.inj e).symm
  subst hd
  refine ⟨⟨by omega,hH⟩,fun y H2 ⟨T,k',x',nT,hk',ey,eH⟩=>?_⟩
  rw [hv] at hk'
  cases hk'
  subst ey eH
  have fT:F1 T=none:=s2.free nT
  have g2:Gr F1 H1 (upd F1 T (.tup [kV k,v])) (upd H1 T (.tup [kV k,v])):=Gr.one s2 nT
  refine ⟨_,g2,rel_tup (SqT.of upd_same) (.cons ?_ (.cons (Rel.mono (s1.trans g2.ff) rv) .nil))⟩
  cases k with
  | inl i=>exact rel_int
  | inr x=>exact rel_str
noncomputable def mItC (i:Nat) (fld:Str) (mp:List (Option Nat)) (t:En→PyData→Option En) (p:En→Option Bool) (f:En→Option PyData):MF:=fun w=>match w.η[i]? with
  | some (some (.r n))=>(match w.s[n]? with
    | some (.obj _ fs)=>(match fs.lookup fld with
      | some (.r m)=>(match w.s[m]? with
        | some (.dct kvs)=>(dKvs kvs).bind fun xs=>(sComp mp (fun _=>some (itemsD xs)) t p f (vw w)).bind fun ys=>if ys.all flatD=true then some (.d (.list ys),w.s) else none
        | _=>none)
      | _=>none)
    | _=>none)
  | _=>none
theorem ME.itemsC (i:Nat) {x fld:Str} (hc:X.calm=true) (ck:CompSc X scope N' mp) (ht:TgP X.K ks gt t) (hks:∀ k∈ks,mp[k]?=some none)
    (hb:∀ B s H fp,PG (compCx X scope N' s H fp) (.Tuple elts kk tp) gt∧Ts (compCx X scope N' s H fp) B ifs p∧E (compCx X scope N' s H fp) B elt f)
    (hN:X.N[i]?=some x:=by rfl) (hv:Vis X.env.scope x:=by first | exact Or.inl rfl | exact Or.inr (Or.inl rfl) | exact Or.inr (Or.inr rfl)) (hdb:(x==("__debug__" : Str))=false:=by decide) (hcd:(x==("__classdict__" : Str))=false:=by decide)
    (hb1:attributeBase (.Name x np) fld X.env (eval (.Name x np) X.env)=eval (.Name x np) X.env:=by rfl) (hb2:attributeBase (.Attribute (.Name x np) fld ap) "items" X.env (eval (.Attribute (.Name x np) fld ap) X.env)=eval (.Attribute (.Name x np) fld ap) X.env:=by rfl) (hline:(ip.endLine==cp.line)=true:=by rfl)
    (hs:∀ y,foldedSetIterable (.Call (.Attribute (.Attribute (.Name x np) fld ap) "items" ip) [] [] cp) X.env y=pure y:=by intro _; rfl) :
    ME X cl (.ListComp elt [⟨.Tuple elts kk tp,.Call (.Attribute (.Attribute (.Name x np) fld ap) "items" ip) [] [] cp,ifs,0⟩] scope pos) (mItC i fld mp t p f):=fun pins s σ H Q I ⟨θ,F,w,d,s',m,v,hf,q⟩=>by
  unfold mItC at hf
  split at hf
  · rename_i n hn
    split at hf
    · rename_i k fs hob
      split at hf
      · rename_i mm hlk
        split at hf
        · rename_i kvs hdc
          obtain ⟨xs,hxs,hf⟩:=bind_some hf
          obtain ⟨ys,hys,hf⟩:=bind_some hf
          split at hf
          · rename_i hfl
            cases hf
            obtain ⟨u,hu,a,ha,rfl⟩:=v.val i _ hn
            obtain ⟨c1,c2,c3,dx,xsf,c4,c5⟩:=m.cel n a _ ha hob
            obtain ⟨vv,l1,pp,hp,rfl⟩:=(c5.look fld).1 _ hlk
            obtain ⟨d1,kks,d2,d3⟩:=m.cel mm pp _ hp hdc
            obtain ⟨z,y,vs,r,ob,es,ep,g,rest⟩:=(show ObjOk X.prog X.w H s.heap pp (.dK kks) from I.hok pp _ d2)
            have I':Inv X pins σ (upd H pp (.frz ob (.dK kks))) s:=I.write (t':=s.toks) (h':=s.heap) (e:=pp) (by rw [d2]; trivial) (.inl rfl) (fun _ _ _ e=>e) ⟨ob,g⟩ ⟨g,z,y,vs,r,ob,es,ep,g,rest⟩
            have sn:=same_new (H:=F) d1 (.frz ob (.dK kks))
            have smp:Same (upd F pp (.frz ob (.dK kks))) (upd H pp (.frz ob (.dK kks))):=fun b o e=>by
              by_cases hb:b=pp
              · subst hb; rw [upd_same] at e ⊢; exact e
              · rw [upd_ne hb] at e ⊢; exact m.sm b o e
            have sr0:=m.vw v
            have srp:SR X.K ⟨upd F pp (.frz ob (.dK kks)),upd H pp (.frz ob (.dK kks))⟩ (upd F pp (.frz ob (.dK kks))) (upd H pp (.frz ob (.dK kks))) σ (vw w):=by
              refine ⟨.refl smp,⟨sr0.en.len,fun j dd e=>?_,fun j sl e ho=>?_,fun j j' sl sl' e e' ho ho' hne=>?_,fun j ff e=>?_⟩⟩
              · obtain ⟨vv,q1,q2⟩:=sr0.en.val j dd e
                exact ⟨vv,q1,Rel.mono sn q2⟩
              · obtain ⟨b,o,q1,q2,q3,q4,q5⟩:=sr0.en.cel j sl e ho
                have q3:H b=none:=q3
                rw [q3] at q4; cases q4
              · obtain ⟨b,o,q1,q2,q3,q4,q5⟩:=sr0.en.cel j sl e ho
                have q3:H b=none:=q3
                rw [q3] at q4; cases q4
              · obtain ⟨b,C,dx',xs',q1,q2,q3,q4⟩:=sr0.en.obs j ff e
                have nb:b≠pp:=fun z=>by rw [z,d2] at q2; cases q2
                refine ⟨b,C,dx',xs',q1,by rw [upd_ne nb]; exact q2,q3,fun f' d' hf'=>?_⟩
                obtain ⟨w1,w2,w3,w4⟩:=q4 f' d' hf'
                exact ⟨w1,w2,w3,Rel.mono sn w4⟩
            have rd:RelD X.K (upd F pp (.frz ob (.dK kks))) (prs xs) kks:=(dKvs_rel d3 hxs).mono sn
            have tc:tComp mp (iItems X.K i fld) gt (tT X.K ⟨upd F pp (.frz ob (.dK kks)),upd H pp (.frz ob (.dK kks))⟩ p) (tE X.K ⟨upd F pp (.frz ob (.dK kks)),upd H pp (.frz ob (.dK kks))⟩ f) σ (upd H pp (.frz ob (.dK kks)))
                (fun x Hc=>∃ D xs' Fc,x=.ref D∧Gr (upd F pp (.frz ob (.dK kks))) (upd H pp (.frz ob (.dK kks))) Fc Hc∧upd H pp (.frz ob (.dK kks)) D=none∧Hc D=some (.lst xs')∧RelL X.K Fc ys xs'):=by
              obtain ⟨F1,η1,ds,sr1,hds,k1⟩:=comp_of ht hks σ (upd H pp (.frz ob (.dK kks))) _ (show tO X.K ⟨upd F pp (.frz ob (.dK kks)),upd H pp (.frz ob (.dK kks))⟩ (sComp mp (fun _=>some (itemsD xs)) t p f) σ (upd H pp (.frz ob (.dK kks))) (fun x Hc=>∃ D xs' Fc,x=.ref D∧Gr (upd F pp (.frz ob (.dK kks))) (upd H pp (.frz ob (.dK kks))) Fc Hc∧upd H pp (.frz ob (.dK kks)) D=none∧Hc D=some (.lst xs')∧RelL X.K Fc ys xs') from ⟨_,_,ys,srp,hys,fun D xs' Fc Hc g hD fD hcD rl=>⟨D,xs',Fc,rfl,g,hD,hcD,rl⟩⟩)
              cases hds
              refine ⟨a,_,dx,xsf,pp,ob,kks,hu,by rw [upd_ne (fun z=>by rw [z,d2] at c4; cases c4)]; exact c4,c2,c3 _ (look_mem hlk),l1,upd_same,k1 (Iti pp ob kks) F1 _ (.refl sr1.same) (itp_items (sr1.gr.ff _ _ upd_same) (rd.mono sr1.gr.ff))⟩
            refine thn (pe_comp hc ck (pi_items i hN hv hdb hcd hb1 hb2 hline) (fun s H fp=>hb _ s H fp) hs pins s σ _ _ I' tc) fun v1 s1 ⟨x1,Hc,Ic,rx,D,xs',Fc,ex,gc,hD,hcD,rl⟩=>?_
            have hcp:Hc pp=some (.frz ob (.dK kks)):=gc.hh _ _ upd_same
            have If:=Inv.unhold I d2 Ic hcp
            have nD:D≠pp:=fun z=>by rw [z,upd_same] at hD; cases hD
            have hDH:H D=none:=by rw [upd_ne nD] at hD; exact hD
            have hDf:upd Hc pp (.dK kks) D=some (.lst xs'):=by rw [upd_ne nD]; exact hcD
            have gg:Gr F H F (upd Hc pp (.dK kks)):=by
              have hh:Same H (upd Hc pp (.dK kks)):=fun b o e=>by
                by_cases hb:b=pp
                · subst hb; rw [d2] at e; cases e; exact upd_same
                · rw [upd_ne hb]; exact gc.hh b o (by rw [upd_ne hb]; exact e)
              exact ⟨.refl _,hh,m.sm.trans hh,fun b q=>.inl q⟩
            obtain ⟨g2,r2⟩:=list_in (F:=F) (F':=F) m.sm gg hDH (m.sm.free hDH) hDf (flat_rels hfl rl)
            subst ex
            exact ⟨.ref D,_,If,rx,q _ θ _ _ (List.prefix_refl _) g2.ff (m.grow g2) r2⟩
          · cases hf
        · cases hf
      · cases hf
    · cases hf
  · cases hf
end
end L2.PU
namespace L2.PU
open PySem PySem.Spec PyProof.Rows
noncomputable def mAtC (o g:MF):MF:=fun w=>(o w).bind fun r=>(g ⟨w.η,r.2⟩).bind fun q=>match r.1,q.1 with
  | .r n,.d x=>(keyP x).bind fun k=>(match q.2[n]? with
    | some (.dct kvs)=>(lookK kvs k).bind fun d=>some (d,q.2)
    | _=>none)
  | _,_=>none
noncomputable def mInC (neg:Bool) (g o:MF):MTF:=fun w=>(g w).bind fun r=>(o ⟨w.η,r.2⟩).bind fun q=>match r.1,q.1 with
  | .d x,.r n=>(keyP x).bind fun k=>(match q.2[n]? with
    | some (.dct kvs)=>some (if neg then !(lookK kvs k).isSome else (lookK kvs k).isSome,q.2)
    | _=>none)
  | _,_=>none
noncomputable def putKD (kvs:List (Key×D)) (k:Key) (d:D):List (Key×D):=if (kvs.any fun kv=>decide (kv.1=k))=true then kvs.map (fun kv=>if kv.1=k then (kv.1,d) else kv) else kvs++[(k,d)]
noncomputable def dropKD (kvs:List (Key×D)) (k:Key):List (Key×D):=kvs.filter fun kv=>decide (kv.1≠k)
noncomputable def mPutC (o g e:MF):Wd→Option MOut:=fun w=>(e w).bind fun r=>(o ⟨w.η,r.2⟩).bind fun q=>(g ⟨w.η,q.2⟩).bind fun z=>match q.1,z.1 with
  | .r n,.d x=>(keyP x).bind fun k=>(match z.2[n]? with
    | some (.dct kvs)=>if kvs.length < sizeLine then some (.nx ⟨w.η,z.2.set n (.dct (putKD kvs k r.1))⟩) else none
    | _=>none)
  | _,_=>none
noncomputable def mPopC (o g:MF):MF:=fun w=>(o w).bind fun r=>match r.1 with
  | .r n=>(match r.2[n]? with
    | some (.dct _)=>(g ⟨w.η,r.2⟩).bind fun q=>match q.1 with
      | .d x=>(keyP x).bind fun k=>(match q.2[n]? with
        | some (.dct kvs)=>(lookK kvs k).bind fun d=>some (d,q.2.set n (.dct (dropKD kvs k)))
        | _=>none)
      | _=>none
    | _=>none)
  | _=>none
noncomputable def mAugF (k:Nat) (nm:Str) (o e:MF):Wd→Option MOut:=fun w=>(o w).bind fun r=>match r.1 with
  | .r n=>(match r.2[n]? with
    | some (.obj k' fs)=>if k'=k then (match fs.lookup nm with
      | some (.d (.int i))=>(e ⟨w.η,r.2⟩).bind fun q=>match q.1 with
        | .d (.int j)=>(match q.2[n]? with
          | some (.obj k2 fs2)=>if k2=k∧fs2.length < 999 then some (.nx ⟨w.η,q.2.set n (.obj k (putA nm (.d (.int (i+j))) fs2))⟩) else none
          | _=>none)
        | _=>none
      | _=>none) else none
    | _=>none)
  | _=>none
theorem drk_any {K:PySem.W.Frag} {θ:List Addr} {F:Hp} {kvs:List (Key×D)} {vs:List (Key×V)} (h:DRk K θ F kvs vs) (k:Key):(kvs.any fun kv=>decide (kv.1=k))=vs.any fun kv=>decide (kv.1=k):=by
  induction h with
  | nil=>rfl
  | cons r t ih=>rw [List.any_cons,List.any_cons,ih,r.1]
theorem drk_map {K:PySem.W.Frag} {θ:List Addr} {F:Hp} {kvs:List (Key×D)} {vs:List (Key×V)} (h:DRk K θ F kvs vs) (k:Key) {d:D} {v:V} (r:DR K θ F d v):DRk K θ F (kvs.map fun kv=>if kv.1=k then (kv.1,d) else kv) (vs.map fun kv=>if kv.1=k then (kv.1,v) else kv):=by
  induction h with
  | nil=>exact .nil
  | @cons a b as bs q t ih =>
    refine .cons ?_ ih
    dsimp only
    by_cases hk:a.1=k
    · rw [if_pos hk,if_pos (by rw [← q.1]; exact hk)]
      exact ⟨q.1,r⟩
    · rw [if_neg hk,if_neg (by rw [← q.1]; exact hk)]
      exact q
theorem drk_put {K:PySem.W.Frag} {θ:List Addr} {F:Hp} {kvs:List (Key×D)} {vs:List (Key×V)} (h:DRk K θ F kvs vs) (k:Key) {d:D} {v:V} (r:DR K θ F d v):DRk K θ F (putKD kvs k d) (putK vs k v):=by
  unfold putKD putK
  rw [drk_any h k]
  split
  · exact drk_map h k r
  · exact paired_apps h (.cons ⟨rfl,r⟩ .nil)
theorem drk_drop {K:PySem.W.Frag} {θ:List Addr} {F:Hp} {kvs:List (Key×D)} {vs:List (Key×V)} (h:DRk K θ F kvs vs) (k:Key):DRk K θ F (dropKD kvs k) (dropK vs k):=by
  unfold dropKD dropK
  induction h with
  | nil=>exact .nil
  | @cons a b as bs q t ih =>
    rw [List.filter_cons,List.filter_cons]
    have e:decide (b.1≠k)=decide (a.1≠k):=by rw [← q.1]
    rw [e]
    split
    · exact .cons q ih
    · exact ih
theorem key_of' {K:PySem.W.Frag} {F:Hp} {x:PyData} {k:Key} {u:V} (hk:keyP x=some k) (r:Rel K F x u):u=kV k:=by
  cases x <;> simp only [keyP,Option.some.injEq,reduceCtorEq] at hk
  · subst hk; exact (show Rel K F (.int _) u from r).int
  · subst hk; exact (show Rel K F (.str _) u from r).str
theorem drk_some {K:PySem.W.Frag} {θ:List Addr} {F:Hp} {kvs:List (Key×D)} {vs:List (Key×V)} (h:DRk K θ F kvs vs) (k:Key):(valV vs k).isSome=(lookK kvs k).isSome:=by
  cases l:lookK kvs k with
  | some d=>obtain ⟨v,e1,_⟩:=(h.look k).1 d l; rw [e1]; rfl
  | none=>rw [(h.look k).2 l]; rfl
section
variable {X:Cx} {cl:Nat→Addr} {o e i value:Expr} {f g h:MF} {pos pos' tpos apos cpos:Pos}
theorem ME.atC {k:Nat} (hr:Room k X.A) (ho:ME X cl o f) (hi:ME X cl e g) (hs:NoSl e:=by intro _ _; rfl):ME X cl (.Subscript o e pos) (mAtC f g):=PE.imp (pe_dget (Room.one hr) ho hi hs) fun σ H Q ⟨θ,F,w,d,s',m,v,hf,q⟩=>by
  obtain ⟨⟨d1,s1⟩,h1,hf⟩:=bind_some hf
  obtain ⟨⟨d2,s2⟩,h2,hf⟩:=bind_some hf
  dsimp only at hf
  split at hf
  · rename_i _ n x _
    obtain ⟨k,hk,hf⟩:=bind_some hf
    split at hf
    · rename_i kvs hc
      obtain ⟨d3,hl,hf⟩:=bind_some hf
      cases hf
      refine ⟨θ,F,w,_,s1,m,v,h1,fun u θ1 F1 H1 p1 q1 m1 r1=>⟨θ1,F1,⟨w.η,s1⟩,_,_,m1,v.mono p1 q1,h2,fun u2 θ2 F2 H2 p2 q2 m2 r2=>?_⟩⟩
      obtain ⟨ad,z1,rfl⟩:=r1
      have z3:=pre_get p2 z1
      obtain ⟨w5,ks,w6,w7⟩:=m2.cel n ad _ z3 hc
      obtain ⟨v',e1,e2⟩:=(w7.look k).1 _ hl
      exact ⟨ad,v',rfl,.inl ⟨ks,k,.inl w6,key_of' hk r2,e1.symm⟩,q _ θ2 F2 H2 (p1.trans p2) (q1.trans q2) m2 e2⟩
    · cases hf
  · cases hf
theorem MT.inC {k:Nat} (hr:Room k X.A) (hi:ME X cl e g) (ho:ME X cl o f) (hm:behindInMarks .In o=false:=by with_unfolding_all rfl):MT X cl (.Compare e [.In] [o] pos) (mInC false g f):=PT.imp (pt_cmp (pc_din (Room.one hr) hi ho) hm) fun σ H Q ⟨θ,F,w,b,s',m,v,hf,q⟩=>by
  obtain ⟨⟨d1,s1⟩,h1,hf⟩:=bind_some hf
  obtain ⟨⟨d2,s2⟩,h2,hf⟩:=bind_some hf
  dsimp only at hf
  split at hf
  · rename_i _ x n _
    obtain ⟨k,hk,hf⟩:=bind_some hf
    split at hf
    · rename_i kvs hc
      cases hf
      refine ⟨θ,F,w,_,s1,m,v,h1,fun u θ1 F1 H1 p1 q1 m1 r1=>⟨θ1,F1,⟨w.η,s1⟩,_,_,m1,v.mono p1 q1,h2,fun u2 θ2 F2 H2 p2 q2 m2 r2=>?_⟩⟩
      obtain ⟨ad,z1,rfl⟩:=r2
      obtain ⟨w5,ks,w6,w7⟩:=m2.cel n ad _ z1 hc
      refine ⟨ad,_,rfl,.inl ⟨ks,k,.inl w6,key_of' hk r1,rfl⟩,_,rfl,?_⟩
      rw [drk_some w7]
      exact q θ2 F2 H2 (p1.trans p2) (q1.trans q2) m2
    · cases hf
  · cases hf
theorem MT.notInC {k:Nat} (hr:Room k X.A) (hi:ME X cl e g) (ho:ME X cl o f) (hm:behindInMarks .NotIn o=false:=by with_unfolding_all rfl):MT X cl (.Compare e [.NotIn] [o] pos) (mInC true g f):=PT.imp (pt_cmp (pc_dnotin (Room.one hr) hi ho) hm) fun σ H Q ⟨θ,F,w,b,s',m,v,hf,q⟩=>by
  obtain ⟨⟨d1,s1⟩,h1,hf⟩:=bind_some hf
  obtain ⟨⟨d2,s2⟩,h2,hf⟩:=bind_some hf
  dsimp only at hf
  split at hf
  · rename_i _ x n _
    obtain ⟨k,hk,hf⟩:=bind_some hf
    split at hf
    · rename_i kvs hc
      cases hf
      refine ⟨θ,F,w,_,s1,m,v,h1,fun u θ1 F1 H1 p1 q1 m1 r1=>⟨θ1,F1,⟨w.η,s1⟩,_,_,m1,v.mono p1 q1,h2,fun u2 θ2 F2 H2 p2 q2 m2 r2=>?_⟩⟩
      obtain ⟨ad,z1,rfl⟩:=r2
      obtain ⟨w5,ks,w6,w7⟩:=m2.cel n ad _ z1 hc
      refine ⟨ad,_,rfl,.inl ⟨ks,k,.inl w6,key_of' hk r1,rfl⟩,_,rfl,?_⟩
      rw [drk_some w7]
      exact q θ2 F2 H2 (p1.trans p2) (q1.trans q2) m2
    · cases hf
  · cases hf
theorem MS.putC {k:Nat} (hr:Room k X.A) (ho:ME X cl o f) (hi:ME X cl e g) (hv:ME X cl value h) (hs:swapsWith value (some (.Subscript o e pos')) pos.line X.env=pure false:=by rfl):MS X cl (.Assign [.Subscript o e pos'] value pos) (mPutC f g h):=PS.imp (ps_dput (Room.one hr) ho hi hv hs) fun Z σ H ⟨θ,F,w,out,m,v,hf,q⟩=>by
  obtain ⟨⟨d1,s1⟩,h1,hf⟩:=bind_some hf
  obtain ⟨⟨d2,s2⟩,h2,hf⟩:=bind_some hf
  obtain ⟨⟨d3,s3⟩,h3,hf⟩:=bind_some hf
  dsimp only at hf
  split at hf
  · rename_i _ n x _
    obtain ⟨k,hk,hf⟩:=bind_some hf
    split at hf
    · rename_i kvs hc
      split at hf
      · rename_i hl
        cases hf
        refine ⟨θ,F,w,_,s1,m,v,h1,fun u θ1 F1 H1 p1 q1 m1 r1=>⟨θ1,F1,⟨w.η,s1⟩,_,s2,m1,v.mono p1 q1,h2,fun u2 θ2 F2 H2 p2 q2 m2 r2=>⟨θ2,F2,⟨w.η,s2⟩,_,s3,m2,v.mono (p1.trans p2) (q1.trans q2),h3,fun u3 θ3 F3 H3 p3 q3 m3 r3=>?_⟩⟩⟩
        obtain ⟨ad,z1,rfl⟩:=r2
        have z3:=pre_get p3 z1
        obtain ⟨w5,ks,w6,w7⟩:=m3.cel n ad _ z3 hc
        have hll:ks.length < sizeLine:=by rw [← paired_len w7]; exact hl
        refine ⟨ad,_,rfl,.inl ⟨ks,k,w6,key_of' hk r3,hll,rfl⟩,?_⟩
        exact q σ θ3 F3 _ (p1.trans (p2.trans p3)) (q1.trans (q2.trans q3)) (m3.put z3 hc rfl ⟨w5,_,upd_same,drk_put w7 k (r1.mono (p2.trans p3) (q2.trans q3))⟩) (v.mono (p1.trans (p2.trans p3)) (q1.trans (q2.trans q3)))
      · cases hf
    · cases hf
  · cases hf
theorem ME.popC (ho:ME X cl o f) (he:ME X cl e g) (mm:M1 X o "pop" apos e cpos:=by exact ⟨rfl,rfl,rfl,rfl⟩):ME X cl (.Call (.Attribute o "pop" apos) [e] [] cpos) (mPopC f g):=PE.imp (pe_dpop1 ho he mm) fun σ H Q ⟨θ,F,w,d,s',m,v,hf,q⟩=>by
  obtain ⟨⟨d1,s1⟩,h1,hf⟩:=bind_some hf
  cases d1 with
  | d x=>cases hf
  | r n =>
    dsimp only at hf
    split at hf
    · rename_i kv0 hc0
      obtain ⟨⟨d2,s2⟩,h2,hf⟩:=bind_some hf
      cases d2 with
      | r n2=>cases hf
      | d x =>
        dsimp only at hf
        obtain ⟨k,hk,hf⟩:=bind_some hf
        split at hf
        · rename_i kvs hc
          obtain ⟨d3,hl,hf⟩:=bind_some hf
          cases hf
          refine ⟨θ,F,w,_,s1,m,v,h1,fun u θ1 F1 H1 p1 q1 m1 r1=>?_⟩
          obtain ⟨ad,z1,rfl⟩:=r1
          obtain ⟨w1,ks0,w3,w4⟩:=m1.cel n ad _ z1 hc0
          refine ⟨ad,rfl,.inl ⟨ks0,.inl w3⟩,θ1,F1,⟨w.η,s1⟩,.d x,s2,m1,v.mono p1 q1,h2,fun u2 θ2 F2 H2 p2 q2 m2 r2=>?_⟩
          have z3:=pre_get p2 z1
          obtain ⟨w5,ks,w6,w7⟩:=m2.cel n ad _ z3 hc
          obtain ⟨v',e1,e2⟩:=(w7.look k).1 _ hl
          exact ⟨ks,k,v',w6,key_of' hk r2,e1,q _ θ2 F2 _ (p1.trans p2) (q1.trans q2) (m2.put z3 hc rfl ⟨w5,_,upd_same,drk_drop w7 k⟩) e2⟩
        · cases hf
    · cases hf
theorem MS.augF {k:Nat} {nm:Str} (ho:ME X cl o f) (he:ME X cl e g) (hn:NoAttr X.K (cl k) nm):MS X cl (.AugAssign (.Attribute o nm tpos) .Add e pos) (mAugF k nm f g):=PS.imp (ps_fldaug ho he in_add) fun Z σ H ⟨θ,F,w,out,m,v,hf,q⟩=>by
  obtain ⟨⟨d1,s1⟩,h1,hf⟩:=bind_some hf
  cases d1 with
  | d x=>cases hf
  | r n =>
    dsimp only at hf
    split at hf
    · rename_i k' fs hc
      split at hf
      · rename_i hk
        subst hk
        split at hf
        · rename_i i hl
          obtain ⟨⟨d2,s2⟩,h2,hf⟩:=bind_some hf
          dsimp only at hf
          split at hf
          · rename_i j
            split at hf
            · rename_i k2 fs2 hc2
              split at hf
              · rename_i hk2
                obtain ⟨hk2,hlen⟩:=hk2
                subst hk2
                cases hf
                refine ⟨θ,F,w,_,s1,m,v,h1,fun u θ1 F1 H1 p1 q1 m1 r1=>?_⟩
                obtain ⟨ad,z1,rfl⟩:=r1
                obtain ⟨c1,c2,c3,dx,xs,c4,c5⟩:=m1.cel n ad _ z1 hc
                obtain ⟨vv,l1,l2⟩:=(c5.look nm).1 _ hl
                have l2':Rel X.K F1 (.int i) vv:=l2
                refine ⟨ad,_,dx,xs,vv,rfl,c4,c2,hn,l1,θ1,F1,⟨w.η,s1⟩,_,s2,m1,v.mono p1 q1,h2,fun u2 θ2 F2 H2 p2 q2 m2 r2=>?_⟩
                have r2':Rel X.K F2 (.int j) u2:=r2
                refine ⟨i,j,l2'.int,r2'.int,?_⟩
                have z3:=pre_get p2 z1
                obtain ⟨e1,e2,e3,dx2,xs2,e4,e5⟩:=m2.cel n ad _ z3 hc2
                have hll:xs2.length < 1000:=by
                  have:=Paired.length e5
                  omega
                refine ⟨dx2,xs2,e4,hll,q σ θ2 F2 _ (p1.trans p2) (q1.trans q2) (m2.put z3 hc2 rfl ⟨e1,e2,fun f' hf'=>?_,dx2,_,upd_same,e5.put nm (show DR X.K θ2 F2 (.d (.int (i+j))) (.int (i+j)) from (rel_int:Rel X.K F2 (.int (i+j)) (.int (i+j))))⟩) (v.mono (p1.trans p2) (q1.trans q2))⟩
                rcases putA_keys hf' with z | z
                · rw [z]; exact hn
                · exact e3 f' z
              · cases hf
            · cases hf
          · cases hf
        · cases hf
      · cases hf
    · cases hf
end
end L2.PU
namespace L2.PU
open PySem PySem.Spec PyProof.Rows
noncomputable def pInY (neg:Bool) (x y:PyData):Option PyData:=match y with
  | .list ds=>if SeqAt.shaped x=true∧PyData.depth x≤60∧PyData.canLayAll0 ds=true then some (.bool (if neg then !(ds.any fun y=>PyData.eqv y x) else ds.any fun y=>PyData.eqv y x)) else none
  | .tuple ds=>if SeqAt.shaped x=true∧PyData.depth x≤60∧PyData.canLayAll0 ds=true then some (.bool (if neg then !(ds.any fun y=>PyData.eqv y x) else ds.any fun y=>PyData.eqv y x)) else none
  | _=>none
noncomputable def rInY (K:PySem.W.Frag) (neg:Bool):R2:=fun x y H Q=>∃ F dx ds,Same F H∧Rel K F dx x∧(Rel K F (.list ds) y∨Rel K F (.tuple ds) y)∧SeqAt.shaped dx=true∧PyData.depth dx≤60∧PyData.canLayAll0 ds=true∧Q (.bl (if neg then !(ds.any fun y=>PyData.eqv y dx) else ds.any fun y=>PyData.eqv y dx)) H
end L2.PU
namespace L2.PU
open PySem PySem.Spec PyProof.Rows
noncomputable def mAddC (f g:MF):MF:=fun w=>(f w).bind fun r=>(g ⟨w.η,r.2⟩).bind fun q=>match r.1,q.1 with
  | .r n,.d (.list ys)=>(match q.2[n]? with
    | some (.lst ds)=>if ds.length+ys.length≤sizeLine then some (.r q.2.length,q.2++[.lst (ds++ys.map .d)]) else none
    | _=>none)
  | _,_=>none
end L2.PU
namespace L2.PU
open PySem PySem.Spec PyProof.Rows
noncomputable def rIdxY (K:PySem.W.Frag):V→List V→Hp→VK→Prop:=fun x vs H Q=>∃ F y ds d j,vs=[y]∧Same F H∧Rel K F (.list ds) x∧Rel K F d y∧SeqAt.shaped d=true∧PyData.depth d≤60∧PyData.canLayAll0 ds=true∧ds.findIdx? (fun z=>PyData.eqv z d)=some j∧Q (.int (j:Nat)) H
section
variable {X:Cx}
noncomputable def pIdxY (x y:PyData):Option PyData:=match x with
  | .list ds=>if SeqAt.shaped y=true∧PyData.depth y≤60∧PyData.canLayAll0 ds=true then (ds.findIdx? fun z=>PyData.eqv z y).bind fun j=>some (.int (j:Nat)) else none
  | _=>none
variable {B:Bd} {a e:Expr} {f g:En→Option PyData} {apos cpos:Pos}
end
end L2.PU
namespace L2.PU
open PySem PySem.Spec PyProof.Rows
section
variable {X:Cx} {B:Bd} {e:Expr} {fs:En→Option (List PyData)} {p1 p2 q1 q2:Pos}
theorem ia_len:∀ {us:List Value} {ns:List Int},IntsAre us ns→us.length=ns.length
  | _,_,.nil=>rfl
  | _,_,.cons _ _ h=>by simp [ia_len h]
theorem ints_are {K:PySem.W.Frag} {F:Hp}:∀ {ds:List PyData} {ns:List Int} {xs:List V} {us:List Value},asIs ds=some ns→RelL K F ds xs→Vals xs us→IntsAre us ns
  | [],ns,xs,us,h,r,v=>by
    cases h
    obtain rfl:=r.nil_of
    cases v
    exact .nil
  | .int i::ds,ns,xs,us,h,r,v=>by
    unfold asIs at h
    obtain ⟨l,h1,h2⟩:=bind_some h
    cases h2
    obtain ⟨x,r',rfl,rx,rr⟩:=r.cons_of
    have:=rx.int
    subst this
    cases v with
    | cons hv hr =>
      obtain ⟨t,rfl⟩:=hv
      exact .cons i t (ints_are h1 rr hr)
noncomputable def pLenSet (ds:List PyData):Option PyData:=match ds with
  | [.list xs]=>if xs.length+1 < 4096 then (asIs xs).bind fun ns=>some (.int ((ns.foldl step_dedup []).length:Nat)) else none
  | _=>none
theorem first_met (ns:List Int):firstMet (fun i=>ns.getD i 0) ns.length=ns.foldl step_dedup []:=by
  unfold firstMet
  congr 1
  refine List.ext_getElem (by simp) fun i h1 h2=>?_
  simp [List.getD_eq_getElem?_getD,h2]
theorem E.lenSet {k:Nat} (hr:Room k X.A) (hl:X.mg "len" = none) (hm:X.mg "set" = none) (ha:A X B [e] fs) (hg:Gl X "len" := by rfl) (hg2:Gl X "set" := by rfl)
    (he:starEach [e] X.env=(false,eval e X.env)::starEach [] X.env:=by exact star_of rfl) (hpl:(backTo q2 (starEach [] X.env)).any (·.1)=false:=by rfl)
    (he2:starEach [.Call (.Name "set" p2) [e] [] q2] X.env=(false,eval (.Call (.Name "set" p2) [e] [] q2) X.env)::starEach [] X.env:=by exact star_of rfl) (hpl2:(backTo q1 (starEach [] X.env)).any (·.1)=false:=by rfl) :
    E X B (.Call (.Name "len" p1) [.Call (.Name "set" p2) [e] [] q2] [] q1) (lA pLenSet fs):=by
  intro pins s σ H Q I ⟨F,η,d,sr,hd,q⟩
  obtain ⟨ds,h1,hd⟩:=bind_some hd
  unfold pLenSet at hd
  split at hd
  · rename_i x
    split at hd
    · rename_i hlen
      obtain ⟨ns,h2,hd⟩:=bind_some hd
      cases hd
      refine wpAny_Call_Name_kw (ld_blt I hg hl PySem.boot_len ?_ (by decide) (by decide))
      refine PyProof.Rows.callWith_builtin1 ?_ he2 hpl2
      rw [he2]
      show wpAny _ _ (spliced ((false,eval (.Call (.Name "set" p2) [e] [] q2) X.env)::backTo q1 (starEach [] X.env))) _ _ s
      refine Calls.spliced_cons ?_
      refine wpAny_Call_Name_kw (ld_blt I hg2 hm PyProof.Rows.boot_set ?_ (by decide) (by decide))
      refine PyProof.Rows.callWith_type1 (thn (ha q2 pins s σ H (fun vs H1=>∃ F',Gr F H F' H1∧RelL X.K F' [.list x] vs) I ⟨F,η,_,sr,h1,fun vs F' H' g r=>⟨F',g,r⟩⟩) fun us s1 ⟨vs,H1,I1,r1,F1,g1,rl⟩=>?_) he hpl
      obtain ⟨v1,r,rfl,ry1,rr⟩:=rl.cons_of
      obtain rfl:=rr.nil_of
      obtain ⟨l,xs,rfl,hq1,rs1⟩:=ry1.lst
      obtain ⟨u1,rfl,ru1⟩:=vals1 r1
      cases ru1
      obtain ⟨its,rv,pl,hz⟩:=I1.list (g1.fh.seq hq1)
      have ia:IntsAre its ns:=ints_are h2 rs1 rv
      have el:its.length=x.length:=by rw [← rv.length,← rs1.length]
      have en:its.length=ns.length:=ia_len ia
      refine call_set_list hr.hd pl.isList (by simpa using ia) (by show its.toArray.size+1 < 4096; rw [List.size_toArray]; omega) fun h' tk hS hk=>?_
      have hk':∀ b o,s1.heap.get? b=some o→h'.get? b=some o:=fun b o e=>hk b o (Heap.lt_size e) e
      have I2:Inv X pins σ H1 { s1 with heap:=h',toks:=tk }:=I1.kept (t':=tk) hk'
      refine Calls.spliced_nil ?_
      obtain ⟨o,es,ep,t,ho,hex,hdat,_,_,hsz,hf,hn⟩:=hS
      refine call_len_set (s:={ s1 with heap:=h',toks:=tk }) ho hex hdat hf (by have:es.size < 4096:=hsz; omega) ?_
      have e1:(firstMet (fun i=>ns.getD i 0) its.toArray.size).length=(ns.foldl step_dedup []).length:=by
        rw [List.size_toArray,en,first_met]
      rw [hn,e1]
      exact ⟨.int ((ns.foldl step_dedup []).length:Nat),H1,I2.tok _,⟨_,rfl⟩,q _ F1 H1 g1 rel_int⟩
    · cases hd
  · cases hd
end
end L2.PU
namespace K15
open PySem L2 L2.PU
noncomputable def top (i:Nat):Stmt:=PySem.Challenge.pw_touchtree_k15_whole_once.main.body.getD i (.Pass ⟨0,0,0,0⟩)
noncomputable abbrev s__law_cell:Stmt:=top 24
noncomputable abbrev s__law_drawn:Stmt:=top 25
noncomputable abbrev s__law_scene:Stmt:=top 26
noncomputable abbrev s_Hall____init__:Stmt:=inClass (top 22) 0
noncomputable abbrev s_box_of:Stmt:=top 8
noncomputable abbrev s_Hall__hear:Stmt:=inClass (top 22) 2
noncomputable abbrev s_path_of:Stmt:=top 9
noncomputable abbrev s_has_box:Stmt:=top 7
noncomputable abbrev s_Hall__numbers:Stmt:=inClass (top 22) 4
noncomputable abbrev s_Hall__unhear:Stmt:=inClass (top 22) 3
noncomputable abbrev s_Hall__unhear_if_there:Stmt:=inClass (top 22) 11
noncomputable abbrev s_Hall__cut:Stmt:=inClass (top 22) 5
noncomputable abbrev s_Course____init__:Stmt:=inClass (top 21) 0
noncomputable abbrev s_Hall__do_deed_on_box:Stmt:=inClass (top 22) 12
noncomputable abbrev s_Hall__do_deed:Stmt:=inClass (top 22) 10
noncomputable abbrev s_Hall__rouse:Stmt:=inClass (top 22) 9
noncomputable abbrev s_Hall__give_turn:Stmt:=inClass (top 22) 8
noncomputable abbrev s_Hall__go_along:Stmt:=inClass (top 22) 7
noncomputable abbrev s_Hall__call:Stmt:=inClass (top 22) 6
noncomputable abbrev s_law:Stmt:=top 30
structure Adr where
  C_Course:Addr
  C_Hall:Addr
  _law_cell:Addr
  d__law_cell:FuncData
  _law_drawn:Addr
  d__law_drawn:FuncData
  _law_scene:Addr
  d__law_scene:FuncData
  Hall____init__:Addr
  d_Hall____init__:FuncData
  box_of:Addr
  d_box_of:FuncData
  Hall__hear:Addr
  d_Hall__hear:FuncData
  path_of:Addr
  d_path_of:FuncData
  has_box:Addr
  d_has_box:FuncData
  Hall__numbers:Addr
  d_Hall__numbers:FuncData
  Hall__unhear:Addr
  d_Hall__unhear:FuncData
  Hall__unhear_if_there:Addr
  d_Hall__unhear_if_there:FuncData
  Hall__cut:Addr
  d_Hall__cut:FuncData
  Course____init__:Addr
  d_Course____init__:FuncData
  Hall__do_deed_on_box:Addr
  d_Hall__do_deed_on_box:FuncData
  Hall__do_deed:Addr
  d_Hall__do_deed:FuncData
  Hall__rouse:Addr
  d_Hall__rouse:FuncData
  Hall__give_turn:Addr
  d_Hall__give_turn:FuncData
  Hall__go_along:Addr
  d_Hall__go_along:FuncData
  Hall__call:Addr
  d_Hall__call:FuncData
  law:Addr
  d_law:FuncData
  t_AROUND:Tok
  t_BOX:Tok
  t_DEEDS:Tok
  t_IS_DOWN:Tok
  t_IS_ONCE:Tok
  t_MOST_CALLS_WITHIN:Tok
  t_NAME:Tok
  t_WORD:Tok
noncomputable def cl (t:Adr):Nat→Addr
  | 0=>t.C_Course
  | _=>t.C_Hall
structure Tx (K:PySem.W.Frag) (mg:Str→Option Value) (t:Adr):Prop where
  cl_Course:Cls K (cl t 0)
  mk_Course:Mk K (cl t 0) t.Course____init__
  mg_Course:mg "Course" = some (.ref (cl t 0))
  cl_Hall:Cls K (cl t 1)
  mk_Hall:Mk K (cl t 1) t.Hall____init__
  mg_Hall:mg "Hall" = some (.ref (cl t 1))
  na_Course_depth:NoAttr K (cl t 0) "depth"
  na_Course_is_ended:NoAttr K (cl t 0) "is_ended"
  na_Course_is_kept:NoAttr K (cl t 0) "is_kept"
  na_Course_is_last_turn:NoAttr K (cl t 0) "is_last_turn"
  na_Course_told:NoAttr K (cl t 0) "told"
  na_Course_word:NoAttr K (cl t 0) "word"
  na_Hall_hearers:NoAttr K (cl t 1) "hearers"
  na_Hall_made:NoAttr K (cl t 1) "made"
  na_Hall_scene:NoAttr K (cl t 1) "scene"
  F__law_cell:Fun K "_law_cell" "_law_cell" s__law_cell t._law_cell t.d__law_cell
  m__law_cell:mg "_law_cell" = some (.ref t._law_cell)
  b__law_cell:Binds K t.d__law_cell ["_law_script", "_law_k"] []
  F__law_drawn:Fun K "_law_drawn" "_law_drawn" s__law_drawn t._law_drawn t.d__law_drawn
  m__law_drawn:mg "_law_drawn" = some (.ref t._law_drawn)
  b__law_drawn:Binds K t.d__law_drawn ["_law_script", "_law_k", "_law_many"] []
  F__law_scene:Fun K "_law_scene" "_law_scene" s__law_scene t._law_scene t.d__law_scene
  m__law_scene:mg "_law_scene" = some (.ref t._law_scene)
  b__law_scene:Binds K t.d__law_scene ["_law_script", "_law_at"] []
  F_Hall____init__:Fun K "__init__" "Hall.__init__" s_Hall____init__ t.Hall____init__ t.d_Hall____init__
  b_Hall____init__:Binds K t.d_Hall____init__ ["self", "scene"] []
  F_box_of:Fun K "box_of" "box_of" s_box_of t.box_of t.d_box_of
  m_box_of:mg "box_of" = some (.ref t.box_of)
  b_box_of:Binds K t.d_box_of ["scene", "name"] []
  F_Hall__hear:Fun K "hear" "Hall.hear" s_Hall__hear t.Hall__hear t.d_Hall__hear
  me_Hall__hear:Meth K (cl t 1) "hear" t.Hall__hear
  b_Hall__hear:Binds K t.d_Hall__hear ["self", "name", "word", "is_down", "deeds", "is_once"] []
  F_path_of:Fun K "path_of" "path_of" s_path_of t.path_of t.d_path_of
  m_path_of:mg "path_of" = some (.ref t.path_of)
  b_path_of:Binds K t.d_path_of ["scene", "name"] []
  F_has_box:Fun K "has_box" "has_box" s_has_box t.has_box t.d_has_box
  m_has_box:mg "has_box" = some (.ref t.has_box)
  b_has_box:Binds K t.d_has_box ["scene", "name"] []
  F_Hall__numbers:Fun K "numbers" "Hall.numbers" s_Hall__numbers t.Hall__numbers t.d_Hall__numbers
  me_Hall__numbers:Meth K (cl t 1) "numbers" t.Hall__numbers
  b_Hall__numbers:Binds K t.d_Hall__numbers ["self", "name", "word", "is_down"] []
  F_Hall__unhear:Fun K "unhear" "Hall.unhear" s_Hall__unhear t.Hall__unhear t.d_Hall__unhear
  me_Hall__unhear:Meth K (cl t 1) "unhear" t.Hall__unhear
  b_Hall__unhear:Binds K t.d_Hall__unhear ["self", "number"] []
  F_Hall__unhear_if_there:Fun K "unhear_if_there" "Hall.unhear_if_there" s_Hall__unhear_if_there t.Hall__unhear_if_there t.d_Hall__unhear_if_there
  me_Hall__unhear_if_there:Meth K (cl t 1) "unhear_if_there" t.Hall__unhear_if_there
  b_Hall__unhear_if_there:Binds K t.d_Hall__unhear_if_there ["self", "number"] []
  F_Hall__cut:Fun K "cut" "Hall.cut" s_Hall__cut t.Hall__cut t.d_Hall__cut
  me_Hall__cut:Meth K (cl t 1) "cut" t.Hall__cut
  b_Hall__cut:Binds K t.d_Hall__cut ["self", "name"] []
  F_Course____init__:Fun K "__init__" "Course.__init__" s_Course____init__ t.Course____init__ t.d_Course____init__
  b_Course____init__:Binds K t.d_Course____init__ ["self", "word", "depth", "told"] []
  F_Hall__do_deed_on_box:Fun K "do_deed_on_box" "Hall.do_deed_on_box" s_Hall__do_deed_on_box t.Hall__do_deed_on_box t.d_Hall__do_deed_on_box
  me_Hall__do_deed_on_box:Meth K (cl t 1) "do_deed_on_box" t.Hall__do_deed_on_box
  b_Hall__do_deed_on_box:Binds K t.d_Hall__do_deed_on_box ["self", "deed", "course"] []
  F_Hall__do_deed:Fun K "do_deed" "Hall.do_deed" s_Hall__do_deed t.Hall__do_deed t.d_Hall__do_deed
  me_Hall__do_deed:Meth K (cl t 1) "do_deed" t.Hall__do_deed
  b_Hall__do_deed:Binds K t.d_Hall__do_deed ["self", "deed", "course"] []
  F_Hall__rouse:Fun K "rouse" "Hall.rouse" s_Hall__rouse t.Hall__rouse t.d_Hall__rouse
  me_Hall__rouse:Meth K (cl t 1) "rouse" t.Hall__rouse
  b_Hall__rouse:Binds K t.d_Hall__rouse ["self", "number", "course"] []
  F_Hall__give_turn:Fun K "give_turn" "Hall.give_turn" s_Hall__give_turn t.Hall__give_turn t.d_Hall__give_turn
  me_Hall__give_turn:Meth K (cl t 1) "give_turn" t.Hall__give_turn
  b_Hall__give_turn:Binds K t.d_Hall__give_turn ["self", "box", "is_down", "course"] []
  F_Hall__go_along:Fun K "go_along" "Hall.go_along" s_Hall__go_along t.Hall__go_along t.d_Hall__go_along
  me_Hall__go_along:Meth K (cl t 1) "go_along" t.Hall__go_along
  b_Hall__go_along:Binds K t.d_Hall__go_along ["self", "name", "course"] []
  F_Hall__call:Fun K "call" "Hall.call" s_Hall__call t.Hall__call t.d_Hall__call
  me_Hall__call:Meth K (cl t 1) "call" t.Hall__call
  b_Hall__call:Binds K t.d_Hall__call ["self", "name", "word"] []
  F_law:Fun K "law" "law" s_law t.law t.d_law
  m_law:mg "law" = some (.ref t.law)
  b_law:Binds K t.d_law ["_law_script"] []
  c_AROUND:mg "AROUND" = some (.int (1) t.t_AROUND)
  c_BOX:mg "BOX" = some (.int (0) t.t_BOX)
  c_DEEDS:mg "DEEDS" = some (.int (3) t.t_DEEDS)
  c_IS_DOWN:mg "IS_DOWN" = some (.int (2) t.t_IS_DOWN)
  c_IS_ONCE:mg "IS_ONCE" = some (.int (4) t.t_IS_ONCE)
  c_MOST_CALLS_WITHIN:mg "MOST_CALLS_WITHIN" = some (.int (3) t.t_MOST_CALLS_WITHIN)
  c_NAME:mg "NAME" = some (.int (0) t.t_NAME)
  c_WORD:mg "WORD" = some (.int (1) t.t_WORD)
  z_any:mg "any" = none
  z_enumerate:mg "enumerate" = none
  z_len:mg "len" = none
  z_list:mg "list" = none
  z_range:mg "range" = none
  z_reversed:mg "reversed" = none
  z_set:mg "set" = none
  z_sorted:mg "sorted" = none
  z_tuple:mg "tuple" = none
section
variable {Pr:Program} {w:World} {K:PySem.W.Frag} {mg:Str→Option Value} {base:Heap} {t:Adr}
noncomputable abbrev N__law_cell:List Str:=["_law_script", "_law_k"]
theorem sc__law_cell:FnScope ["_law_script", "_law_k"] ["_law_script", "_law_k"] (defScope s__law_cell):=⟨rfl,rfl,rfl,by decide +kernel,rfl,by decide +kernel,by decide +kernel⟩
noncomputable def g__law_cell  : En→Option Out :=
  (sSeq (sIf (bT (l2 pEq (eV 0) (oE (fun η=>(aN η).bind gL)))) (sRet (l2 pMul (eC (.int 7)) (eV 1))) sNx)
    (sRet (l2 pAdd (l2 pIx (eV 0) (l2 pMod (eV 1) (lA pLen (aC (eV 0) aN)))) (l2 pMul (eC (.int 6553)) (l2 pFdiv (eV 1) (lA pLen (aC (eV 0) aN)))))))
set_option maxHeartbeats 4000000 in
theorem ok__law_cell {k:Nat} (tx:Tx K mg t)  : FnOk Pr w K mg base CX0 (k+1) t._law_cell t.d__law_cell ["_law_script", "_law_k"] (spP K (runF 2 2 (g__law_cell))) :=
  fnP tx.F__law_cell sc__law_cell fun _ _ _ _ _ _ _ hr =>
    (@Ss.cons _ _ _ _ _ _ (@S.ifS _ _ _ _ _ _ _ _ _ (T.eq hr (E.v 0) (EO.toE (EO.lst A.nil))) (@Ss.one _ _ _ _ (S.ret (E.mul E.int (E.v 1)))) Ss.nil)
    (@Ss.one _ _ _ _ (S.ret (E.add (E.at (E.v 0) (E.mod (E.v 1) (E.len tx.z_len (A.cons (E.v 0) A.nil)))) (E.mul E.int (E.fdiv (E.v 1) (E.len tx.z_len (A.cons (E.v 0) A.nil))))))))
noncomputable abbrev N__law_drawn:List Str:=["_law_script", "_law_k", "_law_many", "_law_cell_here"]
theorem sc__law_drawn:FnScope ["_law_script", "_law_k", "_law_many", "_law_cell_here"] ["_law_script", "_law_k", "_law_many"] (defScope s__law_drawn):=⟨rfl,rfl,rfl,by decide +kernel,rfl,by decide +kernel,by decide +kernel⟩
noncomputable def g__law_drawn (fn__law_cell:List PyData→Option PyData):En→Option Out :=
  (sSeq (sSet 3 (l2 pMod (l2 pAdd (l2 pMul (l2 pMod (lA fn__law_cell (aC (eV 0) (aC (eV 1) aN))) (eC (.int 2147483563))) (eC (.int 69069))) (l2 pMul (eC (.int 104723)) (l2 pAdd (eV 1) (eC (.int 1))))) (eC (.int 2147483563))))
    (sSeq (sSet 3 (l2 pMod (l2 pAdd (l2 pMul (eV 3) (eV 3)) (l2 pFdiv (eV 3) (eC (.int 3)))) (eC (.int 2147483399))))
    (sRet (l2 pMod (l2 pFdiv (l2 pMod (l2 pAdd (l2 pMul (eV 3) (eV 3)) (l2 pFdiv (eV 3) (eC (.int 7)))) (eC (.int 2147483647))) (eC (.int 11))) (eV 2)))))
set_option maxHeartbeats 4000000 in
theorem ok__law_drawn {k:Nat} (tx:Tx K mg t) {k__law_cell:Nat} {fn__law_cell:List PyData→Option PyData} (G__law_cell:FnOk Pr w K mg base CX0 k__law_cell t._law_cell t.d__law_cell ["_law_script", "_law_k"] (spP K fn__law_cell)) (hk__law_cell:k__law_cell≤k):FnOk Pr w K mg base CX0 (k+1) t._law_drawn t.d__law_drawn ["_law_script", "_law_k", "_law_many"] (spP K (runF 3 4 (g__law_drawn fn__law_cell))) :=
  fnP tx.F__law_drawn sc__law_drawn fun _ _ _ _ _ _ _ hr =>
    (@Ss.cons _ _ _ _ _ _ (S.set 3 sc__law_drawn.nd (E.mod (E.add (E.mul (E.mod (E.call G__law_cell hr (by omega) tx.m__law_cell tx.F__law_cell.kp tx.b__law_cell (A.cons (E.v 0) (A.cons (E.v 1) A.nil))) E.int) E.int) (E.mul E.int (E.add (E.v 1) E.int))) E.int))
    (@Ss.cons _ _ _ _ _ _ (S.set 3 sc__law_drawn.nd (E.mod (E.add (E.mul (E.v 3) (E.v 3)) (E.fdiv (E.v 3) E.int)) E.int))
    (@Ss.one _ _ _ _ (S.ret (E.mod (E.fdiv (E.mod (E.add (E.mul (E.v 3) (E.v 3)) (E.fdiv (E.v 3) E.int)) E.int) E.int) (E.v 2))))))
noncomputable abbrev N__law_scene:List Str:=["_law_script", "_law_at", "_law_found", "_law_turn", "_law_k", "_law_here", "_law_around", "_law_places", "_law_sizes", "_law_marks", "_law_j", "_law_sign", "_law_name"]
theorem sc__law_scene:FnScope ["_law_script", "_law_at", "_law_found", "_law_turn", "_law_k", "_law_here", "_law_around", "_law_places", "_law_sizes", "_law_marks", "_law_j", "_law_sign", "_law_name"] ["_law_script", "_law_at"] (defScope s__law_scene):=⟨rfl,rfl,rfl,by decide +kernel,rfl,by decide +kernel,by decide +kernel⟩
noncomputable def g__law_scene (fn__law_drawn:List PyData→Option PyData):En→Option Out :=
  (sSeq (sSet 2 (lA (fun ds=>if ds.length≤sizeLine then some (.tuple ds) else none) aN))
    (sSeq (sSet 3 (lA fn__law_drawn (aC (eV 0) (aC (l2 pAdd (eV 1) (eC (.int 1))) (aC (eC (.int 8)) aN)))))
    (sSeq (sFor (fun η=>((aC (lA fn__law_drawn (aC (eV 0) (aC (eV 1) (aC (eC (.int 8)) aN)))) aN) η).bind rng1) (tgN 4)
    (sSeq (sSet 5 (l2 pAdd (l2 pAdd (eV 1) (eC (.int 3))) (l2 pMul (eC (.int 9)) (eV 4))))
    (sSeq (sSet 6 (l2 pIx (l2 pAdd (oE (fun η=>((aC (eC (.str "")) aN) η).bind gL)) (oE (sComp [none] (lI asTu (eV 2)) (tgN 0) tTrue (l2 pIx (eV 0) (eC (.int 0)))))) (lA fn__law_drawn (aC (eV 0) (aC (eV 5) (aC (l2 pAdd (eV 4) (eC (.int 1))) aN))))))
    (sSeq (sSetO 7 (sComp [none,some 0,some 5] (fun η=>((aC (eC (.int 2)) aN) η).bind rng1) (tgN 0) tTrue (l2 pSub (lA fn__law_drawn (aC (eV 1) (aC (l2 pAdd (l2 pAdd (eV 2) (eC (.int 1))) (eV 0)) (aC (eC (.int 9)) aN)))) (eC (.int 3)))))
    (fun η=>(sSeq (sSetO 8 (sComp [none,some 0,some 5] (fun η=>((aC (eC (.int 2)) aN) η).bind rng1) (tgN 0) tTrue (lA fn__law_drawn (aC (eV 1) (aC (l2 pAdd (l2 pAdd (eV 2) (eC (.int 3))) (eV 0)) (aC (eC (.int 9)) aN))))))
    (fun η=>(sSeq (sSet 9 (eC (.str "")))
    (sSeq (sFor (fun η=>((aC (eC (.str "cfhl")) aN) η).bind enS) (tgT (tgCons (tgN 10) (tgCons (tgN 11) tgNil)))
    (sIf (bT (l2 pEq (lA fn__law_drawn (aC (eV 0) (aC (l2 pAdd (l2 pAdd (eV 5) (eC (.int 5))) (eV 10)) (aC (l2 pIx (oE (fun η=>((aC (eC (.int 4)) (aC (eC (.int 2)) (aC (eC (.int 9)) (aC (eC (.int 6)) aN)))) η).bind gL)) (eV 10)) aN)))) (eC (.int 0)))) (sSet 9 (l2 pAdd (eV 9) (eV 11))) sNx))
    (sSeq (sSet 12 (l2 pIx (eC (.str "dbgahcfe")) (l2 pMod (l2 pAdd (eV 4) (eV 3)) (eC (.int 8)))))
    (sSet 2 (l2 pAdd (eV 2) (lA (fun ds=>if ds.length≤sizeLine then some (.tuple ds) else none) (aC (l2 pAdd (l2 pAdd (lA (fun ds=>if ds.length≤sizeLine then some (.tuple ds) else none) (aC (eV 12) (aC (eV 6) aN))) (lA pTup (aC (l2 pAdd (eV 7) (eV 8)) aN))) (lA (fun ds=>if ds.length≤sizeLine then some (.tuple ds) else none) (aC (eV 9) aN))) aN))))))) (frz 8 η))) (frz 7 η))))))
    (sRet (eV 2)))))
set_option maxHeartbeats 4000000 in
theorem ok__law_scene {k:Nat} (tx:Tx K mg t) {k__law_drawn:Nat} {fn__law_drawn:List PyData→Option PyData} (G__law_drawn:FnOk Pr w K mg base CX0 k__law_drawn t._law_drawn t.d__law_drawn ["_law_script", "_law_k", "_law_many"] (spP K fn__law_drawn)) (hk__law_drawn:k__law_drawn≤k):FnOk Pr w K mg base CX0 (k+1) t._law_scene t.d__law_scene ["_law_script", "_law_at"] (spP K (runF 2 13 (g__law_scene fn__law_drawn))) :=
  fnP tx.F__law_scene sc__law_scene fun _ _ _ _ _ _ _ hr =>
    (@Ss.cons _ _ _ _ _ _ (S.set 2 sc__law_scene.nd (E.tup A.nil))
    (@Ss.cons _ _ _ _ _ _ (S.set 3 sc__law_scene.nd (E.call G__law_drawn hr (by omega) tx.m__law_drawn tx.F__law_drawn.kp tx.b__law_drawn (A.cons (E.v 0) (A.cons (E.add (E.v 1) E.int) (A.cons E.int A.nil)))))
    (@Ss.cons _ _ _ _ _ _ (@S.for _ _ _ _ _ _ _ _ _ _ _ PassesOwn.never rfl (I.rng1 tx.z_range (A.cons (E.call G__law_drawn hr (by omega) tx.m__law_drawn tx.F__law_drawn.kp tx.b__law_drawn (A.cons (E.v 0) (A.cons (E.v 1) (A.cons E.int A.nil)))) A.nil)) (pg_name (i:=4) sc__law_scene.nd rfl (by first | exact Or.inl rfl | exact Or.inr rfl) ) (TgP.name (i:=4))
    (@Ss.cons _ _ _ _ _ _ (S.set 5 sc__law_scene.nd (E.add (E.add (E.v 1) E.int) (E.mul E.int (E.v 4))))
    (@Ss.cons _ _ _ _ _ _ (S.set 6 sc__law_scene.nd (E.at (E.add (EO.toE (EO.lst (A.cons E.str A.nil))) (EO.toE (EO.comp (N':=["_law_box_here"]) (mp:=[none]) rfl (CompSc.of' N__law_scene (defScope s__law_scene) rfl rfl (by decide +kernel)) (TgP.name (i:=0)) (by decide) (I.tup (E.v 2)) (fun _ _ _=>⟨(pg_name (i:=0) (show (["_law_box_here"]:List Str).Nodup by decide +kernel) rfl (Or.inl rfl) (.inr rfl)),Ts.nil,(E.at (E.v 0) E.int)⟩)))) (E.call G__law_drawn hr (by omega) tx.m__law_drawn tx.F__law_drawn.kp tx.b__law_drawn (A.cons (E.v 0) (A.cons (E.v 5) (A.cons (E.add (E.v 4) E.int) A.nil))))))
    (@Ss.cons _ _ _ _ _ _ (S.setC 7 (N':=["_law_j", "_law_script", "_law_here"]) (mp:=[none,some 0,some 5]) rfl sc__law_scene.nd (CompSc.of' N__law_scene (defScope s__law_scene) rfl rfl (by decide +kernel)) (TgP.name (i:=0)) (by decide) (I.rng1 tx.z_range (A.cons E.int A.nil)) (fun _ _ _=>⟨(pg_name (i:=0) (show (["_law_j", "_law_script", "_law_here"]:List Str).Nodup by decide +kernel) rfl (Or.inl rfl) (.inr rfl)),Ts.nil,(E.sub (E.call G__law_drawn hr (by omega) tx.m__law_drawn tx.F__law_drawn.kp tx.b__law_drawn (A.cons (E.v 1) (A.cons (E.add (E.add (E.v 2) E.int) (E.v 0)) (A.cons E.int A.nil)))) E.int)⟩))
    (@Ss.frz _ _ _ _ 7 (@Ss.cons _ _ _ _ _ _ (S.setC 8 (N':=["_law_j", "_law_script", "_law_here"]) (mp:=[none,some 0,some 5]) rfl sc__law_scene.nd (CompSc.of' N__law_scene (defScope s__law_scene) rfl rfl (by decide +kernel)) (TgP.name (i:=0)) (by decide) (I.rng1 tx.z_range (A.cons E.int A.nil)) (fun _ _ _=>⟨(pg_name (i:=0) (show (["_law_j", "_law_script", "_law_here"]:List Str).Nodup by decide +kernel) rfl (Or.inl rfl) (.inr rfl)),Ts.nil,(E.call G__law_drawn hr (by omega) tx.m__law_drawn tx.F__law_drawn.kp tx.b__law_drawn (A.cons (E.v 1) (A.cons (E.add (E.add (E.v 2) E.int) (E.v 0)) (A.cons E.int A.nil))))⟩))
    (@Ss.frz _ _ _ _ 8 (@Ss.cons _ _ _ _ _ _ (S.set 9 sc__law_scene.nd E.str)
    (@Ss.cons _ _ _ _ _ _ (@S.for _ _ _ _ _ _ _ _ _ _ _ PassesOwn.never rfl (I.enum rfl tx.z_enumerate (A.cons E.str A.nil)) (pg_tup (n:=2) rfl (pgs_cons (pg_name (i:=10) sc__law_scene.nd rfl (by first | exact Or.inl rfl | exact Or.inr rfl) ) (pgs_cons (pg_name (i:=11) sc__law_scene.nd rfl (by first | exact Or.inl rfl | exact Or.inr rfl) ) pgs_nil))) (TgP.tup (n:=2) (TgsP.cons (TgP.name (i:=10)) (TgsP.cons (TgP.name (i:=11)) TgsP.nil)) (tg_len2))
    (@Ss.one _ _ _ _ (@S.ifS _ _ _ _ _ _ _ _ _ (T.eq hr (E.call G__law_drawn hr (by omega) tx.m__law_drawn tx.F__law_drawn.kp tx.b__law_drawn (A.cons (E.v 0) (A.cons (E.add (E.add (E.v 5) E.int) (E.v 10)) (A.cons (E.at (EO.toE (EO.lst (A.cons E.int (A.cons E.int (A.cons E.int (A.cons E.int A.nil)))))) (E.v 10)) A.nil)))) E.int) (@Ss.one _ _ _ _ (S.set 9 sc__law_scene.nd (E.add (E.v 9) (E.v 11)))) Ss.nil)) (fun _=>rfl))
    (@Ss.cons _ _ _ _ _ _ (S.set 12 sc__law_scene.nd (E.at E.str (E.mod (E.add (E.v 4) (E.v 3)) E.int)))
    (@Ss.one _ _ _ _ (S.set 2 sc__law_scene.nd (E.add (E.v 2) (E.tup (A.cons (E.add (E.add (E.tup (A.cons (E.v 12) (A.cons (E.v 6) A.nil))) (E.tuple tx.z_tuple (A.cons (E.add (E.v 7) (E.v 8)) A.nil))) (E.tup (A.cons (E.v 9) A.nil))) A.nil)))))))))))))) (fun _=>rfl))
    (@Ss.one _ _ _ _ (S.ret (E.v 2))))))
noncomputable abbrev N_Hall____init__:List Str:=["self", "scene"]
theorem sc_Hall____init__:FnScope ["self", "scene"] ["self", "scene"] (defScope s_Hall____init__):=⟨rfl,rfl,rfl,by decide +kernel,rfl,by decide +kernel,by decide +kernel⟩
noncomputable def g_Hall____init__  : Wd→Option MOut :=
  (mSeq (mPut 1 "scene" (mV 0) (mP (eV 1)))
    (mSeq (mPut 1 "hearers" (mV 0) mNewD)
    (mPut 1 "made" (mV 0) (mP (eC (.int 0))))))
set_option maxHeartbeats 4000000 in
theorem ok_Hall____init__ {k:Nat} (tx:Tx K mg t)  : FnOk Pr w K mg base CX0 (k+1) t.Hall____init__ t.d_Hall____init__ ["self", "scene"] (spM K (cl t) (runM 2 2 (g_Hall____init__))) :=
  fnM tx.F_Hall____init__ sc_Hall____init__ fun _ _ _ _ _ _ hr =>
    (@MSs.cons _ _ _ _ _ _ (MS.put (k:=1) (ME.v 0) (ME.pu fun _=>(E.v 1)) tx.na_Hall_scene)
    (@MSs.cons _ _ _ _ _ _ (MS.put (k:=1) (ME.v 0) ME.dict0 tx.na_Hall_hearers)
    (@MSs.one _ _ _ _ (MS.put (k:=1) (ME.v 0) (ME.pu fun _=>E.int) tx.na_Hall_made))))
noncomputable abbrev N_box_of:List Str:=["scene", "name", "box"]
theorem sc_box_of:FnScope ["scene", "name", "box"] ["scene", "name"] (defScope s_box_of):=⟨rfl,rfl,rfl,by decide +kernel,rfl,by decide +kernel,by decide +kernel⟩
noncomputable def g_box_of  : En→Option Out :=
  (sSeq (sFor (lI asTu (eV 0)) (tgN 2)
    (sIf (bT (l2 pEq (l2 pIx (eV 2) (eC (.int 0))) (eV 1))) (sRet (eV 2)) sNx))
    (fun _=>none))
set_option maxHeartbeats 4000000 in
theorem ok_box_of {k:Nat} (tx:Tx K mg t)  : FnOk Pr w K mg base CX0 (k+1) t.box_of t.d_box_of ["scene", "name"] (spP K (runF 2 3 (g_box_of))) :=
  fnP tx.F_box_of sc_box_of fun _ _ _ _ _ _ _ hr =>
    (@Ss.cons _ _ _ _ _ _ (@S.for _ _ _ _ _ _ _ _ _ _ _ PassesOwn.never rfl (I.tup (E.v 0)) (pg_name (i:=2) sc_box_of.nd rfl (by first | exact Or.inl rfl | exact Or.inr rfl) ) (TgP.name (i:=2))
    (@Ss.one _ _ _ _ (@S.ifS _ _ _ _ _ _ _ _ _ (T.eq hr (E.at (E.v 2) (E.globI tx.c_NAME)) (E.v 1)) (@Ss.one _ _ _ _ (S.ret (E.v 2))) Ss.nil)) (fun _=>rfl))
    (@Ss.one _ _ _ _ S.never))
noncomputable abbrev N_Hall__hear:List Str:=["self", "name", "word", "is_down", "deeds", "is_once", "number"]
theorem sc_Hall__hear:FnScope ["self", "name", "word", "is_down", "deeds", "is_once", "number"] ["self", "name", "word", "is_down", "deeds", "is_once"] (defScope s_Hall__hear):=⟨rfl,rfl,rfl,by decide +kernel,rfl,by decide +kernel,by decide +kernel⟩
noncomputable def g_Hall__hear (fn_box_of:List PyData→Option PyData):Wd→Option MOut :=
  (mSeq (mExp (mP (lA fn_box_of (aC (eFld 0 "scene") (aC (eV 1) aN)))))
    (mSeq (mSet 6 (mP (eFld 0 "made")))
    (mSeq (mPutC (mFld (mV 0) "hearers") (mP (eV 6)) (mP (lA (fun ds=>if ds.length≤sizeLine then some (.tuple ds) else none) (aC (eV 1) (aC (eV 2) (aC (eV 3) (aC (eV 4) (aC (eV 5) aN))))))))
    (mSeq (mAugF 1 "made" (mV 0) (mP (eC (.int 1))))
    (mRet (mP (eV 6)))))))
set_option maxHeartbeats 4000000 in
theorem ok_Hall__hear {k:Nat} (tx:Tx K mg t) {k_box_of:Nat} {fn_box_of:List PyData→Option PyData} (G_box_of:FnOk Pr w K mg base CX0 k_box_of t.box_of t.d_box_of ["scene", "name"] (spP K fn_box_of)) (hk_box_of:k_box_of≤k):FnOk Pr w K mg base CX0 (k+1) t.Hall__hear t.d_Hall__hear ["self", "name", "word", "is_down", "deeds", "is_once"] (spM K (cl t) (runM 6 7 (g_Hall__hear fn_box_of))) :=
  fnM tx.F_Hall__hear sc_Hall__hear fun _ _ _ _ _ _ hr =>
    (@MSs.cons _ _ _ _ _ _ (MS.exp (ME.pu fun _=>(E.call G_box_of hr (by omega) tx.m_box_of tx.F_box_of.kp tx.b_box_of (A.cons (E.fld 0) (A.cons (E.v 1) A.nil)))))
    (@MSs.cons _ _ _ _ _ _ (MS.set 6 sc_Hall__hear.nd (ME.pu fun _=>(E.fld 0)))
    (@MSs.cons _ _ _ _ _ _ (MS.putC hr (ME.fld (ME.v 0)) (ME.pu fun _=>(E.v 6)) (ME.pu fun _=>(E.tup (A.cons (E.v 1) (A.cons (E.v 2) (A.cons (E.v 3) (A.cons (E.v 4) (A.cons (E.v 5) A.nil))))))))
    (@MSs.cons _ _ _ _ _ _ (MS.augF (k:=1) (ME.v 0) (ME.pu fun _=>E.int) tx.na_Hall_made)
    (@MSs.one _ _ _ _ (MS.ret (ME.pu fun _=>(E.v 6))))))))
noncomputable abbrev N_path_of:List Str:=["scene", "name", "around"]
theorem sc_path_of:FnScope ["scene", "name", "around"] ["scene", "name"] (defScope s_path_of):=⟨rfl,rfl,rfl,by decide +kernel,rfl,by decide +kernel,by decide +kernel⟩
noncomputable def g_path_of (fn_box_of:List PyData→Option PyData) (fn_path_of:List PyData→Option PyData):En→Option Out :=
  (sSeq (sSet 2 (l2 pIx (lA fn_box_of (aC (eV 0) (aC (eV 1) aN))) (eC (.int 1))))
    (sSeq (sIf (bT (l2 pEq (eV 2) (eC (.str "")))) (sRet (oE (fun η=>((aC (eV 1) aN) η).bind gL))) sNx)
    (sRet (l2 pAdd (lA fn_path_of (aC (eV 0) (aC (eV 2) aN))) (oE (fun η=>((aC (eV 1) aN) η).bind gL))))))
set_option maxHeartbeats 4000000 in
theorem ok_path_of {k:Nat} (tx:Tx K mg t) {k_box_of:Nat} {fn_box_of:List PyData→Option PyData} (G_box_of:FnOk Pr w K mg base CX0 k_box_of t.box_of t.d_box_of ["scene", "name"] (spP K fn_box_of)) (hk_box_of:k_box_of≤k) {k_path_of:Nat} {fn_path_of:List PyData→Option PyData} (G_path_of:FnOk Pr w K mg base CX0 k_path_of t.path_of t.d_path_of ["scene", "name"] (spP K fn_path_of)) (hk_path_of:k_path_of≤k):FnOk Pr w K mg base CX0 (k+1) t.path_of t.d_path_of ["scene", "name"] (spP K (runF 2 3 (g_path_of fn_box_of fn_path_of))) :=
  fnP tx.F_path_of sc_path_of fun _ _ _ _ _ _ _ hr =>
    (@Ss.cons _ _ _ _ _ _ (S.set 2 sc_path_of.nd (E.at (E.call G_box_of hr (by omega) tx.m_box_of tx.F_box_of.kp tx.b_box_of (A.cons (E.v 0) (A.cons (E.v 1) A.nil))) (E.globI tx.c_AROUND)))
    (@Ss.cons _ _ _ _ _ _ (@S.ifS _ _ _ _ _ _ _ _ _ (T.eq hr (E.v 2) E.str) (@Ss.one _ _ _ _ (S.ret (EO.toE (EO.lst (A.cons (E.v 1) A.nil))))) Ss.nil)
    (@Ss.one _ _ _ _ (S.ret (E.add (E.call G_path_of hr (by omega) tx.m_path_of tx.F_path_of.kp tx.b_path_of (A.cons (E.v 0) (A.cons (E.v 2) A.nil))) (EO.toE (EO.lst (A.cons (E.v 1) A.nil))))))))
noncomputable abbrev N_has_box:List Str:=["scene", "name"]
theorem sc_has_box:FnScope ["scene", "name"] ["scene", "name"] (defScope s_has_box):=⟨rfl,rfl,rfl,by decide +kernel,rfl,by decide +kernel,by decide +kernel⟩
noncomputable def g_has_box  : En→Option Out :=
  (sRet (lA pAny (aC (oE (sComp [none,some 1] (lI asTu (eV 0)) (tgN 0) tTrue (l2 pEq (l2 pIx (eV 0) (eC (.int 0))) (eV 1)))) aN)))
set_option maxHeartbeats 4000000 in
theorem ok_has_box {k:Nat} (tx:Tx K mg t)  : FnOk Pr w K mg base CX0 (k+1) t.has_box t.d_has_box ["scene", "name"] (spP K (runF 2 2 (g_has_box))) :=
  fnP tx.F_has_box sc_has_box fun _ _ _ _ _ _ _ hr =>
    (@Ss.one _ _ _ _ (S.ret (E.any rfl tx.z_any (A.cons (EO.toE (EO.comp (N':=["box", "name"]) (mp:=[none,some 1]) rfl (CompSc.of' N_has_box (defScope s_has_box) rfl rfl (by decide +kernel)) (TgP.name (i:=0)) (by decide) (I.tup (E.v 0)) (fun _ _ _=>⟨(pg_name (i:=0) (show (["box", "name"]:List Str).Nodup by decide +kernel) rfl (Or.inl rfl) (.inr rfl)),Ts.nil,(E.eq hr (E.at (E.v 0) (E.globI tx.c_NAME)) (E.v 1))⟩))) A.nil))))
noncomputable abbrev N_Hall__numbers:List Str:=["self", "name", "word", "is_down", "wanted"]
theorem sc_Hall__numbers:FnScope ["self", "name", "word", "is_down", "wanted"] ["self", "name", "word", "is_down"] (defScope s_Hall__numbers):=⟨rfl,rfl,rfl,by decide +kernel,rfl,by decide +kernel,by decide +kernel⟩
noncomputable def g_Hall__numbers  : Wd→Option MOut :=
  (mSeq (mSet 4 (mP (lA (fun ds=>if ds.length≤sizeLine then some (.tuple ds) else none) (aC (eV 1) (aC (eV 2) (aC (eV 3) aN))))))
    (mRet (mItC 0 "hearers" [none,none,some 4] (tgT (tgCons (tgN 0) (tgCons (tgN 1) tgNil))) (bT (l2 pEq (eSl (eV 1) pN (pS (eC (.int 3)))) (eV 2))) (eV 0))))
set_option maxHeartbeats 4000000 in
theorem ok_Hall__numbers {k:Nat} (tx:Tx K mg t)  : FnOk Pr w K mg base CX0 (k+1) t.Hall__numbers t.d_Hall__numbers ["self", "name", "word", "is_down"] (spM K (cl t) (runM 4 5 (g_Hall__numbers))) :=
  fnM tx.F_Hall__numbers sc_Hall__numbers fun _ _ _ _ _ _ hr =>
    (@MSs.cons _ _ _ _ _ _ (MS.set 4 sc_Hall__numbers.nd (ME.pu fun _=>(E.tup (A.cons (E.v 1) (A.cons (E.v 2) (A.cons (E.v 3) A.nil))))))
    (@MSs.one _ _ _ _ (MS.ret (ME.itemsC (N':=["number", "hearer", "wanted"]) (mp:=[none,none,some 4]) (fld := "hearers") 0 rfl (CompSc.of' N_Hall__numbers (defScope s_Hall__numbers) rfl rfl (by decide +kernel)) (TgP.tup (n:=2) (TgsP.cons (TgP.name (i:=0)) (TgsP.cons (TgP.name (i:=1)) TgsP.nil)) (tg_len2)) (by decide) (fun _ _ _ _=>⟨(pg_tup (n:=2) rfl (pgs_cons (pg_name (i:=0) (show (["number", "hearer", "wanted"]:List Str).Nodup by decide +kernel) rfl (Or.inl rfl) (.inr rfl)) (pgs_cons (pg_name (i:=1) (show (["number", "hearer", "wanted"]:List Str).Nodup by decide +kernel) rfl (Or.inl rfl) (.inr rfl)) pgs_nil))),(Ts.one (T.eq hr (E.sl (E.v 1) P.none (P.some (E.globI tx.c_DEEDS))) (E.v 2))),(E.v 0)⟩)))))
noncomputable abbrev N_Hall__unhear:List Str:=["self", "number"]
theorem sc_Hall__unhear:FnScope ["self", "number"] ["self", "number"] (defScope s_Hall__unhear):=⟨rfl,rfl,rfl,by decide +kernel,rfl,by decide +kernel,by decide +kernel⟩
noncomputable def g_Hall__unhear  : Wd→Option MOut :=
  (mSeq (mIf (mInC true (mP (eV 1)) (mFld (mV 0) "hearers")) (fun _=>none) mNx)
    (mExp (mPopC (mFld (mV 0) "hearers") (mP (eV 1)))))
set_option maxHeartbeats 4000000 in
theorem ok_Hall__unhear {k:Nat} (tx:Tx K mg t)  : FnOk Pr w K mg base CX0 (k+1) t.Hall__unhear t.d_Hall__unhear ["self", "number"] (spM K (cl t) (runM 2 2 (g_Hall__unhear))) :=
  fnM tx.F_Hall__unhear sc_Hall__unhear fun _ _ _ _ _ _ hr =>
    (@MSs.cons _ _ _ _ _ _ (@MS.ifS _ _ _ _ _ _ _ _ _ (MT.notInC hr (ME.pu fun _=>(E.v 1)) (ME.fld (ME.v 0))) (@MSs.one _ _ _ _ MS.never) MSs.nil)
    (@MSs.one _ _ _ _ (MS.exp (ME.popC (ME.fld (ME.v 0)) (ME.pu fun _=>(E.v 1))))))
noncomputable abbrev N_Course____init__:List Str:=["self", "word", "depth", "told"]
theorem sc_Course____init__:FnScope ["self", "word", "depth", "told"] ["self", "word", "depth", "told"] (defScope s_Course____init__):=⟨rfl,rfl,rfl,by decide +kernel,rfl,by decide +kernel,by decide +kernel⟩
noncomputable def g_Course____init__  : Wd→Option MOut :=
  (mSeq (mPut 0 "word" (mV 0) (mP (eV 1)))
    (mSeq (mPut 0 "depth" (mV 0) (mP (eV 2)))
    (mSeq (mPut 0 "told" (mV 0) (mV 3))
    (mSeq (mPut 0 "is_kept" (mV 0) (mP (eC (.bool false))))
    (mSeq (mPut 0 "is_last_turn" (mV 0) (mP (eC (.bool false))))
    (mPut 0 "is_ended" (mV 0) (mP (eC (.bool false)))))))))
set_option maxHeartbeats 4000000 in
theorem ok_Course____init__ {k:Nat} (tx:Tx K mg t)  : FnOk Pr w K mg base CX0 (k+1) t.Course____init__ t.d_Course____init__ ["self", "word", "depth", "told"] (spM K (cl t) (runM 4 4 (g_Course____init__))) :=
  fnM tx.F_Course____init__ sc_Course____init__ fun _ _ _ _ _ _ hr =>
    (@MSs.cons _ _ _ _ _ _ (MS.put (k:=0) (ME.v 0) (ME.pu fun _=>(E.v 1)) tx.na_Course_word)
    (@MSs.cons _ _ _ _ _ _ (MS.put (k:=0) (ME.v 0) (ME.pu fun _=>(E.v 2)) tx.na_Course_depth)
    (@MSs.cons _ _ _ _ _ _ (MS.put (k:=0) (ME.v 0) (ME.v 3) tx.na_Course_told)
    (@MSs.cons _ _ _ _ _ _ (MS.put (k:=0) (ME.v 0) (ME.pu fun _=>E.bl) tx.na_Course_is_kept)
    (@MSs.cons _ _ _ _ _ _ (MS.put (k:=0) (ME.v 0) (ME.pu fun _=>E.bl) tx.na_Course_is_last_turn)
    (@MSs.one _ _ _ _ (MS.put (k:=0) (ME.v 0) (ME.pu fun _=>E.bl) tx.na_Course_is_ended)))))))
noncomputable abbrev N_Hall__do_deed_on_box:List Str:=["self", "deed", "course"]
theorem sc_Hall__do_deed_on_box:FnScope ["self", "deed", "course"] ["self", "deed", "course"] (defScope s_Hall__do_deed_on_box):=⟨rfl,rfl,rfl,by decide +kernel,rfl,by decide +kernel,by decide +kernel⟩
noncomputable def g_Hall__do_deed_on_box (fn_Hall__hear:List D→Sto→Option (D×Sto)) (fn_Hall__cut:List D→Sto→Option (D×Sto)) (fn_Hall__go_along:List D→Sto→Option (D×Sto)) (fn_Course____init__:List D→Sto→Option (D×Sto)):Wd→Option MOut :=
  (mIf (tPv (bT (l2 pEq (l2 pIx (eV 1) (eC (.int 0))) (eC (.str "hear"))))) (mExp (mMeth 1 "hear" fn_Hall__hear (mV 0) (maC (mP (l2 pIx (eV 1) (eC (.int 1)))) (maC (mP (l2 pIx (eV 1) (eC (.int 2)))) (maC (mP (l2 pIx (eV 1) (eC (.int 3)))) (maC (mP (lA (fun ds=>if ds.length≤sizeLine then some (.tuple ds) else none) aN)) (maC (mP (eC (.bool false))) maN))))))) (mIf (tPv (bT (l2 pEq (l2 pIx (eV 1) (eC (.int 0))) (eC (.str "cut"))))) (mExp (mMeth 1 "cut" fn_Hall__cut (mV 0) (maC (mP (l2 pIx (eV 1) (eC (.int 1)))) maN))) (mIf (tPv (bT (l2 pLt (eFld 2 "depth") (eC (.int 3))))) (mExp (mMeth 1 "go_along" fn_Hall__go_along (mV 0) (maC (mP (l2 pIx (eV 1) (eC (.int 1)))) (maC (mMake 0 fn_Course____init__ (maC (mP (l2 pIx (eV 1) (eC (.int 2)))) (maC (mP (l2 pAdd (eFld 2 "depth") (eC (.int 1)))) (maC (mFld (mV 2) "told") maN)))) maN)))) mNx)))
set_option maxHeartbeats 4000000 in
theorem ok_Hall__do_deed_on_box {k:Nat} (tx:Tx K mg t) {k_Hall__hear:Nat} {fn_Hall__hear:List D→Sto→Option (D×Sto)} (G_Hall__hear:FnOk Pr w K mg base CX0 k_Hall__hear t.Hall__hear t.d_Hall__hear ["self", "name", "word", "is_down", "deeds", "is_once"] (spM K (cl t) fn_Hall__hear)) (hk_Hall__hear:k_Hall__hear≤k) {k_Hall__cut:Nat} {fn_Hall__cut:List D→Sto→Option (D×Sto)} (G_Hall__cut:FnOk Pr w K mg base CX0 k_Hall__cut t.Hall__cut t.d_Hall__cut ["self", "name"] (spM K (cl t) fn_Hall__cut)) (hk_Hall__cut:k_Hall__cut≤k) {k_Hall__go_along:Nat} {fn_Hall__go_along:List D→Sto→Option (D×Sto)} (G_Hall__go_along:FnOk Pr w K mg base CX0 k_Hall__go_along t.Hall__go_along t.d_Hall__go_along ["self", "name", "course"] (spM K (cl t) fn_Hall__go_along)) (hk_Hall__go_along:k_Hall__go_along≤k) {k_Course____init__:Nat} {fn_Course____init__:List D→Sto→Option (D×Sto)} (G_Course____init__:FnOk Pr w K mg base CX0 k_Course____init__ t.Course____init__ t.d_Course____init__ ["self", "word", "depth", "told"] (spM K (cl t) fn_Course____init__)) (hk_Course____init__:k_Course____init__+1≤k):FnOk Pr w K mg base CX0 (k+1) t.Hall__do_deed_on_box t.d_Hall__do_deed_on_box ["self", "deed", "course"] (spM K (cl t) (runM 3 3 (g_Hall__do_deed_on_box fn_Hall__hear fn_Hall__cut fn_Hall__go_along fn_Course____init__))) :=
  fnM tx.F_Hall__do_deed_on_box sc_Hall__do_deed_on_box fun _ _ _ _ _ _ hr =>
    (@MSs.one _ _ _ _ (@MS.ifS _ _ _ _ _ _ _ _ _ (MT.pu fun _=>(T.eq hr (E.at (E.v 1) E.int) E.str)) (@MSs.one _ _ _ _ (MS.exp (ME.meth (kc:=1) (ME.v 0) tx.cl_Hall tx.me_Hall__hear G_Hall__hear hr (by omega) tx.b_Hall__hear (MA.cons (ME.pu fun _=>(E.at (E.v 1) E.int)) (MA.cons (ME.pu fun _=>(E.at (E.v 1) E.int)) (MA.cons (ME.pu fun _=>(E.at (E.v 1) E.int)) (MA.cons (ME.pu fun _=>(E.tup A.nil)) (MA.cons (ME.pu fun _=>E.bl) MA.nil)))))))) (@MSs.one _ _ _ _ (@MS.ifS _ _ _ _ _ _ _ _ _ (MT.pu fun _=>(T.eq hr (E.at (E.v 1) E.int) E.str)) (@MSs.one _ _ _ _ (MS.exp (ME.meth (kc:=1) (ME.v 0) tx.cl_Hall tx.me_Hall__cut G_Hall__cut hr (by omega) tx.b_Hall__cut (MA.cons (ME.pu fun _=>(E.at (E.v 1) E.int)) MA.nil)))) (@MSs.one _ _ _ _ (@MS.ifS _ _ _ _ _ _ _ _ _ (MT.pu fun _=>(T.lt (E.fld 2) (E.globI tx.c_MOST_CALLS_WITHIN))) (@MSs.one _ _ _ _ (MS.exp (ME.meth (kc:=1) (ME.v 0) tx.cl_Hall tx.me_Hall__go_along G_Hall__go_along hr (by omega) tx.b_Hall__go_along (MA.cons (ME.pu fun _=>(E.at (E.v 1) E.int)) (MA.cons (ME.make (kc:=0) tx.cl_Course tx.mk_Course G_Course____init__ hr (by omega) tx.mg_Course tx.b_Course____init__ (MA.cons (ME.pu fun _=>(E.at (E.v 1) E.int)) (MA.cons (ME.pu fun _=>(E.add (E.fld 2) E.int)) (MA.cons (ME.fld (ME.v 2)) MA.nil)))) MA.nil))))) MSs.nil))))))
noncomputable abbrev N_Hall__do_deed:List Str:=["self", "deed", "course"]
theorem sc_Hall__do_deed:FnScope ["self", "deed", "course"] ["self", "deed", "course"] (defScope s_Hall__do_deed):=⟨rfl,rfl,rfl,by decide +kernel,rfl,by decide +kernel,by decide +kernel⟩
noncomputable def g_Hall__do_deed (fn_Hall__unhear_if_there:List D→Sto→Option (D×Sto)) (fn_has_box:List PyData→Option PyData) (fn_Hall__do_deed_on_box:List D→Sto→Option (D×Sto)):Wd→Option MOut :=
  (mIf (tPv (bT (l2 pEq (l2 pIx (eV 1) (eC (.int 0))) (eC (.str "keep"))))) (mPut 0 "is_kept" (mV 2) (mP (eC (.bool true)))) (mIf (tPv (bT (l2 pEq (l2 pIx (eV 1) (eC (.int 0))) (eC (.str "stop"))))) (mPut 0 "is_last_turn" (mV 2) (mP (eC (.bool true)))) (mIf (tPv (bT (l2 pEq (l2 pIx (eV 1) (eC (.int 0))) (eC (.str "stopnow"))))) (mPut 0 "is_ended" (mV 2) (mP (eC (.bool true)))) (mIf (tPv (bT (l2 pEq (l2 pIx (eV 1) (eC (.int 0))) (eC (.str "unhear"))))) (mExp (mMeth 1 "unhear_if_there" fn_Hall__unhear_if_there (mV 0) (maC (mP (l2 pIx (eV 1) (eC (.int 1)))) maN))) (mIf (tPv (bT (lA fn_has_box (aC (eFld 0 "scene") (aC (l2 pIx (eV 1) (eC (.int 1))) aN))))) (mExp (mMeth 1 "do_deed_on_box" fn_Hall__do_deed_on_box (mV 0) (maC (mP (eV 1)) (maC (mV 2) maN)))) mNx)))))
set_option maxHeartbeats 4000000 in
theorem ok_Hall__do_deed {k:Nat} (tx:Tx K mg t) {k_Hall__unhear_if_there:Nat} {fn_Hall__unhear_if_there:List D→Sto→Option (D×Sto)} (G_Hall__unhear_if_there:FnOk Pr w K mg base CX0 k_Hall__unhear_if_there t.Hall__unhear_if_there t.d_Hall__unhear_if_there ["self", "number"] (spM K (cl t) fn_Hall__unhear_if_there)) (hk_Hall__unhear_if_there:k_Hall__unhear_if_there≤k) {k_has_box:Nat} {fn_has_box:List PyData→Option PyData} (G_has_box:FnOk Pr w K mg base CX0 k_has_box t.has_box t.d_has_box ["scene", "name"] (spP K fn_has_box)) (hk_has_box:k_has_box≤k) {k_Hall__do_deed_on_box:Nat} {fn_Hall__do_deed_on_box:List D→Sto→Option (D×Sto)} (G_Hall__do_deed_on_box:FnOk Pr w K mg base CX0 k_Hall__do_deed_on_box t.Hall__do_deed_on_box t.d_Hall__do_deed_on_box ["self", "deed", "course"] (spM K (cl t) fn_Hall__do_deed_on_box)) (hk_Hall__do_deed_on_box:k_Hall__do_deed_on_box≤k):FnOk Pr w K mg base CX0 (k+1) t.Hall__do_deed t.d_Hall__do_deed ["self", "deed", "course"] (spM K (cl t) (runM 3 3 (g_Hall__do_deed fn_Hall__unhear_if_there fn_has_box fn_Hall__do_deed_on_box))) :=
  fnM tx.F_Hall__do_deed sc_Hall__do_deed fun _ _ _ _ _ _ hr =>
    (@MSs.one _ _ _ _ (@MS.ifS _ _ _ _ _ _ _ _ _ (MT.pu fun _=>(T.eq hr (E.at (E.v 1) E.int) E.str)) (@MSs.one _ _ _ _ (MS.put (k:=0) (ME.v 2) (ME.pu fun _=>E.bl) tx.na_Course_is_kept)) (@MSs.one _ _ _ _ (@MS.ifS _ _ _ _ _ _ _ _ _ (MT.pu fun _=>(T.eq hr (E.at (E.v 1) E.int) E.str)) (@MSs.one _ _ _ _ (MS.put (k:=0) (ME.v 2) (ME.pu fun _=>E.bl) tx.na_Course_is_last_turn)) (@MSs.one _ _ _ _ (@MS.ifS _ _ _ _ _ _ _ _ _ (MT.pu fun _=>(T.eq hr (E.at (E.v 1) E.int) E.str)) (@MSs.one _ _ _ _ (MS.put (k:=0) (ME.v 2) (ME.pu fun _=>E.bl) tx.na_Course_is_ended)) (@MSs.one _ _ _ _ (@MS.ifS _ _ _ _ _ _ _ _ _ (MT.pu fun _=>(T.eq hr (E.at (E.v 1) E.int) E.str)) (@MSs.one _ _ _ _ (MS.exp (ME.meth (kc:=1) (ME.v 0) tx.cl_Hall tx.me_Hall__unhear_if_there G_Hall__unhear_if_there hr (by omega) tx.b_Hall__unhear_if_there (MA.cons (ME.pu fun _=>(E.at (E.v 1) E.int)) MA.nil)))) (@MSs.one _ _ _ _ (@MS.ifS _ _ _ _ _ _ _ _ _ (MT.pu fun _=>(T.val (E.call G_has_box hr (by omega) tx.m_has_box tx.F_has_box.kp tx.b_has_box (A.cons (E.fld 0) (A.cons (E.at (E.v 1) E.int) A.nil))))) (@MSs.one _ _ _ _ (MS.exp (ME.meth (kc:=1) (ME.v 0) tx.cl_Hall tx.me_Hall__do_deed_on_box G_Hall__do_deed_on_box hr (by omega) tx.b_Hall__do_deed_on_box (MA.cons (ME.pu fun _=>(E.v 1)) (MA.cons (ME.v 2) MA.nil))))) MSs.nil))))))))))
noncomputable abbrev N_Hall__rouse:List Str:=["self", "number", "course", "hearer", "deed"]
theorem sc_Hall__rouse:FnScope ["self", "number", "course", "hearer", "deed"] ["self", "number", "course"] (defScope s_Hall__rouse):=⟨rfl,rfl,rfl,by decide +kernel,rfl,by decide +kernel,by decide +kernel⟩
noncomputable def g_Hall__rouse (fn_Hall__unhear:List D→Sto→Option (D×Sto)) (fn_Hall__do_deed:List D→Sto→Option (D×Sto)):Wd→Option MOut :=
  (mSeq (mSet 3 (mAtC (mFld (mV 0) "hearers") (mP (eV 1))))
    (mSeq (mExp (mAppC (mFld (mV 2) "told") (mP (lA (fun ds=>if ds.length≤sizeLine then some (.tuple ds) else none) (aC (eV 1) (aC (l2 pIx (eV 3) (eC (.int 0))) (aC (l2 pIx (eV 3) (eC (.int 1))) (aC (l2 pIx (eV 3) (eC (.int 2))) aN))))))))
    (mSeq (mIf (tPv (bT (l2 pIx (eV 3) (eC (.int 4))))) (mExp (mMeth 1 "unhear" fn_Hall__unhear (mV 0) (maC (mP (eV 1)) maN))) mNx)
    (mFor [4] (iPu (lI asTu (l2 pIx (eV 3) (eC (.int 3))))) (tgN 4)
    (mExp (mMeth 1 "do_deed" fn_Hall__do_deed (mV 0) (maC (mP (eV 4)) (maC (mV 2) maN))))))))
set_option maxHeartbeats 4000000 in
theorem ok_Hall__rouse {k:Nat} (tx:Tx K mg t) {k_Hall__unhear:Nat} {fn_Hall__unhear:List D→Sto→Option (D×Sto)} (G_Hall__unhear:FnOk Pr w K mg base CX0 k_Hall__unhear t.Hall__unhear t.d_Hall__unhear ["self", "number"] (spM K (cl t) fn_Hall__unhear)) (hk_Hall__unhear:k_Hall__unhear≤k) {k_Hall__do_deed:Nat} {fn_Hall__do_deed:List D→Sto→Option (D×Sto)} (G_Hall__do_deed:FnOk Pr w K mg base CX0 k_Hall__do_deed t.Hall__do_deed t.d_Hall__do_deed ["self", "deed", "course"] (spM K (cl t) fn_Hall__do_deed)) (hk_Hall__do_deed:k_Hall__do_deed≤k):FnOk Pr w K mg base CX0 (k+1) t.Hall__rouse t.d_Hall__rouse ["self", "number", "course"] (spM K (cl t) (runM 3 5 (g_Hall__rouse fn_Hall__unhear fn_Hall__do_deed))) :=
  fnM tx.F_Hall__rouse sc_Hall__rouse fun _ _ _ _ _ _ hr =>
    (@MSs.cons _ _ _ _ _ _ (MS.set 3 sc_Hall__rouse.nd (ME.atC hr (ME.fld (ME.v 0)) (ME.pu fun _=>(E.v 1))))
    (@MSs.cons _ _ _ _ _ _ (MS.exp (ME.appC (ME.fld (ME.v 2)) (ME.pu fun _=>(E.tup (A.cons (E.v 1) (A.cons (E.at (E.v 3) (E.globI tx.c_BOX)) (A.cons (E.at (E.v 3) (E.globI tx.c_WORD)) (A.cons (E.at (E.v 3) (E.globI tx.c_IS_DOWN)) A.nil))))))))
    (@MSs.cons _ _ _ _ _ _ (@MS.ifS _ _ _ _ _ _ _ _ _ (MT.pu fun _=>(T.val (E.at (E.v 3) (E.globI tx.c_IS_ONCE)))) (@MSs.one _ _ _ _ (MS.exp (ME.meth (kc:=1) (ME.v 0) tx.cl_Hall tx.me_Hall__unhear G_Hall__unhear hr (by omega) tx.b_Hall__unhear (MA.cons (ME.pu fun _=>(E.v 1)) MA.nil)))) MSs.nil)
    (@MSs.one _ _ _ _ (@MS.for _ _ _ _ _ _ _ _ _ _ _ PassesOwn.never rfl (MI.pu fun _=>(I.tup (E.at (E.v 3) (E.globI tx.c_DEEDS)))) (pg_name (i:=4) sc_Hall__rouse.nd rfl (by first | exact Or.inl rfl | exact Or.inr rfl) ) (TgP.name (i:=4))
    (@MSs.one _ _ _ _ (MS.exp (ME.meth (kc:=1) (ME.v 0) tx.cl_Hall tx.me_Hall__do_deed G_Hall__do_deed hr (by omega) tx.b_Hall__do_deed (MA.cons (ME.pu fun _=>(E.v 4)) (MA.cons (ME.v 2) MA.nil))))) (fun _=>rfl))))))
noncomputable abbrev N_Hall__give_turn:List Str:=["self", "box", "is_down", "course", "number"]
theorem sc_Hall__give_turn:FnScope ["self", "box", "is_down", "course", "number"] ["self", "box", "is_down", "course"] (defScope s_Hall__give_turn):=⟨rfl,rfl,rfl,by decide +kernel,rfl,by decide +kernel,by decide +kernel⟩
noncomputable def g_Hall__give_turn (fn_Hall__numbers:List D→Sto→Option (D×Sto)) (fn_Hall__rouse:List D→Sto→Option (D×Sto)):Wd→Option MOut :=
  (mFor [4] (iM (mMeth 1 "numbers" fn_Hall__numbers (mV 0) (maC (mP (eV 1)) (maC (mP (eFld 3 "word")) (maC (mP (eV 2)) maN))))) (tgN 4)
    (mIf (tmAnd (mInC false (mP (eV 4)) (mFld (mV 0) "hearers")) (tPv (bNot (bT (eFld 3 "is_ended"))))) (mExp (mMeth 1 "rouse" fn_Hall__rouse (mV 0) (maC (mP (eV 4)) (maC (mV 3) maN)))) mNx))
set_option maxHeartbeats 4000000 in
theorem ok_Hall__give_turn {k:Nat} (tx:Tx K mg t) {k_Hall__numbers:Nat} {fn_Hall__numbers:List D→Sto→Option (D×Sto)} (G_Hall__numbers:FnOk Pr w K mg base CX0 k_Hall__numbers t.Hall__numbers t.d_Hall__numbers ["self", "name", "word", "is_down"] (spM K (cl t) fn_Hall__numbers)) (hk_Hall__numbers:k_Hall__numbers≤k) {k_Hall__rouse:Nat} {fn_Hall__rouse:List D→Sto→Option (D×Sto)} (G_Hall__rouse:FnOk Pr w K mg base CX0 k_Hall__rouse t.Hall__rouse t.d_Hall__rouse ["self", "number", "course"] (spM K (cl t) fn_Hall__rouse)) (hk_Hall__rouse:k_Hall__rouse≤k):FnOk Pr w K mg base CX0 (k+1) t.Hall__give_turn t.d_Hall__give_turn ["self", "box", "is_down", "course"] (spM K (cl t) (runM 4 5 (g_Hall__give_turn fn_Hall__numbers fn_Hall__rouse))) :=
  fnM tx.F_Hall__give_turn sc_Hall__give_turn fun _ _ _ _ _ _ hr =>
    (@MSs.one _ _ _ _ (@MS.for _ _ _ _ _ _ _ _ _ _ _ PassesOwn.never rfl (MI.list (ME.meth (kc:=1) (ME.v 0) tx.cl_Hall tx.me_Hall__numbers G_Hall__numbers hr (by omega) tx.b_Hall__numbers (MA.cons (ME.pu fun _=>(E.v 1)) (MA.cons (ME.pu fun _=>(E.fld 3)) (MA.cons (ME.pu fun _=>(E.v 2)) MA.nil))))) (pg_name (i:=4) sc_Hall__give_turn.nd rfl (by first | exact Or.inl rfl | exact Or.inr rfl) ) (TgP.name (i:=4))
    (@MSs.one _ _ _ _ (@MS.ifS _ _ _ _ _ _ _ _ _ (MTW.t (MTW.and (MT.inC hr (ME.pu fun _=>(E.v 4)) (ME.fld (ME.v 0))) (MTW.and1 (MT.pu fun _=>(T.not (T.val (E.fld 3))))))) (@MSs.one _ _ _ _ (MS.exp (ME.meth (kc:=1) (ME.v 0) tx.cl_Hall tx.me_Hall__rouse G_Hall__rouse hr (by omega) tx.b_Hall__rouse (MA.cons (ME.pu fun _=>(E.v 4)) (MA.cons (ME.v 3) MA.nil))))) MSs.nil)) (fun _=>rfl)))
noncomputable abbrev N_Hall__go_along:List Str:=["self", "name", "course", "path", "turns", "box", "is_down"]
theorem sc_Hall__go_along:FnScope ["self", "name", "course", "path", "turns", "box", "is_down"] ["self", "name", "course"] (defScope s_Hall__go_along):=⟨rfl,rfl,rfl,by decide +kernel,rfl,by decide +kernel,by decide +kernel⟩
noncomputable def g_Hall__go_along (fn_path_of:List PyData→Option PyData) (fn_has_box:List PyData→Option PyData) (fn_Hall__give_turn:List D→Sto→Option (D×Sto)):Wd→Option MOut :=
  (mSeq (mSet 3 (mP (lA fn_path_of (aC (eFld 0 "scene") (aC (eV 1) aN)))))
    (mSeq (mSet 4 (mP (l2 pAdd (oE (sComp [none] (lI asL (eV 3)) (tgN 0) tTrue (lA (fun ds=>if ds.length≤sizeLine then some (.tuple ds) else none) (aC (eV 0) (aC (eC (.bool true)) aN))))) (oE (sComp [none] (fun η=>((aC (eV 3) aN) η).bind rvS) (tgN 0) tTrue (lA (fun ds=>if ds.length≤sizeLine then some (.tuple ds) else none) (aC (eV 0) (aC (eC (.bool false)) aN))))))))
    (mSeq (mFor [5,6] (iPu (lI asL (eV 4))) (tgT (tgCons (tgN 5) (tgCons (tgN 6) tgNil)))
    (mIf (tPv (bAnd (bT (lA fn_has_box (aC (eFld 0 "scene") (aC (eV 5) aN)))) (bNot (bT (eFld 2 "is_last_turn"))))) (mExp (mMeth 1 "give_turn" fn_Hall__give_turn (mV 0) (maC (mP (eV 5)) (maC (mP (eV 6)) (maC (mV 2) maN))))) mNx))
    (mRet (mP (eFld 2 "is_kept"))))))
set_option maxHeartbeats 4000000 in
theorem ok_Hall__go_along {k:Nat} (tx:Tx K mg t) {k_path_of:Nat} {fn_path_of:List PyData→Option PyData} (G_path_of:FnOk Pr w K mg base CX0 k_path_of t.path_of t.d_path_of ["scene", "name"] (spP K fn_path_of)) (hk_path_of:k_path_of≤k) {k_has_box:Nat} {fn_has_box:List PyData→Option PyData} (G_has_box:FnOk Pr w K mg base CX0 k_has_box t.has_box t.d_has_box ["scene", "name"] (spP K fn_has_box)) (hk_has_box:k_has_box≤k) {k_Hall__give_turn:Nat} {fn_Hall__give_turn:List D→Sto→Option (D×Sto)} (G_Hall__give_turn:FnOk Pr w K mg base CX0 k_Hall__give_turn t.Hall__give_turn t.d_Hall__give_turn ["self", "box", "is_down", "course"] (spM K (cl t) fn_Hall__give_turn)) (hk_Hall__give_turn:k_Hall__give_turn≤k):FnOk Pr w K mg base CX0 (k+1) t.Hall__go_along t.d_Hall__go_along ["self", "name", "course"] (spM K (cl t) (runM 3 7 (g_Hall__go_along fn_path_of fn_has_box fn_Hall__give_turn))) :=
  fnM tx.F_Hall__go_along sc_Hall__go_along fun _ _ _ _ _ _ hr =>
    (@MSs.cons _ _ _ _ _ _ (MS.set 3 sc_Hall__go_along.nd (ME.pu fun _=>(E.call G_path_of hr (by omega) tx.m_path_of tx.F_path_of.kp tx.b_path_of (A.cons (E.fld 0) (A.cons (E.v 1) A.nil)))))
    (@MSs.cons _ _ _ _ _ _ (MS.set 4 sc_Hall__go_along.nd (ME.pu fun _=>(E.add (EO.toE (EO.comp (N':=["box"]) (mp:=[none]) rfl (CompSc.of' N_Hall__go_along (defScope s_Hall__go_along) rfl rfl (by decide +kernel)) (TgP.name (i:=0)) (by decide) (I.list (E.v 3)) (fun _ _ _=>⟨(pg_name (i:=0) (show (["box"]:List Str).Nodup by decide +kernel) rfl (Or.inl rfl) (.inr rfl)),Ts.nil,(E.tup (A.cons (E.v 0) (A.cons E.bl A.nil)))⟩))) (EO.toE (EO.comp (N':=["box"]) (mp:=[none]) rfl (CompSc.of' N_Hall__go_along (defScope s_Hall__go_along) rfl rfl (by decide +kernel)) (TgP.name (i:=0)) (by decide) (I.rev rfl tx.z_reversed (A.cons (E.v 3) A.nil)) (fun _ _ _=>⟨(pg_name (i:=0) (show (["box"]:List Str).Nodup by decide +kernel) rfl (Or.inl rfl) (.inr rfl)),Ts.nil,(E.tup (A.cons (E.v 0) (A.cons E.bl A.nil)))⟩))))))
    (@MSs.cons _ _ _ _ _ _ (@MS.for _ _ _ _ _ _ _ _ _ _ _ PassesOwn.never rfl (MI.pu fun _=>(I.list (E.v 4))) (pg_tup (n:=2) rfl (pgs_cons (pg_name (i:=5) sc_Hall__go_along.nd rfl (by first | exact Or.inl rfl | exact Or.inr rfl) ) (pgs_cons (pg_name (i:=6) sc_Hall__go_along.nd rfl (by first | exact Or.inl rfl | exact Or.inr rfl) ) pgs_nil))) (TgP.tup (n:=2) (TgsP.cons (TgP.name (i:=5)) (TgsP.cons (TgP.name (i:=6)) TgsP.nil)) (tg_len2))
    (@MSs.one _ _ _ _ (@MS.ifS _ _ _ _ _ _ _ _ _ (MT.pu fun _=>(TW.t (TW.and (T.val (E.call G_has_box hr (by omega) tx.m_has_box tx.F_has_box.kp tx.b_has_box (A.cons (E.fld 0) (A.cons (E.v 5) A.nil)))) (TW.and1 (T.not (T.val (E.fld 2))))))) (@MSs.one _ _ _ _ (MS.exp (ME.meth (kc:=1) (ME.v 0) tx.cl_Hall tx.me_Hall__give_turn G_Hall__give_turn hr (by omega) tx.b_Hall__give_turn (MA.cons (ME.pu fun _=>(E.v 5)) (MA.cons (ME.pu fun _=>(E.v 6)) (MA.cons (ME.v 2) MA.nil)))))) MSs.nil)) (fun _=>rfl))
    (@MSs.one _ _ _ _ (MS.ret (ME.pu fun _=>(E.fld 2)))))))
noncomputable abbrev N_Hall__call:List Str:=["self", "name", "word", "told", "is_kept"]
theorem sc_Hall__call:FnScope ["self", "name", "word", "told", "is_kept"] ["self", "name", "word"] (defScope s_Hall__call):=⟨rfl,rfl,rfl,by decide +kernel,rfl,by decide +kernel,by decide +kernel⟩
noncomputable def g_Hall__call (fn_Hall__go_along:List D→Sto→Option (D×Sto)) (fn_Course____init__:List D→Sto→Option (D×Sto)):Wd→Option MOut :=
  (mSeq (mSet 3 (mN (fun η=>(aN η).bind gL)))
    (mSeq (mSet 4 (mMeth 1 "go_along" fn_Hall__go_along (mV 0) (maC (mP (eV 1)) (maC (mMake 0 fn_Course____init__ (maC (mP (eV 2)) (maC (mP (eC (.int 0))) (maC (mV 3) maN)))) maN))))
    (mRet (mTupD (maC (mFz (mV 3)) (maC (mP (eV 4)) maN))))))
set_option maxHeartbeats 4000000 in
theorem ok_Hall__call {k:Nat} (tx:Tx K mg t) {k_Hall__go_along:Nat} {fn_Hall__go_along:List D→Sto→Option (D×Sto)} (G_Hall__go_along:FnOk Pr w K mg base CX0 k_Hall__go_along t.Hall__go_along t.d_Hall__go_along ["self", "name", "course"] (spM K (cl t) fn_Hall__go_along)) (hk_Hall__go_along:k_Hall__go_along≤k) {k_Course____init__:Nat} {fn_Course____init__:List D→Sto→Option (D×Sto)} (G_Course____init__:FnOk Pr w K mg base CX0 k_Course____init__ t.Course____init__ t.d_Course____init__ ["self", "word", "depth", "told"] (spM K (cl t) fn_Course____init__)) (hk_Course____init__:k_Course____init__+1≤k):FnOk Pr w K mg base CX0 (k+1) t.Hall__call t.d_Hall__call ["self", "name", "word"] (spM K (cl t) (runM 3 5 (g_Hall__call fn_Hall__go_along fn_Course____init__))) :=
  fnM tx.F_Hall__call sc_Hall__call fun _ _ _ _ _ _ hr =>
    (@MSs.cons _ _ _ _ _ _ (MS.set 3 sc_Hall__call.nd (ME.nw fun _=>(EO.lst A.nil)))
    (@MSs.cons _ _ _ _ _ _ (MS.set 4 sc_Hall__call.nd (ME.meth (kc:=1) (ME.v 0) tx.cl_Hall tx.me_Hall__go_along G_Hall__go_along hr (by omega) tx.b_Hall__go_along (MA.cons (ME.pu fun _=>(E.v 1)) (MA.cons (ME.make (kc:=0) tx.cl_Course tx.mk_Course G_Course____init__ hr (by omega) tx.mg_Course tx.b_Course____init__ (MA.cons (ME.pu fun _=>(E.v 2)) (MA.cons (ME.pu fun _=>E.int) (MA.cons (ME.v 3) MA.nil)))) MA.nil))))
    (@MSs.one _ _ _ _ (MS.ret (ME.tupM (MA.cons (ME.fz (ME.v 3)) (MA.cons (ME.pu fun _=>(E.v 4)) MA.nil)))))))
noncomputable abbrev N_law:List Str:=["_law_script", "_law_scene_here", "_law_hall", "_law_size", "_law_k", "_law_name", "_law_deeds", "_law_rows", "_law_is_kept", "_law_numbers", "_law_left", "_law_box_here"]
theorem sc_law:FnScope ["_law_script", "_law_scene_here", "_law_hall", "_law_size", "_law_k", "_law_name", "_law_deeds", "_law_rows", "_law_is_kept", "_law_numbers", "_law_left", "_law_box_here"] ["_law_script"] (defScope s_law):=⟨rfl,rfl,rfl,by decide +kernel,rfl,by decide +kernel,by decide +kernel⟩
noncomputable def g_law (fn__law_scene:List PyData→Option PyData) (fn_Hall____init__:List D→Sto→Option (D×Sto)) (fn__law_drawn:List PyData→Option PyData) (fn_Hall__hear:List D→Sto→Option (D×Sto)) (fn_Hall__call:List D→Sto→Option (D×Sto)) (fn_Hall__numbers:List D→Sto→Option (D×Sto)) (fn_Hall__unhear:List D→Sto→Option (D×Sto)):Wd→Option MOut :=
  (mSeq (mSet 1 (mP (lA fn__law_scene (aC (eV 0) (aC (eC (.int 0)) aN)))))
    (mSeq (mIf (tPv (bT (l2 pEq (eV 1) (lA (fun ds=>if ds.length≤sizeLine then some (.tuple ds) else none) aN)))) (mRet (mP (eC (.bool true)))) mNx)
    (mSeq (mSet 2 (mMake 1 fn_Hall____init__ (maC (mP (eV 1)) maN)))
    (mSeq (mSet 3 (mP (lA fn__law_drawn (aC (eV 0) (aC (eC (.int 100)) (aC (eC (.int 7)) aN))))))
    (mSeq (mFor [4] (iPu (fun η=>((aC (eV 3) aN) η).bind rng1)) (tgN 4)
    (mSeq (mSet 5 (mP (l2 pIx (l2 pIx (eV 1) (lA fn__law_drawn (aC (eV 0) (aC (l2 pAdd (eC (.int 101)) (l2 pMul (eC (.int 5)) (eV 4))) (aC (lA pLen (aC (eV 1) aN)) aN))))) (eC (.int 0)))))
    (mSeq (mSet 6 (mP (l2 pIx (oE (fun η=>((aC (lA (fun ds=>if ds.length≤sizeLine then some (.tuple ds) else none) aN) (aC (lA (fun ds=>if ds.length≤sizeLine then some (.tuple ds) else none) (aC (lA (fun ds=>if ds.length≤sizeLine then some (.tuple ds) else none) (aC (eC (.str "call")) (aC (eV 5) (aC (eC (.str "u")) aN)))) aN)) aN)) η).bind gL)) (lA fn__law_drawn (aC (eV 0) (aC (l2 pAdd (eC (.int 102)) (l2 pMul (eC (.int 5)) (eV 4))) (aC (eC (.int 2)) aN)))))))
    (mIf (mB (mOpL pNe (mMeth 1 "hear" fn_Hall__hear (mV 2) (maC (mP (eV 5)) (maC (mP (eC (.str "u"))) (maC (mP (l2 pEq (lA fn__law_drawn (aC (eV 0) (aC (l2 pAdd (eC (.int 103)) (l2 pMul (eC (.int 5)) (eV 4))) (aC (eC (.int 2)) aN)))) (eC (.int 0)))) (maC (mP (eV 6)) (maC (mP (eC (.bool true))) maN)))))) (mP (eV 4)))) (mRet (mP (eC (.bool false)))) mNx))))
    (mSeq (mSet 5 (mP (l2 pIx (l2 pIx (eV 1) (lA fn__law_drawn (aC (eV 0) (aC (eC (.int 200)) (aC (lA pLen (aC (eV 1) aN)) aN))))) (eC (.int 0)))))
    (mSeq (mIf (mB (mOpL pNe (mMeth 1 "call" fn_Hall__call (mV 2) (maC (mP (eV 5)) (maC (mP (eC (.str "v"))) maN))) (mP (lA (fun ds=>if ds.length≤sizeLine then some (.tuple ds) else none) (aC (oE (fun η=>(aN η).bind gL)) (aC (eC (.bool false)) aN)))))) (mRet (mP (eC (.bool false)))) mNx)
    (mSeq (mUnp [7,8] (mMeth 1 "call" fn_Hall__call (mV 2) (maC (mP (eV 5)) (maC (mP (eC (.str "u"))) maN))) (tgT (tgCons (tgN 7) (tgCons (tgN 8) tgNil))))
    (mSeq (mSet 9 (mC (sComp [none] (lI asL (eV 7)) (tgN 0) tTrue (l2 pIx (eV 0) (eC (.int 0))))))
    (mSeq (mIf (tmOr (tPv (bT (eV 8))) (tmOr (tPv (bT (l2 pNe (lA pLenSet (aC (eV 9) aN)) (lA pLen (aC (eV 9) aN))))) (mB (mOpL pNe (mMeth 1 "call" fn_Hall__call (mV 2) (maC (mP (eV 5)) (maC (mP (eC (.str "u"))) maN))) (mP (lA (fun ds=>if ds.length≤sizeLine then some (.tuple ds) else none) (aC (oE (fun η=>(aN η).bind gL)) (aC (eC (.bool false)) aN)))))))) (mRet (mP (eC (.bool false)))) mNx)
    (mSeq (mSet 10 (mP (oE (fun η=>(aN η).bind gL))))
    (mSeq (mFor [11] (iPu (lI asTu (eV 1))) (tgN 11)
    (mSet 10 (mOp pAdd (mOp pAdd (mP (eV 10)) (mMeth 1 "numbers" fn_Hall__numbers (mV 2) (maC (mP (l2 pIx (eV 11) (eC (.int 0)))) (maC (mP (eC (.str "u"))) (maC (mP (eC (.bool true))) maN))))) (mMeth 1 "numbers" fn_Hall__numbers (mV 2) (maC (mP (l2 pIx (eV 11) (eC (.int 0)))) (maC (mP (eC (.str "u"))) (maC (mP (eC (.bool false))) maN)))))))
    (mSeq (mIf (tPv (bT (l2 pNe (lA pSort (aC (l2 pAdd (eV 10) (eV 9)) aN)) (oE (fun η=>((aC (eV 3) aN) η).bind lrS))))) (mRet (mP (eC (.bool false)))) mNx)
    (mSeq (mIf (mB (mOpL pNe (mMeth 1 "hear" fn_Hall__hear (mV 2) (maC (mP (eV 5)) (maC (mP (eC (.str "u"))) (maC (mP (eC (.bool true))) (maC (mP (lA (fun ds=>if ds.length≤sizeLine then some (.tuple ds) else none) aN)) (maC (mP (eC (.bool false))) maN)))))) (mP (eV 3)))) (mRet (mP (eC (.bool false)))) mNx)
    (mSeq (mExp (mMeth 1 "unhear" fn_Hall__unhear (mV 2) (maC (mP (eV 3)) maN)))
    (mSeq (mIf (mB (mOpL pNe (mMeth 1 "hear" fn_Hall__hear (mV 2) (maC (mP (eV 5)) (maC (mP (eC (.str "w"))) (maC (mP (eC (.bool false))) (maC (mP (lA (fun ds=>if ds.length≤sizeLine then some (.tuple ds) else none) aN)) (maC (mP (eC (.bool true))) maN)))))) (mP (l2 pAdd (eV 3) (eC (.int 1)))))) (mRet (mP (eC (.bool false)))) mNx)
    (mRet (mOpL pEq (mOp pIx (mMeth 1 "call" fn_Hall__call (mV 2) (maC (mP (eV 5)) (maC (mP (eC (.str "w"))) maN))) (mP (eC (.int 0)))) (mP (oE (fun η=>((aC (lA (fun ds=>if ds.length≤sizeLine then some (.tuple ds) else none) (aC (l2 pAdd (eV 3) (eC (.int 1))) (aC (eV 5) (aC (eC (.str "w")) (aC (eC (.bool false)) aN))))) aN) η).bind gL)))))))))))))))))))))
set_option maxHeartbeats 4000000 in
theorem ok_law {k:Nat} (tx:Tx K mg t) {k__law_scene:Nat} {fn__law_scene:List PyData→Option PyData} (G__law_scene:FnOk Pr w K mg base CX0 k__law_scene t._law_scene t.d__law_scene ["_law_script", "_law_at"] (spP K fn__law_scene)) (hk__law_scene:k__law_scene≤k) {k_Hall____init__:Nat} {fn_Hall____init__:List D→Sto→Option (D×Sto)} (G_Hall____init__:FnOk Pr w K mg base CX0 k_Hall____init__ t.Hall____init__ t.d_Hall____init__ ["self", "scene"] (spM K (cl t) fn_Hall____init__)) (hk_Hall____init__:k_Hall____init__+1≤k) {k__law_drawn:Nat} {fn__law_drawn:List PyData→Option PyData} (G__law_drawn:FnOk Pr w K mg base CX0 k__law_drawn t._law_drawn t.d__law_drawn ["_law_script", "_law_k", "_law_many"] (spP K fn__law_drawn)) (hk__law_drawn:k__law_drawn≤k) {k_Hall__hear:Nat} {fn_Hall__hear:List D→Sto→Option (D×Sto)} (G_Hall__hear:FnOk Pr w K mg base CX0 k_Hall__hear t.Hall__hear t.d_Hall__hear ["self", "name", "word", "is_down", "deeds", "is_once"] (spM K (cl t) fn_Hall__hear)) (hk_Hall__hear:k_Hall__hear≤k) {k_Hall__call:Nat} {fn_Hall__call:List D→Sto→Option (D×Sto)} (G_Hall__call:FnOk Pr w K mg base CX0 k_Hall__call t.Hall__call t.d_Hall__call ["self", "name", "word"] (spM K (cl t) fn_Hall__call)) (hk_Hall__call:k_Hall__call≤k) {k_Hall__numbers:Nat} {fn_Hall__numbers:List D→Sto→Option (D×Sto)} (G_Hall__numbers:FnOk Pr w K mg base CX0 k_Hall__numbers t.Hall__numbers t.d_Hall__numbers ["self", "name", "word", "is_down"] (spM K (cl t) fn_Hall__numbers)) (hk_Hall__numbers:k_Hall__numbers≤k) {k_Hall__unhear:Nat} {fn_Hall__unhear:List D→Sto→Option (D×Sto)} (G_Hall__unhear:FnOk Pr w K mg base CX0 k_Hall__unhear t.Hall__unhear t.d_Hall__unhear ["self", "number"] (spM K (cl t) fn_Hall__unhear)) (hk_Hall__unhear:k_Hall__unhear≤k):FnOk Pr w K mg base CX0 (k+1) t.law t.d_law ["_law_script"] (spM K (cl t) (runM 1 12 (g_law fn__law_scene fn_Hall____init__ fn__law_drawn fn_Hall__hear fn_Hall__call fn_Hall__numbers fn_Hall__unhear))) :=
  fnM tx.F_law sc_law fun _ _ _ _ _ _ hr =>
    (@MSs.cons _ _ _ _ _ _ (MS.set 1 sc_law.nd (ME.pu fun _=>(E.call G__law_scene hr (by omega) tx.m__law_scene tx.F__law_scene.kp tx.b__law_scene (A.cons (E.v 0) (A.cons E.int A.nil)))))
    (@MSs.cons _ _ _ _ _ _ (@MS.ifS _ _ _ _ _ _ _ _ _ (MT.pu fun _=>(T.eq hr (E.v 1) (E.tup A.nil))) (@MSs.one _ _ _ _ (MS.ret (ME.pu fun _=>E.bl))) MSs.nil)
    (@MSs.cons _ _ _ _ _ _ (MS.set 2 sc_law.nd (ME.make (kc:=1) tx.cl_Hall tx.mk_Hall G_Hall____init__ hr (by omega) tx.mg_Hall tx.b_Hall____init__ (MA.cons (ME.pu fun _=>(E.v 1)) MA.nil)))
    (@MSs.cons _ _ _ _ _ _ (MS.set 3 sc_law.nd (ME.pu fun _=>(E.call G__law_drawn hr (by omega) tx.m__law_drawn tx.F__law_drawn.kp tx.b__law_drawn (A.cons (E.v 0) (A.cons E.int (A.cons E.int A.nil))))))
    (@MSs.cons _ _ _ _ _ _ (@MS.for _ _ _ _ _ _ _ _ _ _ _ PassesOwn.never rfl (MI.pu fun _=>(I.rng1 tx.z_range (A.cons (E.v 3) A.nil))) (pg_name (i:=4) sc_law.nd rfl (by first | exact Or.inl rfl | exact Or.inr rfl) ) (TgP.name (i:=4))
    (@MSs.cons _ _ _ _ _ _ (MS.set 5 sc_law.nd (ME.pu fun _=>(E.at (E.at (E.v 1) (E.call G__law_drawn hr (by omega) tx.m__law_drawn tx.F__law_drawn.kp tx.b__law_drawn (A.cons (E.v 0) (A.cons (E.add E.int (E.mul E.int (E.v 4))) (A.cons (E.len tx.z_len (A.cons (E.v 1) A.nil)) A.nil))))) E.int)))
    (@MSs.cons _ _ _ _ _ _ (MS.set 6 sc_law.nd (ME.pu fun _=>(E.at (EO.toE (EO.lst (A.cons (E.tup A.nil) (A.cons (E.tup (A.cons (E.tup (A.cons E.str (A.cons (E.v 5) (A.cons E.str A.nil)))) A.nil)) A.nil)))) (E.call G__law_drawn hr (by omega) tx.m__law_drawn tx.F__law_drawn.kp tx.b__law_drawn (A.cons (E.v 0) (A.cons (E.add E.int (E.mul E.int (E.v 4))) (A.cons E.int A.nil)))))))
    (@MSs.one _ _ _ _ (@MS.ifS _ _ _ _ _ _ _ _ _ (MT.ne hr (ME.meth (kc:=1) (ME.v 2) tx.cl_Hall tx.me_Hall__hear G_Hall__hear hr (by omega) tx.b_Hall__hear (MA.cons (ME.pu fun _=>(E.v 5)) (MA.cons (ME.pu fun _=>E.str) (MA.cons (ME.pu fun _=>(E.eq hr (E.call G__law_drawn hr (by omega) tx.m__law_drawn tx.F__law_drawn.kp tx.b__law_drawn (A.cons (E.v 0) (A.cons (E.add E.int (E.mul E.int (E.v 4))) (A.cons E.int A.nil)))) E.int)) (MA.cons (ME.pu fun _=>(E.v 6)) (MA.cons (ME.pu fun _=>E.bl) MA.nil)))))) (ME.pu fun _=>(E.v 4))) (@MSs.one _ _ _ _ (MS.ret (ME.pu fun _=>E.bl))) MSs.nil)))) (fun _=>rfl))
    (@MSs.cons _ _ _ _ _ _ (MS.set 5 sc_law.nd (ME.pu fun _=>(E.at (E.at (E.v 1) (E.call G__law_drawn hr (by omega) tx.m__law_drawn tx.F__law_drawn.kp tx.b__law_drawn (A.cons (E.v 0) (A.cons E.int (A.cons (E.len tx.z_len (A.cons (E.v 1) A.nil)) A.nil))))) E.int)))
    (@MSs.cons _ _ _ _ _ _ (@MS.ifS _ _ _ _ _ _ _ _ _ (MT.ne hr (ME.meth (kc:=1) (ME.v 2) tx.cl_Hall tx.me_Hall__call G_Hall__call hr (by omega) tx.b_Hall__call (MA.cons (ME.pu fun _=>(E.v 5)) (MA.cons (ME.pu fun _=>E.str) MA.nil))) (ME.pu fun _=>(E.tup (A.cons (EO.toE (EO.lst A.nil)) (A.cons E.bl A.nil))))) (@MSs.one _ _ _ _ (MS.ret (ME.pu fun _=>E.bl))) MSs.nil)
    (@MSs.cons _ _ _ _ _ _ (MS.unp (ME.meth (kc:=1) (ME.v 2) tx.cl_Hall tx.me_Hall__call G_Hall__call hr (by omega) tx.b_Hall__call (MA.cons (ME.pu fun _=>(E.v 5)) (MA.cons (ME.pu fun _=>E.str) MA.nil))) (pg_tup (n:=2) rfl (pgs_cons (pg_name (i:=7) sc_law.nd rfl (by first | exact Or.inl rfl | exact Or.inr rfl) ) (pgs_cons (pg_name (i:=8) sc_law.nd rfl (by first | exact Or.inl rfl | exact Or.inr rfl) ) pgs_nil))) (TgP.tup (n:=2) (TgsP.cons (TgP.name (i:=7)) (TgsP.cons (TgP.name (i:=8)) TgsP.nil)) (tg_len2)))
    (@MSs.cons _ _ _ _ _ _ (@MS.setC _ _ _ _ _ _ _ ["_law_row"] [none] _ _ _ _ _ _ _ 9 _ _ _ rfl sc_law.nd (CompSc.of' N_law (defScope s_law) rfl rfl (by decide +kernel)) (TgP.name (i:=0)) (by decide) (fun _=>(I.list (E.v 7))) (fun _ _ _ _=>⟨(pg_name (i:=0) (show (["_law_row"]:List Str).Nodup by decide +kernel) rfl (Or.inl rfl) (.inr rfl)),Ts.nil,(E.at (E.v 0) E.int)⟩) rfl rfl rfl (fun _=>rfl))
    (@MSs.cons _ _ _ _ _ _ (@MS.ifS _ _ _ _ _ _ _ _ _ (MTW.t (MTW.or (MT.pu fun _=>(T.val (E.v 8))) (MTW.or (MT.pu fun _=>(T.ne hr (E.lenSet hr tx.z_len tx.z_set (A.cons (E.v 9) A.nil)) (E.len tx.z_len (A.cons (E.v 9) A.nil)))) (MTW.or1 (MT.ne hr (ME.meth (kc:=1) (ME.v 2) tx.cl_Hall tx.me_Hall__call G_Hall__call hr (by omega) tx.b_Hall__call (MA.cons (ME.pu fun _=>(E.v 5)) (MA.cons (ME.pu fun _=>E.str) MA.nil))) (ME.pu fun _=>(E.tup (A.cons (EO.toE (EO.lst A.nil)) (A.cons E.bl A.nil))))))))) (@MSs.one _ _ _ _ (MS.ret (ME.pu fun _=>E.bl))) MSs.nil)
    (@MSs.cons _ _ _ _ _ _ (MS.set 10 sc_law.nd (ME.pu fun _=>(EO.toE (EO.lst A.nil))))
    (@MSs.cons _ _ _ _ _ _ (@MS.for _ _ _ _ _ _ _ _ _ _ _ PassesOwn.never rfl (MI.pu fun _=>(I.tup (E.v 1))) (pg_name (i:=11) sc_law.nd rfl (by first | exact Or.inl rfl | exact Or.inr rfl) ) (TgP.name (i:=11))
    (@MSs.one _ _ _ _ (MS.set 10 sc_law.nd (ME.add (ME.add (ME.pu fun _=>(E.v 10)) (ME.meth (kc:=1) (ME.v 2) tx.cl_Hall tx.me_Hall__numbers G_Hall__numbers hr (by omega) tx.b_Hall__numbers (MA.cons (ME.pu fun _=>(E.at (E.v 11) E.int)) (MA.cons (ME.pu fun _=>E.str) (MA.cons (ME.pu fun _=>E.bl) MA.nil))))) (ME.meth (kc:=1) (ME.v 2) tx.cl_Hall tx.me_Hall__numbers G_Hall__numbers hr (by omega) tx.b_Hall__numbers (MA.cons (ME.pu fun _=>(E.at (E.v 11) E.int)) (MA.cons (ME.pu fun _=>E.str) (MA.cons (ME.pu fun _=>E.bl) MA.nil))))))) (fun _=>rfl))
    (@MSs.cons _ _ _ _ _ _ (@MS.ifS _ _ _ _ _ _ _ _ _ (MT.pu fun _=>(T.ne hr (E.sorted tx.z_sorted (A.cons (E.add (E.v 10) (E.v 9)) A.nil)) (EO.toE (EO.lrng hr tx.z_list tx.z_range (A.cons (E.v 3) A.nil))))) (@MSs.one _ _ _ _ (MS.ret (ME.pu fun _=>E.bl))) MSs.nil)
    (@MSs.cons _ _ _ _ _ _ (@MS.ifS _ _ _ _ _ _ _ _ _ (MT.ne hr (ME.meth (kc:=1) (ME.v 2) tx.cl_Hall tx.me_Hall__hear G_Hall__hear hr (by omega) tx.b_Hall__hear (MA.cons (ME.pu fun _=>(E.v 5)) (MA.cons (ME.pu fun _=>E.str) (MA.cons (ME.pu fun _=>E.bl) (MA.cons (ME.pu fun _=>(E.tup A.nil)) (MA.cons (ME.pu fun _=>E.bl) MA.nil)))))) (ME.pu fun _=>(E.v 3))) (@MSs.one _ _ _ _ (MS.ret (ME.pu fun _=>E.bl))) MSs.nil)
    (@MSs.cons _ _ _ _ _ _ (MS.exp (ME.meth (kc:=1) (ME.v 2) tx.cl_Hall tx.me_Hall__unhear G_Hall__unhear hr (by omega) tx.b_Hall__unhear (MA.cons (ME.pu fun _=>(E.v 3)) MA.nil)))
    (@MSs.cons _ _ _ _ _ _ (@MS.ifS _ _ _ _ _ _ _ _ _ (MT.ne hr (ME.meth (kc:=1) (ME.v 2) tx.cl_Hall tx.me_Hall__hear G_Hall__hear hr (by omega) tx.b_Hall__hear (MA.cons (ME.pu fun _=>(E.v 5)) (MA.cons (ME.pu fun _=>E.str) (MA.cons (ME.pu fun _=>E.bl) (MA.cons (ME.pu fun _=>(E.tup A.nil)) (MA.cons (ME.pu fun _=>E.bl) MA.nil)))))) (ME.pu fun _=>(E.add (E.v 3) E.int))) (@MSs.one _ _ _ _ (MS.ret (ME.pu fun _=>E.bl))) MSs.nil)
    (@MSs.one _ _ _ _ (MS.ret (ME.eq hr (ME.at (ME.meth (kc:=1) (ME.v 2) tx.cl_Hall tx.me_Hall__call G_Hall__call hr (by omega) tx.b_Hall__call (MA.cons (ME.pu fun _=>(E.v 5)) (MA.cons (ME.pu fun _=>E.str) MA.nil))) (ME.pu fun _=>E.int)) (ME.pu fun _=>(EO.toE (EO.lst (A.cons (E.tup (A.cons (E.add (E.v 3) E.int) (A.cons (E.v 5) (A.cons E.str (A.cons E.bl A.nil))))) A.nil)))))))))))))))))))))))
noncomputable def F__law_cell:List PyData→Option PyData:=runF 2 2 (g__law_cell )
theorem G__law_cell (tx:Tx K mg t):FnOk Pr w K mg base CX0 1 t._law_cell t.d__law_cell ["_law_script", "_law_k"] (spP K F__law_cell):=ok__law_cell (k:=0) tx 
noncomputable def F__law_drawn:List PyData→Option PyData:=runF 3 4 (g__law_drawn F__law_cell)
theorem G__law_drawn (tx:Tx K mg t):FnOk Pr w K mg base CX0 2 t._law_drawn t.d__law_drawn ["_law_script", "_law_k", "_law_many"] (spP K F__law_drawn):=ok__law_drawn (k:=1) tx (G__law_cell tx) (by omega)
noncomputable def F__law_scene:List PyData→Option PyData:=runF 2 13 (g__law_scene F__law_drawn)
theorem G__law_scene (tx:Tx K mg t):FnOk Pr w K mg base CX0 3 t._law_scene t.d__law_scene ["_law_script", "_law_at"] (spP K F__law_scene):=ok__law_scene (k:=2) tx (G__law_drawn tx) (by omega)
noncomputable def F_Hall____init__:List D→Sto→Option (D×Sto):=runM 2 2 (g_Hall____init__ )
theorem G_Hall____init__ (tx:Tx K mg t):FnOk Pr w K mg base CX0 1 t.Hall____init__ t.d_Hall____init__ ["self", "scene"] (spM K (cl t) F_Hall____init__):=ok_Hall____init__ (k:=0) tx 
noncomputable def F_box_of:List PyData→Option PyData:=runF 2 3 (g_box_of )
theorem G_box_of (tx:Tx K mg t):FnOk Pr w K mg base CX0 1 t.box_of t.d_box_of ["scene", "name"] (spP K F_box_of):=ok_box_of (k:=0) tx 
noncomputable def F_Hall__hear:List D→Sto→Option (D×Sto):=runM 6 7 (g_Hall__hear F_box_of)
theorem G_Hall__hear (tx:Tx K mg t):FnOk Pr w K mg base CX0 2 t.Hall__hear t.d_Hall__hear ["self", "name", "word", "is_down", "deeds", "is_once"] (spM K (cl t) F_Hall__hear):=ok_Hall__hear (k:=1) tx (G_box_of tx) (by omega)
noncomputable def F_path_of:Nat→List PyData→Option PyData
  | 0=>fun _=>none
  | n+1=>runF 2 3 (g_path_of F_box_of (F_path_of n))
theorem G_path_of (tx:Tx K mg t):∀ n:Nat,FnOk Pr w K mg base CX0 (n+1) t.path_of t.d_path_of ["scene", "name"] (spP K (F_path_of n))
  | 0=>fn0
  | n+1=>(ok_path_of (k:=n+1) tx (G_box_of tx) (by omega) (G_path_of tx n) (by omega)).mono (by omega)
noncomputable def F_has_box:List PyData→Option PyData:=runF 2 2 (g_has_box )
theorem G_has_box (tx:Tx K mg t):FnOk Pr w K mg base CX0 1 t.has_box t.d_has_box ["scene", "name"] (spP K F_has_box):=ok_has_box (k:=0) tx 
noncomputable def F_Hall__numbers:List D→Sto→Option (D×Sto):=runM 4 5 (g_Hall__numbers )
theorem G_Hall__numbers (tx:Tx K mg t):FnOk Pr w K mg base CX0 1 t.Hall__numbers t.d_Hall__numbers ["self", "name", "word", "is_down"] (spM K (cl t) F_Hall__numbers):=ok_Hall__numbers (k:=0) tx 
noncomputable def F_Hall__unhear:List D→Sto→Option (D×Sto):=runM 2 2 (g_Hall__unhear )
theorem G_Hall__unhear (tx:Tx K mg t):FnOk Pr w K mg base CX0 1 t.Hall__unhear t.d_Hall__unhear ["self", "number"] (spM K (cl t) F_Hall__unhear):=ok_Hall__unhear (k:=0) tx 
noncomputable def F_Hall__unhear_if_there:List D→Sto→Option (D×Sto):=fun _ _=>none
theorem G_Hall__unhear_if_there (_:Tx K mg t):FnOk Pr w K mg base CX0 1 t.Hall__unhear_if_there t.d_Hall__unhear_if_there ["self", "number"] (spM K (cl t) F_Hall__unhear_if_there):=fnM0
noncomputable def F_Hall__cut:List D→Sto→Option (D×Sto):=fun _ _=>none
theorem G_Hall__cut (_:Tx K mg t):FnOk Pr w K mg base CX0 1 t.Hall__cut t.d_Hall__cut ["self", "name"] (spM K (cl t) F_Hall__cut):=fnM0
noncomputable def F_Course____init__:List D→Sto→Option (D×Sto):=runM 4 4 (g_Course____init__ )
theorem G_Course____init__ (tx:Tx K mg t):FnOk Pr w K mg base CX0 1 t.Course____init__ t.d_Course____init__ ["self", "word", "depth", "told"] (spM K (cl t) F_Course____init__):=ok_Course____init__ (k:=0) tx 
noncomputable def H_Hall__do_deed_on_box (fh:List D→Sto→Option (D×Sto)):List D→Sto→Option (D×Sto):=runM 3 3 (g_Hall__do_deed_on_box F_Hall__hear F_Hall__cut fh F_Course____init__)
theorem HG_Hall__do_deed_on_box {n:Nat} {fh:List D→Sto→Option (D×Sto)} (tx:Tx K mg t) (Gh:FnOk Pr w K mg base CX0 (30+n) t.Hall__go_along t.d_Hall__go_along ["self", "name", "course"] (spM K (cl t) fh)):FnOk Pr w K mg base CX0 (30+n+2) t.Hall__do_deed_on_box t.d_Hall__do_deed_on_box ["self", "deed", "course"] (spM K (cl t) (H_Hall__do_deed_on_box fh)):=ok_Hall__do_deed_on_box (k:=30+n+1) tx (G_Hall__hear tx) (by omega) (G_Hall__cut tx) (by omega) Gh (by omega) (G_Course____init__ tx) (by omega)
noncomputable def H_Hall__do_deed (fh:List D→Sto→Option (D×Sto)):List D→Sto→Option (D×Sto):=runM 3 3 (g_Hall__do_deed F_Hall__unhear_if_there F_has_box (H_Hall__do_deed_on_box fh))
theorem HG_Hall__do_deed {n:Nat} {fh:List D→Sto→Option (D×Sto)} (tx:Tx K mg t) (Gh:FnOk Pr w K mg base CX0 (30+n) t.Hall__go_along t.d_Hall__go_along ["self", "name", "course"] (spM K (cl t) fh)):FnOk Pr w K mg base CX0 (30+n+3) t.Hall__do_deed t.d_Hall__do_deed ["self", "deed", "course"] (spM K (cl t) (H_Hall__do_deed fh)):=ok_Hall__do_deed (k:=30+n+2) tx (G_Hall__unhear_if_there tx) (by omega) (G_has_box tx) (by omega) (HG_Hall__do_deed_on_box (n:=n) tx Gh) (by omega)
noncomputable def H_Hall__rouse (fh:List D→Sto→Option (D×Sto)):List D→Sto→Option (D×Sto):=runM 3 5 (g_Hall__rouse F_Hall__unhear (H_Hall__do_deed fh))
theorem HG_Hall__rouse {n:Nat} {fh:List D→Sto→Option (D×Sto)} (tx:Tx K mg t) (Gh:FnOk Pr w K mg base CX0 (30+n) t.Hall__go_along t.d_Hall__go_along ["self", "name", "course"] (spM K (cl t) fh)):FnOk Pr w K mg base CX0 (30+n+4) t.Hall__rouse t.d_Hall__rouse ["self", "number", "course"] (spM K (cl t) (H_Hall__rouse fh)):=ok_Hall__rouse (k:=30+n+3) tx (G_Hall__unhear tx) (by omega) (HG_Hall__do_deed (n:=n) tx Gh) (by omega)
noncomputable def H_Hall__give_turn (fh:List D→Sto→Option (D×Sto)):List D→Sto→Option (D×Sto):=runM 4 5 (g_Hall__give_turn F_Hall__numbers (H_Hall__rouse fh))
theorem HG_Hall__give_turn {n:Nat} {fh:List D→Sto→Option (D×Sto)} (tx:Tx K mg t) (Gh:FnOk Pr w K mg base CX0 (30+n) t.Hall__go_along t.d_Hall__go_along ["self", "name", "course"] (spM K (cl t) fh)):FnOk Pr w K mg base CX0 (30+n+5) t.Hall__give_turn t.d_Hall__give_turn ["self", "box", "is_down", "course"] (spM K (cl t) (H_Hall__give_turn fh)):=ok_Hall__give_turn (k:=30+n+4) tx (G_Hall__numbers tx) (by omega) (HG_Hall__rouse (n:=n) tx Gh) (by omega)
noncomputable def F_Hall__go_along:Nat→List D→Sto→Option (D×Sto)
  | 0=>fun _ _=>none
  | n+1=>runM 3 7 (g_Hall__go_along (F_path_of 13) F_has_box (H_Hall__give_turn (F_Hall__go_along n)))
theorem G_Hall__go_along (tx:Tx K mg t):∀ n:Nat,FnOk Pr w K mg base CX0 (30+6*n) t.Hall__go_along t.d_Hall__go_along ["self", "name", "course"] (spM K (cl t) (F_Hall__go_along n))
  | 0=>fnM0
  | n+1=>(ok_Hall__go_along (k:=30+6*n+5) tx (G_path_of tx 13) (by omega) (G_has_box tx) (by omega) (HG_Hall__give_turn (n:=6*n) tx (G_Hall__go_along tx n)) (by omega)).mono (by omega)
noncomputable def F_Hall__call:List D→Sto→Option (D×Sto):=runM 3 5 (g_Hall__call (F_Hall__go_along 5) F_Course____init__)
theorem G_Hall__call (tx:Tx K mg t):FnOk Pr w K mg base CX0 61 t.Hall__call t.d_Hall__call ["self", "name", "word"] (spM K (cl t) F_Hall__call):=ok_Hall__call (k:=60) tx (G_Hall__go_along tx 5) (by omega) (G_Course____init__ tx) (by omega)
noncomputable def F_law:List D→Sto→Option (D×Sto):=runM 1 12 (g_law F__law_scene F_Hall____init__ F__law_drawn F_Hall__hear F_Hall__call F_Hall__numbers F_Hall__unhear)
theorem G_law (tx:Tx K mg t):FnOk Pr w K mg base CX0 62 t.law t.d_law ["_law_script"] (spM K (cl t) F_law):=ok_law (k:=61) tx (G__law_scene tx) (by omega) (G_Hall____init__ tx) (by omega) (G__law_drawn tx) (by omega) (G_Hall__hear tx) (by omega) (G_Hall__call tx) (by omega) (G_Hall__numbers tx) (by omega) (G_Hall__unhear tx) (by omega)
end
end K15
namespace K15
noncomputable def chN (st:List (Nat×Nat)) (q:Nat):List Nat:=(st.filter fun x=>decide (x.2=q)).map (·.1)
noncomputable def parN:List (Nat×Nat)→Nat→Option Nat
  | [],_=>none
  | x::r,q=>if x.1=q then some x.2 else parN r q
noncomputable def catN (f:Nat→Option (List Nat)):List Nat→Option (List Nat)
  | []=>some []
  | x::r=>(f x).bind fun a=>(catN f r).bind fun b=>some (a++b)
noncomputable def pthN (st:List (Nat×Nat)):Nat→Nat→Option (List Nat)
  | 0,_=>none
  | n+1,q=>(parN st q).bind fun p=>if p=0 then some [q] else (pthN st n p).bind fun l=>if l.length+1≤3000000 then some (l++[q]) else none
noncomputable def blwN (st:List (Nat×Nat)):Nat→Nat→Option (List Nat)
  | 0,_=>none
  | n+1,q=>(parN st q).bind fun _=>(catN (blwN st n) (chN st q)).bind fun r=>if r.length+1≤3000000 then some (q::r) else none
noncomputable def pntN (st:List (Nat×Nat)):Option (List Nat):=(catN (blwN st 13) (chN st 0)).bind fun r=>if r.length≤3000000 then some r else none
noncomputable def stF (ps:List Nat):List (Nat×Nat):=(List.range ps.length).map fun i=>(i+1,ps.getD i 0)
noncomputable def par (ps:List Nat) (q:Nat):Nat:=ps.getD (q - 1) 0
structure PsOk (ps:List Nat):Prop where
  len:ps.length≤7
  par:∀ i,ps.getD i 0≤i
noncomputable def pF (ps:List Nat):Nat→Nat→List Nat
  | 0,_=>[]
  | n+1,q=>if q=0 then [] else pF ps n (par ps q)++[q]
noncomputable def P (ps:List Nat) (q:Nat):List Nat:=pF ps q q
noncomputable def blF (st:List (Nat×Nat)):Nat→Nat→List Nat
  | 0,_=>[]
  | n+1,q=>q::(chN st q).flatMap (blF st n)
noncomputable def kids (st:List (Nat×Nat)) (n a:Nat):List Nat:=(chN st a).flatMap (blF st n)
theorem flat_len {α β:Type} {f:α→List β} {b:Nat}:∀ {l:List α},(∀ x∈l,(f x).length≤b)→(l.flatMap f).length≤l.length*b
  | [],_=>by simp
  | x::r,h=>by
    have h1:=h x List.mem_cons_self
    have h2:=flat_len (l:=r) fun y hy=>h y (List.mem_cons_of_mem _ hy)
    rw [List.flatMap_cons,List.length_append,List.length_cons,Nat.add_mul]
    omega
section
variable {ps:List Nat} (ok:PsOk ps)
theorem pF_zero (n:Nat):pF ps n 0=[]:=by
  cases n with
  | zero=>rfl
  | succ n=>rfl
theorem par_lt (ok:PsOk ps) {q:Nat} (h:1≤q):par ps q < q:=by
  have:=ok.par (q - 1)
  unfold par
  omega
include ok
theorem pF_st:∀ q n,q≤n→pF ps n q=pF ps q q:=by
  intro q
  induction q using Nat.strongRecOn with
  | _ q ih =>
    intro n hn
    cases q with
    | zero=>rw [pF_zero,pF_zero]
    | succ j =>
      cases n with
      | zero=>omega
      | succ m =>
        have hp:=par_lt ok (q:=j+1) (by omega)
        unfold pF
        rw [if_neg (by omega),if_neg (by omega),ih _ hp m (by omega),ih _ hp j (by omega)]
theorem P_succ {q:Nat} (h:1≤q):P ps q=P ps (par ps q)++[q]:=by
  obtain ⟨j,rfl⟩:∃ j,q=j+1:=⟨q - 1,by omega⟩
  have hp:=par_lt ok (q:=j+1) h
  unfold P
  rw [pF,if_neg (by omega),pF_st ok _ j (by omega)]
omit ok in
theorem pF_len:∀ n q,(pF ps n q).length≤n
  | 0,_=>by simp [pF]
  | n+1,q=>by
    have:=pF_len n (par ps q)
    unfold pF
    split
    · simp
    · simp; omega
omit ok in
theorem st_mem {x:Nat×Nat} (h:x∈stF ps):1≤x.1∧x.1≤ps.length∧x.2=par ps x.1:=by
  obtain ⟨i,hi,rfl⟩:=List.mem_map.mp h
  have:=List.mem_range.mp hi
  refine ⟨by simp,by show i+1≤_; omega,?_⟩
  show _=ps.getD (i+1 - 1) 0
  rfl
omit ok in
theorem mem_st {q:Nat} (h1:1≤q) (h2:q≤ps.length):(q,par ps q)∈stF ps:=by
  refine List.mem_map.mpr ⟨q - 1,List.mem_range.mpr (by omega),?_⟩
  unfold par
  rw [show q - 1+1=q by omega]
omit ok in
theorem parN_of {q p:Nat}:∀ {st:List (Nat×Nat)},(∀ y∈st,y.1=q→y.2=p)→(q,p)∈st→parN st q=some p
  | x::r,hu,hm=>by
    unfold parN
    by_cases e:x.1=q
    · rw [if_pos e,hu x List.mem_cons_self e]
    · rw [if_neg e]
      rcases List.mem_cons.mp hm with z | z
      · exact absurd (by rw [← z]) e
      · exact parN_of (fun y hy=>hu y (List.mem_cons_of_mem _ hy)) z
omit ok in
theorem parN_st {q:Nat} (h1:1≤q) (h2:q≤ps.length):parN (stF ps) q=some (par ps q) :=
  parN_of (fun y hy e=>by rw [(st_mem hy).2.2,e]) (mem_st h1 h2)
theorem pthN_eq:∀ n q,n≤13→1≤q→q≤ps.length→q≤n→pthN (stF ps) n q=some (pF ps n q)
  | 0,q,_,h1,_,h3=>by omega
  | n+1,q,hn,h1,h2,h3=>by
    have hp:=par_lt ok h1
    unfold pthN pF
    rw [parN_st h1 h2,Option.bind_some,if_neg (show ¬ q=0 by omega)]
    by_cases e:par ps q=0
    · rw [if_pos e,e,pF_zero]; rfl
    · rw [if_neg e,pthN_eq n _ (by omega) (by omega) (by omega) (by omega),Option.bind_some]
      have:=pF_len (ps:=ps) n (par ps q)
      rw [if_pos (by omega)]
theorem path_eq {q:Nat} (h1:1≤q) (h2:q≤ps.length):pthN (stF ps) 13 q=some (P ps q):=by
  have:=ok.len
  rw [pthN_eq ok 13 q (by omega) h1 h2 (by omega),pF_st ok q 13 (by omega)]; rfl
end
noncomputable abbrev In (ps:List Nat) (q:Nat):Prop:=1≤q∧q≤ps.length
end K15
namespace K15
open PySem L2 L2.PU
theorem cGo_map {ι:Type} {t:En→PyData→Option En} {p:En→Option Bool} {f:En→Option PyData} {η:En} (D:ι→PyData) (P:ι→Bool) (Y:ι→PyData) :
    ∀ xs:List ι,(∀ x∈xs,∃ η1,t η (D x)=some η1∧p η1=some (P x)∧(P x=true→f η1=some (Y x)))→cGo t p f η (xs.map D)=some ((xs.filter P).map Y)
  | [],_=>rfl
  | x::r,h=>by
    obtain ⟨η1,h1,h2,h3⟩:=h x List.mem_cons_self
    have ih:=cGo_map D P Y r fun y hy=>h y (List.mem_cons_of_mem _ hy)
    rw [List.map_cons]
    unfold cGo
    rw [h1,Option.bind_some,h2,Option.bind_some,ih,List.filter_cons]
    cases hP:P x with
    | false=>rfl
    | true=>rw [if_pos rfl,h3 hP]; rfl
structure Sc where
  st:List (Nat×Nat)
  nm:Nat→Str
  L:Nat→Int
  T:Nat→Int
  W:Nat→Int
  H:Nat→Int
  mr:Nat→Str
structure Sc.Ok (c:Sc):Prop where
  inj:∀ a b,c.nm a=c.nm b→a=b
  top:c.nm 0 = ""
  ok:∀ a,PyData.strOk (c.nm a)=true
  okm:∀ a,PyData.strOk (c.mr a)=true
  len:c.st.length≤12
noncomputable def Sc.box (c:Sc) (x:Nat×Nat):PyData:=.tuple [.str (c.nm x.1),.str (c.nm x.2),.int (c.L x.1),.int (c.T x.1),.int (c.W x.1),.int (c.H x.1),.str (c.mr x.1)]
noncomputable def Sc.d (c:Sc):PyData:=.tuple (c.st.map c.box)
noncomputable def Sc.s (c:Sc) (q:Nat):PyData:=.str (c.nm q)
noncomputable def Sc.S (c:Sc) (l:List Nat):PyData:=.list (l.map c.s)
theorem str_dec (a b:Str):(a==b)=decide (a=b):=rfl
theorem shaped_str {a:Str} (h:PyData.strOk a=true):SeqAt.shaped (.str a)=true:=by
  simp [SeqAt.shaped,PyData.canLay0,PyData.depth,h]
theorem pEq_str {a b:Str} (ha:PyData.strOk a=true) (hb:PyData.strOk b=true):pEq (.str a) (.str b)=some (.bool (decide (a=b))):=by
  unfold pEq
  rw [if_pos ⟨shaped_str ha,shaped_str hb⟩]
  simp [PyData.eqv,str_dec]
section
variable {c:Sc} (h:c.Ok)
include h
theorem Sc.Ok.dec (a b:Nat):decide (c.nm a=c.nm b)=decide (a=b):=by
  by_cases e:a=b
  · subst e; simp
  · have:¬ c.nm a=c.nm b:=fun z=>e (h.inj _ _ z)
    rw [decide_eq_false this,decide_eq_false e]
theorem Sc.Ok.eqs (a b:Nat):pEq (c.s a) (c.s b)=some (.bool (decide (a=b))):=by
  unfold Sc.s
  rw [pEq_str (h.ok a) (h.ok b),h.dec]
theorem Sc.Ok.eq0 (a:Nat):pEq (c.s a) (.str "")=some (.bool (decide (a=0))):=by
  have:=h.eqs a 0
  unfold Sc.s at this ⊢
  rw [h.top] at this
  exact this
end
end K15
namespace K15
open PySem L2 L2.PU
theorem big {n:Nat} (h:n≤3000000):n≤sizeLine:=Nat.le_trans h (by show 3000000≤2 ^ 24; decide)
section
variable {c:Sc} (h:c.Ok)
include h
theorem box_go (q p:Nat):∀ (l:List (Nat×Nat)),parN l q=some p→∀ s:Sl,sGo (tgN 2) (sIf (bT (l2 pEq (l2 pIx (eV 2) (eC (.int 0))) (eV 1))) (sRet (eV 2)) sNx) (l.map c.box) [.val c.d,.val (c.s q),s]=some (.rt (c.box (q,p)))
  | x::r,hm,s=>by
    rw [List.map_cons]
    unfold sGo
    have et:tgN 2 [.val c.d,.val (c.s q),s] (c.box x)=some [.val c.d,.val (c.s q),.val (c.box x)]:=rfl
    rw [et,Option.bind_some]
    have eb:(bT (l2 pEq (l2 pIx (eV 2) (eC (.int 0))) (eV 1))) [.val c.d,.val (c.s q),.val (c.box x)]=some (decide (x.1=q)):=by
      show (pEq (c.s x.1) (c.s q)).bind asB=_
      rw [h.eqs]; rfl
    unfold sIf
    rw [eb,Option.bind_some]
    unfold parN at hm
    by_cases e:x.1=q
    · rw [if_pos e] at hm
      cases hm
      rw [if_pos (by simpa using e)]
      subst e
      rfl
    · rw [if_neg e] at hm
      rw [if_neg (by simpa using e)]
      show sGo _ _ (r.map c.box) _=_
      exact box_go q p r hm _
theorem F_box_eq {q p:Nat} (h1:parN c.st q=some p):F_box_of [c.d,c.s q]=some (c.box (q,p)):=by
  unfold F_box_of runF
  rw [if_pos (by rfl)]
  show (g_box_of [.val c.d,.val (c.s q),.un]).bind _=_
  have e2:sFor (lI asTu (eV 0)) (tgN 2) (sIf (bT (l2 pEq (l2 pIx (eV 2) (eC (.int 0))) (eV 1))) (sRet (eV 2)) sNx) [.val c.d,.val (c.s q),.un]=some (.rt (c.box (q,p))):=box_go h q p c.st h1 .un
  unfold g_box_of sSeq
  rw [e2]; rfl
theorem F_path_eq:∀ (n q:Nat) (l:List Nat),pthN c.st n q=some l→F_path_of n [c.d,c.s q]=some (c.S l)
  | n+1,q,l,e=>by
    unfold pthN at e
    obtain ⟨p,hq,e⟩:=bind_some e
    · unfold F_path_of runF
      rw [if_pos (by rfl)]
      show (g_path_of F_box_of (F_path_of n) [.val c.d,.val (c.s q),.un]).bind _=_
      have eb:=F_box_eq h hq
      have e1:sSet 2 (l2 pIx (lA F_box_of (aC (eV 0) (aC (eV 1) aN))) (eC (.int 1))) [.val c.d,.val (c.s q),.un]=some (.nx [.val c.d,.val (c.s q),.val (c.s (p))]):=by
        show ((F_box_of [c.d,c.s q]).bind fun x=>_).bind _=_
        rw [eb]; rfl
      have e2:(bT (l2 pEq (eV 2) (eC (.str "")))) [.val c.d,.val (c.s q),.val (c.s (p))]=some (decide (p=0)):=by
        show (pEq (c.s (p)) (.str "")).bind asB=_
        rw [h.eq0]; rfl
      unfold g_path_of sSeq
      rw [e1,Option.bind_some]
      show Option.bind (Option.bind (sIf _ _ _ _) _) _=_
      unfold sIf
      rw [e2,Option.bind_some]
      split at e
      · rename_i h0
        cases e
        rw [if_pos (by simpa using h0)]
        rfl
      · rename_i h0
        rw [if_neg (by simpa using h0)]
        obtain ⟨m,hm,e⟩:=bind_some e
        split at e
        · rename_i hl
          cases e
          have ih:=F_path_eq n _ m hm
          show Option.bind (sRet _ _) _=_
          have e3:sRet (l2 pAdd (lA (F_path_of n) (aC (eV 0) (aC (eV 2) aN))) (oE (fun η=>((aC (eV 1) aN) η).bind gL))) [.val c.d,.val (c.s q),.val (c.s (p))]=some (.rt (c.S (m++[q]))):=by
            show (((F_path_of n) [c.d,c.s (p)]).bind fun x=>(oE _ _).bind fun y=>pAdd x y).bind _=_
            rw [ih,Option.bind_some]
            show ((pAdd (c.S m) (.list [c.s q])).bind _)=_
            unfold Sc.S pAdd
            dsimp only
            rw [if_pos (by rw [List.length_map]; exact big hl)]
            simp [Sc.S]
          rw [e3]; rfl
        · cases e
end
end K15
namespace K15
open PySem L2 L2.PU
noncomputable def Sd (ns:List Int):PyData:=.list (ns.map PyData.int)
theorem can_ints:∀ ns:List Int,PyData.canLayAll0 (ns.map PyData.int)=true
  | []=>rfl
  | _::r=>by
    have ih:=can_ints r
    simpa [PyData.canLayAll0,PyData.canLay0] using ih
theorem dep_ints:∀ ns:List Int,PyData.depthAll (ns.map PyData.int)=0
  | []=>rfl
  | _::r=>by
    have ih:=dep_ints r
    simpa [PyData.depthAll,PyData.depth] using ih
theorem shaped_ints (ns:List Int):SeqAt.shaped (.list (ns.map PyData.int))=true:=by
  simp [SeqAt.shaped,PyData.canLay0,PyData.depth,can_ints,dep_ints]
theorem shaped_int (i:Int):SeqAt.shaped (.int i)=true:=by simp [SeqAt.shaped,PyData.canLay0,PyData.depth]
theorem pEq_int (i j:Int):pEq (.int i) (.int j)=some (.bool (i==j)):=by
  unfold pEq
  rw [if_pos ⟨shaped_int i,shaped_int j⟩]
  simp [PyData.eqv]
theorem l2_of {o:PyData→PyData→Option PyData} {f g:En→Option PyData} {η:En} {x y z:PyData} (hf:f η=some x) (hg:g η=some y) (ho:o x y=some z):l2 o f g η=some z:=by
  unfold l2
  rw [hf,Option.bind_some,hg,Option.bind_some,ho]
theorem pMul_ok {i j:Int} (h:CMul i j):pMul (.int i) (.int j)=some (.int (i*j)):=if_pos h
theorem pMod_ok {i j:Int} (h:0 < j):pMod (.int i) (.int j)=some (.int (i % j)):=if_pos h
theorem pFdiv_ok {i j:Int} (h:CDiv i j):pFdiv (.int i) (.int j)=some (.int (i / j)):=if_pos h
theorem mulL {i j:Int} (h1:-(2 ^ 64) < i) (h2:i < 2 ^ 64):CMul i j:=Or.inl ⟨h1,h2⟩
theorem mulR {i j:Int} (h1:-(2 ^ 64) < j) (h2:j < 2 ^ 64):CMul i j:=Or.inr ⟨h1,h2⟩
section
variable {ns:List Int}
theorem cell_ok (hn:ns.length≤63) {k:Int} (hk:0≤k):∃ v:Int,F__law_cell [Sd ns,.int k]=some (.int v):=by
  unfold F__law_cell runF
  rw [if_pos (by rfl)]
  have et:(bT (l2 pEq (eV 0) (oE (fun η=>(aN η).bind gL)))) [.val (Sd ns),.val (.int k)]=some (decide (ns=[])):=by
    show Option.bind (pEq (Sd ns) (.list [])) asB=_
    unfold pEq
    rw [if_pos ⟨shaped_ints ns,by rfl⟩]
    cases ns <;> simp [Sd,PyData.eqv,PyData.eqvAll,asB]
  show ∃ v,Option.bind (g__law_cell [.val (Sd ns),.val (.int k)]) _=_
  unfold g__law_cell sSeq sIf
  rw [et,Option.bind_some]
  by_cases h0:ns=[]
  · rw [if_pos (by simpa using h0)]
    refine ⟨7*k,?_⟩
    have:l2 pMul (eC (.int 7)) (eV 1) [.val (Sd ns),.val (.int k)]=some (.int (7*k)):=l2_of rfl rfl (pMul_ok (mulL (by decide) (by decide)))
    unfold sRet
    rw [this]; rfl
  · rw [if_neg (by simpa using h0)]
    have hp:0 < ns.length:=by cases ns with | nil=>exact absurd rfl h0 | cons=>simp
    have hlen:lA pLen (aC (eV 0) aN) [.val (Sd ns),.val (.int k)]=some (.int (ns.length:Int)):=by
      show some (PyData.int ((ns.map PyData.int).length:Int))=_
      rw [List.length_map]
    have hm:l2 pMod (eV 1) (lA pLen (aC (eV 0) aN)) [.val (Sd ns),.val (.int k)]=some (.int (k % (ns.length:Int))):=l2_of rfl hlen (pMod_ok (by omega))
    have hd:l2 pFdiv (eV 1) (lA pLen (aC (eV 0) aN)) [.val (Sd ns),.val (.int k)]=some (.int (k / (ns.length:Int))):=l2_of rfl hlen (pFdiv_ok ⟨by omega,by omega⟩)
    obtain ⟨j,hj⟩:∃ j:Nat,k % (ns.length:Int)=(j:Int):=⟨(k % (ns.length:Int)).toNat,by have:=Int.emod_nonneg k (show (ns.length:Int)≠0 by omega); omega⟩
    have hjl:j < ns.length:=by have:=Int.emod_lt_of_pos k (show (0:Int) < ns.length by omega); omega
    refine ⟨ns[j]+6553*(k / (ns.length:Int)),?_⟩
    have hx:l2 pIx (eV 0) (l2 pMod (eV 1) (lA pLen (aC (eV 0) aN))) [.val (Sd ns),.val (.int k)]=some (.int ns[j]):=by
      refine l2_of rfl hm ?_
      rw [hj]
      show atI (ns.map PyData.int) (j:Int)=_
      exact atI_nat (by rw [List.getElem?_map,List.getElem?_eq_getElem hjl]; rfl)
    have hy:l2 pMul (eC (.int 6553)) (l2 pFdiv (eV 1) (lA pLen (aC (eV 0) aN))) [.val (Sd ns),.val (.int k)]=some (.int (6553*(k / (ns.length:Int)))):=l2_of rfl hd (pMul_ok (mulL (by decide) (by decide)))
    have hz:=l2_of (o:=pAdd) hx hy rfl
    show Option.bind (sRet _ [.val (Sd ns),.val (.int k)]) _=_
    unfold sRet
    rw [hz]
    rfl
theorem drawn_ok (hn:ns.length≤63) {k m:Int} (hk:0≤k) (hm:0 < m):∃ r:Nat,(r:Int) < m∧F__law_drawn [Sd ns,.int k,.int m]=some (.int r):=by
  obtain ⟨v,hv⟩:=cell_ok hn hk
  unfold F__law_drawn runF
  rw [if_pos (by rfl)]
  have hc:lA F__law_cell (aC (eV 0) (aC (eV 1) aN)) [.val (Sd ns),.val (.int k),.val (.int m),.un]=some (.int v):=hv
  have x1:l2 pMod (l2 pAdd (l2 pMul (l2 pMod (lA F__law_cell (aC (eV 0) (aC (eV 1) aN))) (eC (.int 2147483563))) (eC (.int 69069))) (l2 pMul (eC (.int 104723)) (l2 pAdd (eV 1) (eC (.int 1))))) (eC (.int 2147483563)) [.val (Sd ns),.val (.int k),.val (.int m),.un]=some (.int ((v % 2147483563*69069+104723*(k+1)) % 2147483563)) :=
    l2_of (l2_of (l2_of (l2_of hc rfl (pMod_ok (by decide))) rfl (pMul_ok (mulR (by decide) (by decide)))) (l2_of rfl (l2_of rfl rfl rfl) (pMul_ok (mulL (by decide) (by decide)))) rfl) rfl (pMod_ok (by decide))
  generalize hx:(v % 2147483563*69069+104723*(k+1)) % 2147483563=x at x1
  have bx:0≤x∧x < 2147483563:=by rw [← hx]; exact ⟨Int.emod_nonneg _ (by decide),Int.emod_lt_of_pos _ (by decide)⟩
  have x2:l2 pMod (l2 pAdd (l2 pMul (eV 3) (eV 3)) (l2 pFdiv (eV 3) (eC (.int 3)))) (eC (.int 2147483399)) [.val (Sd ns),.val (.int k),.val (.int m),.val (.int x)]=some (.int ((x*x+x / 3) % 2147483399)) :=
    l2_of (l2_of (l2_of rfl rfl (pMul_ok (mulL (by omega) (by omega)))) (l2_of rfl rfl (pFdiv_ok ⟨by decide,by decide⟩)) rfl) rfl (pMod_ok (by decide))
  generalize hy:(x*x+x / 3) % 2147483399=y at x2
  have byy:0≤y∧y < 2147483399:=by rw [← hy]; exact ⟨Int.emod_nonneg _ (by decide),Int.emod_lt_of_pos _ (by decide)⟩
  have x3:l2 pMod (l2 pFdiv (l2 pMod (l2 pAdd (l2 pMul (eV 3) (eV 3)) (l2 pFdiv (eV 3) (eC (.int 7)))) (eC (.int 2147483647))) (eC (.int 11))) (eV 2) [.val (Sd ns),.val (.int k),.val (.int m),.val (.int y)]=some (.int ((y*y+y / 7) % 2147483647 / 11 % m)) :=
    l2_of (l2_of (l2_of (l2_of (l2_of rfl rfl (pMul_ok (mulL (by omega) (by omega)))) (l2_of rfl rfl (pFdiv_ok ⟨by decide,by decide⟩)) rfl) rfl (pMod_ok (by decide))) rfl (pFdiv_ok ⟨by decide,by decide⟩)) rfl (pMod_ok hm)
  refine ⟨((y*y+y / 7) % 2147483647 / 11 % m).toNat,?_,?_⟩
  · have h1:=Int.emod_nonneg ((y*y+y / 7) % 2147483647 / 11) (show m≠0 by omega)
    have h2:=Int.emod_lt_of_pos ((y*y+y / 7) % 2147483647 / 11) hm
    omega
  · have h1:=Int.emod_nonneg ((y*y+y / 7) % 2147483647 / 11) (show m≠0 by omega)
    have e:(((y*y+y / 7) % 2147483647 / 11 % m).toNat:Int)=(y*y+y / 7) % 2147483647 / 11 % m:=by omega
    rw [e]
    show Option.bind (g__law_drawn F__law_cell [.val (Sd ns),.val (.int k),.val (.int m),.un]) _=_
    unfold g__law_drawn sSeq sSet sRet
    rw [x1,Option.bind_some,Option.bind_some]
    show Option.bind (Option.bind (Option.bind (l2 pMod _ _ [.val (Sd ns),.val (.int k),.val (.int m),.val (.int x)]) _) _) _=_
    rw [x2,Option.bind_some,Option.bind_some]
    show Option.bind (Option.bind (l2 pMod _ _ [.val (Sd ns),.val (.int k),.val (.int m),.val (.int y)]) _) _=_
    rw [x3]
    rfl
end
end K15
namespace K15
open PySem L2 L2.PU
theorem seq_of {f g:En→Option Out} {η η1:En} {r:Option Out} (h1:f η=some (.nx η1)) (h2:g η1=r):sSeq f g η=r:=by
  unfold sSeq
  rw [h1]; exact h2
theorem set_of {i:Nat} {f:En→Option PyData} {η:En} {d:PyData} (h:f η=some d):sSet i f η=some (.nx (η.set i (.val d))):=by
  unfold sSet
  rw [h]; rfl
theorem setO_of {i:Nat} {f:En→Option (List PyData)} {η:En} {d:List PyData} (h:f η=some d):sSetO i f η=some (.nx (η.set i (.own d))):=by
  unfold sSetO
  rw [h]; rfl
theorem lA_of {o:List PyData→Option PyData} {fs:En→Option (List PyData)} {η:En} {ds:List PyData} {d:PyData} (h1:fs η=some ds) (h2:o ds=some d):lA o fs η=some d:=by
  unfold lA
  rw [h1]; exact h2
theorem aC_of {f:En→Option PyData} {g:En→Option (List PyData)} {η:En} {d:PyData} {ds:List PyData} (h1:f η=some d) (h2:g η=some ds):aC f g η=some (d::ds):=by
  unfold aC
  rw [h1,Option.bind_some,h2]; rfl
theorem if_of {c:En→Option Bool} {f g:En→Option Out} {η:En} {b:Bool} (h:c η=some b):sIf c f g η=if b=true then f η else g η:=by
  unfold sIf
  rw [h]; rfl
theorem bT_of {f:En→Option PyData} {η:En} {b:Bool} (h:f η=some (.bool b)):bT f η=some b:=by
  unfold bT
  rw [h]; rfl
theorem for_of {it:En→Option (List PyData)} {t:En→PyData→Option En} {body:En→Option Out} {η:En} {ds:List PyData} {r:Option Out} (h:it η=some ds) (h2:sGo t body ds η=r):sFor it t body η=r:=by
  unfold sFor
  rw [h]; exact h2
theorem rng1_ok {j:Int} (h1:-(2 ^ 62)≤j) (h2:j < 2 ^ 62):rng1 [.int j]=some (rngL 0 j.toNat):=if_pos ⟨h1,h2⟩
theorem sGo_rng {t:En→PyData→Option En} {body:En→Option Out} (Inv:Nat→En→Prop) (n:Nat)
    (st:∀ k η,k < n→Inv k η→∃ η1 η2,t η (.int (0+(k:Nat)))=some η1∧body η1=some (.nx η2)∧Inv (k+1) η2) {η:En} (h0:Inv 0 η):∃ η',sGo t body (rngL 0 n) η=some (.nx η')∧Inv n η':=by
  have key:∀ (m k:Nat) (η:En),k+m=n→Inv k η→∃ η',sGo t body ((List.range' k m).map fun (k:Nat)=>PyData.int (0+(k:Nat))) η=some (.nx η')∧Inv n η':=by
    intro m
    induction m with
    | zero=>intro k η e h; exact ⟨η,rfl,by rw [← e]; exact h⟩
    | succ m ih =>
      intro k η e h
      obtain ⟨η1,η2,h1,h2,h3⟩:=st k η (by omega) h
      obtain ⟨η',e1,e2⟩:=ih (k+1) η2 (by omega) h3
      refine ⟨η',?_,e2⟩
      rw [List.range'_succ,List.map_cons]
      unfold sGo
      rw [h1,Option.bind_some,h2,Option.bind_some]
      exact e1
  unfold rngL
  rw [List.range_eq_range']
  exact key n 0 η (by omega) h0
theorem sGo_all {ι:Type} {t:En→PyData→Option En} {body:En→Option Out} (D:ι→PyData) (Inv:List ι→En→Prop) (all:List ι)
    (st:∀ done x rest η,all=done++x::rest→Inv done η→∃ η1 η2,t η (D x)=some η1∧body η1=some (.nx η2)∧Inv (done++[x]) η2) {η:En} (h0:Inv [] η):∃ η',sGo t body (all.map D) η=some (.nx η')∧Inv all η':=by
  have key:∀ (rest done:List ι) (η:En),all=done++rest→Inv done η→∃ η',sGo t body (rest.map D) η=some (.nx η')∧Inv all η':=by
    intro rest
    induction rest with
    | nil=>intro done η e h; exact ⟨η,rfl,by rw [e,List.append_nil]; exact h⟩
    | cons x r ih =>
      intro done η e h
      obtain ⟨η1,η2,h1,h2,h3⟩:=st done x r η e h
      obtain ⟨η',e1,e2⟩:=ih (done++[x]) η2 (by rw [e]; simp) h3
      refine ⟨η',?_,e2⟩
      rw [List.map_cons]
      unfold sGo
      rw [h1,Option.bind_some,h2,Option.bind_some]
      exact e1
  exact key all [] η rfl h0
noncomputable def let8:List Nat:=[100,98,103,97,104,99,102,101]
noncomputable def nmT (t:Nat):Nat→Str
  | 0 => ""
  | j+1=>if j < 8 then ⟨#[let8.getD ((j+t) % 8) 0]⟩ else ⟨(List.replicate (j+1) 97).toArray⟩
theorem let8_inj:∀ x:Fin 8,∀ y:Fin 8,let8.getD x.val 0=let8.getD y.val 0→x=y:=by decide
theorem nmT_lo {t j:Nat} (h:j < 8):nmT t (j+1)=⟨#[let8.getD ((j+t) % 8) 0]⟩:=if_pos h
theorem nmT_hi {t j:Nat} (h:¬ j < 8):nmT t (j+1)=⟨(List.replicate (j+1) 97).toArray⟩:=if_neg h
theorem empty_size:("" : Str).cps.size=0:=by decide
theorem nmT_inj (t:Nat):∀ a b,nmT t a=nmT t b→a=b:=by
  have sz:∀ a,(nmT t a).cps.size=if a=0 then 0 else if a - 1 < 8 then 1 else a:=fun a=>by
    cases a with
    | zero=>exact empty_size
    | succ j =>
      by_cases h:j < 8
      · rw [nmT_lo h]; simp [h]
      · rw [nmT_hi h]; simp [h]
  intro a b e
  have s1:=sz a
  have s2:=sz b
  rw [e,s2] at s1
  cases a with
  | zero =>
    cases b with
    | zero=>rfl
    | succ k =>
      simp at s1
      split at s1 <;> omega
  | succ j =>
    cases b with
    | zero =>
      simp at s1
      split at s1 <;> omega
    | succ k =>
      by_cases hj:j < 8
      · by_cases hk:k < 8
        · rw [nmT_lo hj,nmT_lo hk] at e
          have e1:(#[let8.getD ((j+t) % 8) 0]:Array Nat)=#[let8.getD ((k+t) % 8) 0]:=by injection e
          have e2:let8.getD ((j+t) % 8) 0=let8.getD ((k+t) % 8) 0:=by simpa using e1
          have e3:=let8_inj ⟨(j+t) % 8,Nat.mod_lt _ (by decide)⟩ ⟨(k+t) % 8,Nat.mod_lt _ (by decide)⟩ e2
          have e4:(j+t) % 8=(k+t) % 8:=by injection e3
          omega
        · simp [hj,hk] at s1; omega
      · by_cases hk:k < 8
        · simp [hj,hk] at s1; omega
        · simp [hj,hk] at s1; omega
theorem let8_lt:∀ x:Fin 8,let8.getD x.val 0 < 0x110000:=by decide
theorem nmT_ok (t:Nat):∀ a,PyData.strOk (nmT t a)=true:=fun a=>by
  cases a with
  | zero=>exact (by decide +kernel:PyData.strOk ("" : Str)=true)
  | succ j =>
    by_cases h:j < 8
    · rw [nmT_lo h]
      have:=let8_lt ⟨(j+t) % 8,Nat.mod_lt _ (by decide)⟩
      simp only [List.getD_eq_getElem?_getD] at this
      simp [PyData.strOk,this]
    · rw [nmT_hi h]
      unfold PyData.strOk
      rw [Array.all_eq_true]
      intro i hi
      simp
structure Dr where
  ps:List Nat
  nm:Nat→Str
  L:Nat→Int
  T:Nat→Int
  W:Nat→Int
  H:Nat→Int
  mr:Nat→Str
noncomputable def bd (l t w h:Int):Prop:=(-3≤l∧l≤5)∧(-3≤t∧t≤5)∧(0≤w∧w≤8)∧(0≤h∧h≤8)
noncomputable def mkS:List Bool→Str
  | [] => ""
  | b::r=>mkS r++(if b then (⟨#[[99,102,104,108].getD r.length 0]⟩:Str) else ("" : Str))
noncomputable def mkOk (m:Str):Prop:=∃ bs:List Bool,bs.length=4∧m=mkS bs
structure Dr.Ok (c:Dr):Prop where
  inj:∀ a b,c.nm a=c.nm b→a=b
  top:c.nm 0 = ""
  ok:∀ a,PyData.strOk (c.nm a)=true
  okm:∀ a,PyData.strOk (c.mr a)=true
  len:c.ps.length≤12
  par:∀ i,c.ps.getD i 0≤i
  bds:∀ i,bd (c.L i) (c.T i) (c.W i) (c.H i)
  mks:∀ i,mkOk (c.mr i)
noncomputable def Dr.box (c:Dr) (i:Nat):PyData:=.tuple [.str (c.nm (i+1)),.str (c.nm (c.ps.getD i 0)),.int (c.L i),.int (c.T i),.int (c.W i),.int (c.H i),.str (c.mr i)]
noncomputable def Dr.d (c:Dr):PyData:=.tuple ((List.range c.ps.length).map c.box)
noncomputable def Dr.s (c:Dr) (q:Nat):PyData:=.str (c.nm q)
noncomputable def Dr.more (c:Dr) (p:Nat) (l t w h:Int) (m:Str):Dr :=
  { ps:=c.ps++[p],nm:=c.nm,L:=fun i=>if i=c.ps.length then l else c.L i,T:=fun i=>if i=c.ps.length then t else c.T i,W:=fun i=>if i=c.ps.length then w else c.W i,
    H:=fun i=>if i=c.ps.length then h else c.H i,mr:=fun i=>if i=c.ps.length then m else c.mr i }
theorem Dr.more_d (c:Dr) (p:Nat) (l t w h:Int) (m:Str):(c.more p l t w h m).d=.tuple ((List.range c.ps.length).map c.box++[.tuple [.str (c.nm (c.ps.length+1)),.str (c.nm p),.int l,.int t,.int w,.int h,.str m]]):=by
  unfold Dr.d
  have e:(c.more p l t w h m).ps.length=c.ps.length+1:=by unfold Dr.more; simp
  rw [e,List.range_succ,List.map_append]
  congr 2
  · refine List.map_congr_left fun i hi=>?_
    have hlt:=List.mem_range.mp hi
    have hne:i≠c.ps.length:=Nat.ne_of_lt hlt
    have hps:(c.ps++[p])[i]?=c.ps[i]?:=List.getElem?_append_left hlt
    unfold Dr.box Dr.more
    simp only [hne,if_false,List.getD_eq_getElem?_getD,hps]
  · unfold Dr.box Dr.more
    simp
theorem Dr.more_ok {c:Dr} (h:c.Ok) (hl:c.ps.length < 12) {p:Nat} (hp:p≤c.ps.length) (l t w g:Int) {m:Str} (hm:PyData.strOk m=true) (hb:bd l t w g) (hk:mkOk m):(c.more p l t w g m).Ok where
  inj:=h.inj
  top:=h.top
  ok:=h.ok
  okm:=fun i=>by
    unfold Dr.more
    dsimp only
    split
    · exact hm
    · exact h.okm i
  len:=by unfold Dr.more; simp; omega
  par:=fun i=>by
    unfold Dr.more
    dsimp only
    rw [List.getD_eq_getElem?_getD]
    by_cases hi:i < c.ps.length
    · rw [List.getElem?_append_left hi,← List.getD_eq_getElem?_getD]
      exact h.par i
    · by_cases he:i=c.ps.length
      · subst he
        rw [List.getElem?_append_right (Nat.le_refl _)]
        simpa using hp
      · rw [List.getElem?_eq_none (by simp; omega)]
        exact Nat.zero_le _
  bds:=fun i=>by
    unfold Dr.more
    dsimp only
    by_cases e:i=c.ps.length
    · rw [if_pos e,if_pos e,if_pos e,if_pos e]; exact hb
    · rw [if_neg e,if_neg e,if_neg e,if_neg e]; exact h.bds i
  mks:=fun i=>by
    unfold Dr.more
    dsimp only
    split
    · exact hk
    · exact h.mks i
end K15
namespace K15
open PySem L2 L2.PU
noncomputable def sg4:Nat→Str:=fun j=>⟨#[[99,102,104,108].getD j 0]⟩
theorem cfhl:enS [.str "cfhl"]=some ([0,1,2,3].map fun (j:Nat)=>PyData.tuple [.int (j:Nat),.str (sg4 j)]):=by
  have e:("cfhl" : Str).cps.toList=[99,102,104,108]:=by decide +kernel
  unfold enS
  dsimp only
  unfold signD
  rw [e]
  rfl
theorem dbg:("dbgahcfe" : Str).cps.toList=let8:=by decide +kernel
theorem dbg_len:("dbgahcfe" : Str).length≤sizeLine:=by decide +kernel
theorem strOk_app {a b:Str} (ha:PyData.strOk a=true) (hb:PyData.strOk b=true):PyData.strOk (a++b)=true:=by
  unfold PyData.strOk at ha hb ⊢
  show (a.cps++b.cps).all _=true
  rw [Array.all_append,ha,hb]; rfl
theorem len_app (a b:Str):(a++b).length=a.length+b.length:=by
  show (a.cps++b.cps).size=_
  rw [Array.size_append]; rfl
theorem sg4_ok (j:Nat) (h:j∈[0,1,2,3]):PyData.strOk (sg4 j)=true:=by
  simp at h
  rcases h with rfl | rfl | rfl | rfl <;> decide +kernel
theorem mkS_false (bs:List Bool):mkS bs=mkS (false::bs):=by
  show mkS bs=mkS bs++("" : Str)
  apply str_ext
  show _=((mkS bs).cps++("" : Str).cps).toList
  have:("" : Str).cps=#[]:=by decide +kernel
  rw [this]; simp
theorem sg4_len (j:Nat):(sg4 j).length=1:=rfl
section
variable {ns:List Int} (hn:ns.length≤63)
include hn
theorem marks_ok {x1 x2 x3 x4 x6 x7 x8:Sl} {hh:Int} (h0:0≤hh) (s10 s11 s12:Sl):∃ (m:Str) (u v:Sl),(PyData.strOk m=true∧mkOk m) ∧
    sFor (fun η=>((aC (eC (.str "cfhl")) aN) η).bind enS) (tgT (tgCons (tgN 10) (tgCons (tgN 11) tgNil)))
    (sIf (bT (l2 pEq (lA F__law_drawn (aC (eV 0) (aC (l2 pAdd (l2 pAdd (eV 5) (eC (.int 5))) (eV 10)) (aC (l2 pIx (oE (fun η=>((aC (eC (.int 4)) (aC (eC (.int 2)) (aC (eC (.int 9)) (aC (eC (.int 6)) aN)))) η).bind gL)) (eV 10)) aN)))) (eC (.int 0)))) (sSet 9 (l2 pAdd (eV 9) (eV 11))) sNx)
      [.val (Sd ns),x1,x2,x3,x4,.val (.int hh),x6,x7,x8,.val (.str ""),s10,s11,s12]=some (.nx [.val (Sd ns),x1,x2,x3,x4,.val (.int hh),x6,x7,x8,.val (.str m),u,v,s12]):=by
  have inv:=sGo_all (t:=tgT (tgCons (tgN 10) (tgCons (tgN 11) tgNil)))
    (body:=(sIf (bT (l2 pEq (lA F__law_drawn (aC (eV 0) (aC (l2 pAdd (l2 pAdd (eV 5) (eC (.int 5))) (eV 10)) (aC (l2 pIx (oE (fun η=>((aC (eC (.int 4)) (aC (eC (.int 2)) (aC (eC (.int 9)) (aC (eC (.int 6)) aN)))) η).bind gL)) (eV 10)) aN)))) (eC (.int 0)))) (sSet 9 (l2 pAdd (eV 9) (eV 11))) sNx))
    (fun (j:Nat)=>PyData.tuple [.int (j:Nat),.str (sg4 j)])
    (fun done η=>∃ (m:Str) (u v:Sl),(PyData.strOk m=true∧∃ bs:List Bool,bs.length=done.length∧m=mkS bs)∧m.length≤done.length∧η=[.val (Sd ns),x1,x2,x3,x4,.val (.int hh),x6,x7,x8,.val (.str m),u,v,s12])
    [0,1,2,3] ?_ (η:=[.val (Sd ns),x1,x2,x3,x4,.val (.int hh),x6,x7,x8,.val (.str ""),s10,s11,s12]) ⟨"", s10,s11,⟨by decide +kernel,[],rfl,rfl⟩,by decide +kernel,rfl⟩
  · obtain ⟨η',e1,m,u,v,hm,_,rfl⟩:=inv
    refine ⟨m,u,v,⟨hm.1,hm.2⟩,for_of (ds:=[0,1,2,3].map fun (j:Nat)=>PyData.tuple [.int (j:Nat),.str (sg4 j)]) cfhl e1⟩
  · rintro done j rest η hall ⟨m,u,v,hm,hml,rfl⟩
    have hj:j∈[0,1,2,3]:=by rw [hall]; simp
    have hdl:done.length≤3:=by
      have:=congrArg List.length hall
      simp at this
      omega
    have hjd:j=done.length:=by
      match done,hall,hdl with
      | [],hall,_=>simp at hall; simp [hall.1]
      | [_],hall,_=>simp at hall; simp [hall.2.1]
      | [_,_],hall,_=>simp at hall; simp [hall.2.2.1]
      | [_,_,_],hall,_=>simp at hall; simp [hall.2.2.2.1]
    obtain ⟨hm,bs,hbs,hmm⟩:=hm
    have hmod:∃ q:Int,0 < q∧l2 pIx (oE (fun η=>((aC (eC (.int 4)) (aC (eC (.int 2)) (aC (eC (.int 9)) (aC (eC (.int 6)) aN)))) η).bind gL)) (eV 10) [.val (Sd ns),x1,x2,x3,x4,.val (.int hh),x6,x7,x8,.val (.str m),.val (.int (j:Nat)),.val (.str (sg4 j)),s12]=some (.int q):=by
      have eo:oE (fun η=>((aC (eC (.int 4)) (aC (eC (.int 2)) (aC (eC (.int 9)) (aC (eC (.int 6)) aN)))) η).bind gL) [.val (Sd ns),x1,x2,x3,x4,.val (.int hh),x6,x7,x8,.val (.str m),.val (.int (j:Nat)),.val (.str (sg4 j)),s12]=some (.list [.int 4,.int 2,.int 9,.int 6]):=by
        have:gL [.int 4,.int 2,.int 9,.int 6]=some [.int 4,.int 2,.int 9,.int 6]:=if_pos (by show 4≤sizeLine; decide)
        show Option.bind (gL [.int 4,.int 2,.int 9,.int 6]) _=_
        rw [this]; rfl
      simp at hj
      rcases hj with rfl | rfl | rfl | rfl
      · exact ⟨4,by decide,l2_of eo rfl rfl⟩
      · exact ⟨2,by decide,l2_of eo rfl rfl⟩
      · exact ⟨9,by decide,l2_of eo rfl rfl⟩
      · exact ⟨6,by decide,l2_of eo rfl rfl⟩
    obtain ⟨q,hq,eq⟩:=hmod
    obtain ⟨r,hr,er⟩:=drawn_ok hn (k:=hh+5+(j:Nat)) (m:=q) (by omega) hq
    have eb:bT (l2 pEq (lA F__law_drawn (aC (eV 0) (aC (l2 pAdd (l2 pAdd (eV 5) (eC (.int 5))) (eV 10)) (aC (l2 pIx (oE (fun η=>((aC (eC (.int 4)) (aC (eC (.int 2)) (aC (eC (.int 9)) (aC (eC (.int 6)) aN)))) η).bind gL)) (eV 10)) aN)))) (eC (.int 0)))
        [.val (Sd ns),x1,x2,x3,x4,.val (.int hh),x6,x7,x8,.val (.str m),.val (.int (j:Nat)),.val (.str (sg4 j)),s12]=some ((r:Int)==0) :=
      bT_of (l2_of (lA_of (aC_of rfl (aC_of (l2_of (l2_of rfl rfl rfl) rfl rfl) (aC_of eq rfl))) er) rfl (pEq_int _ _))
    refine ⟨[.val (Sd ns),x1,x2,x3,x4,.val (.int hh),x6,x7,x8,.val (.str m),.val (.int (j:Nat)),.val (.str (sg4 j)),s12],?_⟩
    by_cases h0:(r:Int)==0
    · refine ⟨[.val (Sd ns),x1,x2,x3,x4,.val (.int hh),x6,x7,x8,.val (.str (m++sg4 j)),.val (.int (j:Nat)),.val (.str (sg4 j)),s12],rfl,?_,m++sg4 j,_,_,⟨strOk_app hm (sg4_ok j hj),true::bs,by simp [hbs],by rw [hmm,hjd,← hbs]; rfl⟩,?_,rfl⟩
      · rw [if_of eb,if_pos h0]
        refine set_of (d:=.str (m++sg4 j)) (l2_of rfl rfl ?_)
        show (if m.length+(sg4 j).length≤sizeLine then some (PyData.str (m++sg4 j)) else none)=_
        rw [if_pos (by rw [sg4_len]; exact big (by omega))]
      · rw [len_app,sg4_len,List.length_append]
        simpa using hml
    · refine ⟨[.val (Sd ns),x1,x2,x3,x4,.val (.int hh),x6,x7,x8,.val (.str m),.val (.int (j:Nat)),.val (.str (sg4 j)),s12],rfl,?_,m,_,_,⟨hm,false::bs,by simp [hbs],by rw [hmm]; exact mkS_false bs⟩,?_,rfl⟩
      · rw [if_of eb,if_neg h0]; rfl
      · rw [List.length_append]; simp; omega
end
end K15
namespace K15
open PySem L2 L2.PU
noncomputable def tup1:List PyData→Option PyData:=fun ds=>if ds.length≤sizeLine then some (.tuple ds) else none
theorem tup1_ok {ds:List PyData} (h:ds.length≤3000000):(if ds.length≤sizeLine then some (PyData.tuple ds) else none)=some (.tuple ds):=if_pos (big h)
theorem gL_ok {ds:List PyData} (h:ds.length≤3000000):gL ds=some ds:=if_pos (big h)
theorem addL {a b:List PyData} (h:a.length+b.length≤3000000):pAdd (.list a) (.list b)=some (.list (a++b)):=if_pos (big h)
theorem addT {a b:List PyData} (h:a.length+b.length≤3000000):pAdd (.tuple a) (.tuple b)=some (.tuple (a++b)):=if_pos (big h)
theorem oE_of {f:En→Option (List PyData)} {η:En} {ds:List PyData} (h:f η=some ds):oE f η=some (.list ds):=by
  unfold oE
  rw [h]; rfl
theorem comp_eq {mp:List (Option Nat)} {fi:En→Option (List PyData)} {t:En→PyData→Option En} {p:En→Option Bool} {f:En→Option PyData} {η:En} {ds:List PyData} {r:Option (List PyData)} (h1:fi η=some ds) (hz:ds.length≤3000000) (h2:cGo t p f (inEn mp η) ds=r):sComp mp fi t p f η=r:=by
  unfold sComp
  rw [h1,Option.bind_some,if_pos (big hz)]
  exact h2
noncomputable def sBody (fn__law_drawn:List PyData→Option PyData):En→Option Out :=
  (sSeq (sSet 5 (l2 pAdd (l2 pAdd (eV 1) (eC (.int 3))) (l2 pMul (eC (.int 9)) (eV 4))))
    (sSeq (sSet 6 (l2 pIx (l2 pAdd (oE (fun η=>((aC (eC (.str "")) aN) η).bind gL)) (oE (sComp [none] (lI asTu (eV 2)) (tgN 0) tTrue (l2 pIx (eV 0) (eC (.int 0)))))) (lA fn__law_drawn (aC (eV 0) (aC (eV 5) (aC (l2 pAdd (eV 4) (eC (.int 1))) aN))))))
    (sSeq (sSetO 7 (sComp [none,some 0,some 5] (fun η=>((aC (eC (.int 2)) aN) η).bind rng1) (tgN 0) tTrue (l2 pSub (lA fn__law_drawn (aC (eV 1) (aC (l2 pAdd (l2 pAdd (eV 2) (eC (.int 1))) (eV 0)) (aC (eC (.int 9)) aN)))) (eC (.int 3)))))
    (fun η=>(sSeq (sSetO 8 (sComp [none,some 0,some 5] (fun η=>((aC (eC (.int 2)) aN) η).bind rng1) (tgN 0) tTrue (lA fn__law_drawn (aC (eV 1) (aC (l2 pAdd (l2 pAdd (eV 2) (eC (.int 3))) (eV 0)) (aC (eC (.int 9)) aN))))))
    (fun η=>(sSeq (sSet 9 (eC (.str "")))
    (sSeq (sFor (fun η=>((aC (eC (.str "cfhl")) aN) η).bind enS) (tgT (tgCons (tgN 10) (tgCons (tgN 11) tgNil)))
    (sIf (bT (l2 pEq (lA fn__law_drawn (aC (eV 0) (aC (l2 pAdd (l2 pAdd (eV 5) (eC (.int 5))) (eV 10)) (aC (l2 pIx (oE (fun η=>((aC (eC (.int 4)) (aC (eC (.int 2)) (aC (eC (.int 9)) (aC (eC (.int 6)) aN)))) η).bind gL)) (eV 10)) aN)))) (eC (.int 0)))) (sSet 9 (l2 pAdd (eV 9) (eV 11))) sNx))
    (sSeq (sSet 12 (l2 pIx (eC (.str "dbgahcfe")) (l2 pMod (l2 pAdd (eV 4) (eV 3)) (eC (.int 8)))))
    (sSet 2 (l2 pAdd (eV 2) (lA (fun ds=>if ds.length≤sizeLine then some (.tuple ds) else none) (aC (l2 pAdd (l2 pAdd (lA (fun ds=>if ds.length≤sizeLine then some (.tuple ds) else none) (aC (eV 12) (aC (eV 6) aN))) (lA pTup (aC (l2 pAdd (eV 7) (eV 8)) aN))) (lA (fun ds=>if ds.length≤sizeLine then some (.tuple ds) else none) (aC (eV 9) aN))) aN))))))) (frz 8 η))) (frz 7 η)))))
section
variable {ns:List Int} (hn:ns.length≤63)
include hn
theorem two_ok {f:En→Option PyData} {η:En} {mp:List (Option Nat)} (lo hi:Int) (h:∀ k:Nat,k < 2→∃ y,(lo≤y∧y≤hi)∧f ((inEn mp η).set 0 (.val (.int (0+(k:Nat)))))=some (.int y)):∃ a b:Int,((lo≤a∧a≤hi)∧(lo≤b∧b≤hi))∧sComp mp (fun η=>((aC (eC (.int 2)) aN) η).bind rng1) (tgN 0) tTrue f η=some [.int a,.int b]:=by
  obtain ⟨a,ha,ea⟩:=h 0 (by decide)
  obtain ⟨b,hb,eb⟩:=h 1 (by decide)
  refine ⟨a,b,⟨ha,hb⟩,comp_eq (ds:=rngL 0 2) (rng1_ok (j:=2) (by decide) (by decide)) (by decide) ?_⟩
  have:=cGo_map (t:=tgN 0) (p:=tTrue) (f:=f) (η:=inEn mp η) (fun (k:Nat)=>PyData.int (0+(k:Nat))) (fun _=>true) (fun k=>.int (if k=0 then a else b)) (List.range 2) fun k hk=>by
    refine ⟨_,rfl,rfl,fun _=>?_⟩
    have hk:=List.mem_range.mp hk
    rcases (show k=0∨k=1 by omega) with rfl | rfl
    · exact ea
    · exact eb
  exact this
theorem scene_ok:∃ (c:Dr) (tn:Nat),c.Ok∧c.nm=nmT tn∧c.ps.length≤7∧F__law_scene [Sd ns,.int 0]=some c.d:=by
  obtain ⟨tn,htn,et⟩:=drawn_ok hn (k:=0+1) (m:=8) (by decide) (by decide)
  obtain ⟨n,hnn,en⟩:=drawn_ok hn (k:=0) (m:=8) (by decide) (by decide)
  have main:=sGo_rng (t:=tgN 4) (body:=sBody F__law_drawn) (fun k η=>∃ (c:Dr) (s4 s5 s6 s7 s8 s9 s10 s11 s12:Sl),c.Ok∧c.nm=nmT tn∧c.ps.length=k∧η=[.val (Sd ns),.val (.int 0),.val c.d,.val (.int tn),s4,s5,s6,s7,s8,s9,s10,s11,s12]) n ?st
    (η:=[.val (Sd ns),.val (.int 0),.val (.tuple []),.val (.int tn),.un,.un,.un,.un,.un,.un,.un,.un,.un]) ⟨⟨[],nmT tn,fun _=>0,fun _=>0,fun _=>0,fun _=>0,fun _ => ""⟩,.un,.un,.un,.un,.un,.un,.un,.un,.un,
      ⟨nmT_inj tn,rfl,nmT_ok tn,fun _=>nmT_ok 0 0,by simp,fun _=>by simp,fun _=>by show bd 0 0 0 0; unfold bd; decide,fun _=>⟨[false,false,false,false],rfl,by show ("" : Str)=mkS [false,false,false,false]; decide +kernel⟩⟩,rfl,rfl,rfl⟩
  case st =>
    rintro k η hk ⟨c,s4,s5,s6,s7,s8,s9,s10,s11,s12,hc,hnm,hlen,rfl⟩
    have hk7:k < 7:=by omega
    refine ⟨[.val (Sd ns),.val (.int 0),.val c.d,.val (.int tn),.val (.int (0+(k:Nat))),s5,s6,s7,s8,s9,s10,s11,s12],?_⟩
    have hh:l2 pAdd (l2 pAdd (eV 1) (eC (.int 3))) (l2 pMul (eC (.int 9)) (eV 4)) [.val (Sd ns),.val (.int 0),.val c.d,.val (.int tn),.val (.int (0+(k:Nat))),s5,s6,s7,s8,s9,s10,s11,s12]=some (.int (0+3+9*(0+(k:Nat)))) :=
      l2_of (l2_of rfl rfl rfl) (l2_of rfl rfl (pMul_ok (mulL (by decide) (by decide)))) rfl
    generalize hhe:(0+3+9*(0+(k:Nat)):Int)=hr at hh
    have hr0:0≤hr:=by omega
    obtain ⟨p,hp,ep⟩:=drawn_ok hn (k:=hr) (m:=0+(k:Nat)+1) hr0 (by omega)
    have hp':p≤k:=by omega
    have ea:l2 pIx (l2 pAdd (oE (fun η=>((aC (eC (.str "")) aN) η).bind gL)) (oE (sComp [none] (lI asTu (eV 2)) (tgN 0) tTrue (l2 pIx (eV 0) (eC (.int 0)))))) (lA F__law_drawn (aC (eV 0) (aC (eV 5) (aC (l2 pAdd (eV 4) (eC (.int 1))) aN))))
        [.val (Sd ns),.val (.int 0),.val c.d,.val (.int tn),.val (.int (0+(k:Nat))),.val (.int hr),s6,s7,s8,s9,s10,s11,s12]=some (c.s p):=by
      have e1:oE (fun η=>((aC (eC (.str "")) aN) η).bind gL) [.val (Sd ns),.val (.int 0),.val c.d,.val (.int tn),.val (.int (0+(k:Nat))),.val (.int hr),s6,s7,s8,s9,s10,s11,s12]=some (.list [c.s 0]):=by
        refine oE_of ?_
        show gL [.str ""]=_
        rw [gL_ok (by decide)]
        unfold Dr.s
        rw [hc.top]
      have e2:oE (sComp [none] (lI asTu (eV 2)) (tgN 0) tTrue (l2 pIx (eV 0) (eC (.int 0)))) [.val (Sd ns),.val (.int 0),.val c.d,.val (.int tn),.val (.int (0+(k:Nat))),.val (.int hr),s6,s7,s8,s9,s10,s11,s12]=some (.list ((List.range k).map fun i=>c.s (i+1))):=by
        refine oE_of (comp_eq (ds:=(List.range c.ps.length).map c.box) rfl (by rw [List.length_map,List.length_range]; omega) ?_)
        rw [hlen]
        have:=cGo_map (t:=tgN 0) (p:=tTrue) (f:=l2 pIx (eV 0) (eC (.int 0))) (η:=[.un]) c.box (fun _=>true) (fun i=>c.s (i+1)) (List.range k) fun i _=>⟨_,rfl,rfl,fun _=>rfl⟩
        rw [show (List.range k).filter (fun _=>true)=List.range k by simp] at this
        exact this
      refine l2_of (l2_of e1 e2 (addL (by simp; omega))) (lA_of (aC_of rfl (aC_of rfl (aC_of (l2_of rfl rfl rfl) rfl))) ep) ?_
      show atI ([c.s 0]++(List.range k).map fun i=>c.s (i+1)) (p:Int)=_
      refine atI_nat ?_
      cases p with
      | zero=>rfl
      | succ j =>
        show ((List.range k).map fun i=>c.s (i+1))[j]?=_
        rw [List.getElem?_map,List.getElem?_range (by omega)]
        rfl
    obtain ⟨pa,pb,hbp,epl⟩:=two_ok hn (-3) 5 (mp:=[none,some 0,some 5]) (f:=l2 pSub (lA F__law_drawn (aC (eV 1) (aC (l2 pAdd (l2 pAdd (eV 2) (eC (.int 1))) (eV 0)) (aC (eC (.int 9)) aN)))) (eC (.int 3)))
      (η:=[.val (Sd ns),.val (.int 0),.val c.d,.val (.int tn),.val (.int (0+(k:Nat))),.val (.int hr),.val (c.s p),s7,s8,s9,s10,s11,s12]) fun j hj=>by
        obtain ⟨r,hr9,er⟩:=drawn_ok hn (k:=hr+1+(0+(j:Nat))) (m:=9) (by omega) (by decide)
        exact ⟨(r:Int) - 3,by omega,l2_of (lA_of (aC_of rfl (aC_of (l2_of (l2_of rfl rfl rfl) rfl rfl) (aC_of rfl rfl))) er) rfl rfl⟩
    obtain ⟨sa,sb,hbs,esz⟩:=two_ok hn 0 8 (mp:=[none,some 0,some 5]) (f:=lA F__law_drawn (aC (eV 1) (aC (l2 pAdd (l2 pAdd (eV 2) (eC (.int 3))) (eV 0)) (aC (eC (.int 9)) aN))))
      (η:=[.val (Sd ns),.val (.int 0),.val c.d,.val (.int tn),.val (.int (0+(k:Nat))),.val (.int hr),.val (c.s p),.val (.list [.int pa,.int pb]),s8,s9,s10,s11,s12]) fun j hj=>by
        obtain ⟨r,hr9,er⟩:=drawn_ok hn (k:=hr+3+(0+(j:Nat))) (m:=9) (by omega) (by decide)
        exact ⟨(r:Int),by omega,lA_of (aC_of rfl (aC_of (l2_of (l2_of rfl rfl rfl) rfl rfl) (aC_of rfl rfl))) er⟩
    obtain ⟨m,u,v,hm,em⟩:=marks_ok hn (x1:=.val (.int 0)) (x2:=.val c.d) (x3:=.val (.int tn)) (x4:=.val (.int (0+(k:Nat)))) (x6:=.val (c.s p)) (x7:=.val (.list [.int pa,.int pb])) (x8:=.val (.list [.int sa,.int sb])) hr0 s10 s11 s12
    have enm:l2 pIx (eC (.str "dbgahcfe")) (l2 pMod (l2 pAdd (eV 4) (eV 3)) (eC (.int 8))) [.val (Sd ns),.val (.int 0),.val c.d,.val (.int tn),.val (.int (0+(k:Nat))),.val (.int hr),.val (c.s p),.val (.list [.int pa,.int pb]),.val (.list [.int sa,.int sb]),.val (.str m),u,v,s12]=some (c.s (k+1)):=by
      refine l2_of rfl (l2_of (l2_of rfl rfl rfl) rfl (pMod_ok (by decide))) ?_
      show (if ("dbgahcfe" : Str).length≤sizeLine then (atI ("dbgahcfe" : Str).cps.toList ((0+(k:Nat)+(tn:Int)) % 8)).bind _ else none)=_
      rw [if_pos dbg_len,dbg]
      have e8:((0+(k:Nat)+(tn:Int)) % 8:Int)=(((k+tn) % 8:Nat):Int):=by omega
      have hlt:(k+tn) % 8 < 8:=Nat.mod_lt _ (by decide)
      rw [e8,atI_nat (v:=let8.getD ((k+tn) % 8) 0) (by rw [List.getD_eq_getElem?_getD,List.getElem?_eq_getElem (show (k+tn) % 8 < let8.length from hlt)]; rfl)]
      unfold Dr.s
      rw [hnm,nmT_lo (by omega)]
      rfl
    have hcd:c.d=.tuple ((List.range c.ps.length).map c.box):=rfl
    have efin:l2 pAdd (eV 2) (lA (fun ds=>if ds.length≤sizeLine then some (.tuple ds) else none) (aC (l2 pAdd (l2 pAdd (lA (fun ds=>if ds.length≤sizeLine then some (.tuple ds) else none) (aC (eV 12) (aC (eV 6) aN))) (lA pTup (aC (l2 pAdd (eV 7) (eV 8)) aN))) (lA (fun ds=>if ds.length≤sizeLine then some (.tuple ds) else none) (aC (eV 9) aN))) aN))
        [.val (Sd ns),.val (.int 0),.val c.d,.val (.int tn),.val (.int (0+(k:Nat))),.val (.int hr),.val (c.s p),.val (.list [.int pa,.int pb]),.val (.list [.int sa,.int sb]),.val (.str m),u,v,.val (c.s (k+1))]=some (c.more p pa pb sa sb m).d:=by
      rw [Dr.more_d]
      refine l2_of (x:=c.d) rfl (lA_of (aC_of (l2_of (l2_of (lA_of (aC_of rfl (aC_of rfl rfl)) (tup1_ok (by simp))) (lA_of (aC_of (l2_of rfl rfl (addL (by simp))) rfl) rfl) (addT (by simp))) (lA_of (aC_of rfl rfl) (tup1_ok (by simp))) (addT (by simp))) rfl) (tup1_ok (by simp))) ?_
      rw [hcd]
      refine (addT (by simp; omega)).trans ?_
      rw [hlen]
      rfl
    refine ⟨[.val (Sd ns),.val (.int 0),.val (c.more p pa pb sa sb m).d,.val (.int tn),.val (.int (0+(k:Nat))),.val (.int hr),.val (c.s p),.val (.list [.int pa,.int pb]),.val (.list [.int sa,.int sb]),.val (.str m),u,v,.val (c.s (k+1))],rfl,?_,
      c.more p pa pb sa sb m,_,_,_,_,_,_,_,_,_,Dr.more_ok hc (by omega) (by omega) pa pb sa sb hm.1 ⟨hbp.1,hbp.2,hbs.1,hbs.2⟩ hm.2,hnm,by simp [Dr.more,hlen],rfl⟩
    refine seq_of (set_of hh) (seq_of (set_of ea) (seq_of (setO_of epl) ?_))
    refine seq_of (setO_of esz) ?_
    refine seq_of (set_of rfl) (seq_of em (seq_of (set_of enm) (set_of efin)))
  obtain ⟨η',e1,c,s4,s5,s6,s7,s8,s9,s10,s11,s12,hc,hnm,hlen,rfl⟩:=main
  refine ⟨c,tn,hc,hnm,by omega,?_⟩
  unfold F__law_scene runF
  rw [if_pos (by rfl)]
  show Option.bind (g__law_scene F__law_drawn [.val (Sd ns),.val (.int 0),.un,.un,.un,.un,.un,.un,.un,.un,.un,.un,.un]) _=_
  have e2:g__law_scene F__law_drawn [.val (Sd ns),.val (.int 0),.un,.un,.un,.un,.un,.un,.un,.un,.un,.un,.un]=some (.rt c.d):=by
    refine seq_of (set_of (lA_of rfl (tup1_ok (by decide)))) (seq_of (set_of (lA_of (aC_of rfl (aC_of (l2_of rfl rfl rfl) (aC_of rfl rfl))) et)) (seq_of (for_of ?_ e1) rfl))
    show Option.bind (aC (lA F__law_drawn _) aN _) rng1=_
    rw [aC_of (lA_of (aC_of rfl (aC_of rfl (aC_of rfl rfl))) en) rfl]
    rw [Option.bind_some,rng1_ok (by omega) (by omega),Int.toNat_natCast]
  rw [e2]; rfl
end
end K15
namespace K15
open PySem L2 L2.PU
theorem eqvAll_refl_int:∀ ss:List Int,PyData.eqvAll (ss.map PyData.int) (ss.map PyData.int)=true
  | []=>by simp [PyData.eqvAll]
  | s::r=>by
    have ih:=eqvAll_refl_int r
    rw [List.map_cons]
    unfold PyData.eqvAll PyData.eqv
    rw [ih]; simp
theorem pNe_ints (ns:List Int):pNe (.list (ns.map PyData.int)) (.list (ns.map PyData.int))=some (.bool false):=by
  unfold pNe
  rw [if_pos ⟨shaped_ints ns,shaped_ints ns⟩]
  unfold PyData.eqv
  rw [eqvAll_refl_int]; rfl
theorem eSl_of {f:En→Option PyData} {fl fh:En→Option (Option Int)} {η:En} {x d:PyData} {l h:Option Int} (h1:f η=some x) (h2:fl η=some l) (h3:fh η=some h) (h4:pSl x l h=some d):eSl f fl fh η=some d:=by
  unfold eSl
  rw [h1,Option.bind_some,h2,Option.bind_some,h3]; exact h4
theorem pS_of {f:En→Option PyData} {η:En} {i:Int} (h:f η=some (.int i)):pS f η=some (some i):=by
  unfold pS
  rw [h]; rfl
theorem lI_of {k:PyData→Option (List PyData)} {f:En→Option PyData} {η:En} {d:PyData} {ds:List PyData} (h:f η=some d) (h2:k d=some ds):lI k f η=some ds:=by
  unfold lI
  rw [h]; exact h2
section
variable {c:Sc} (h:c.Ok)
include h
theorem eqv_s (a b:Nat):PyData.eqv (c.s a) (c.s b)=decide (a=b):=by
  unfold Sc.s PyData.eqv
  rw [str_dec,h.dec]
omit h in
theorem cut_to {α:Type} (xs:List α) (k:Nat):cutL xs none (some (k:Int))=xs.take k:=by
  unfold cutL
  rw [HT.sIx_none,HT.sIx_nat,List.drop_zero,Nat.sub_zero]
  exact List.take_eq_take_iff.mpr (by omega)
end
end K15
namespace K15
open PySem L2 L2.PU
theorem bind_of {α β:Type} {o:Option α} {k:α→Option β} {x:α} {r:Option β} (h:o=some x) (h2:k x=r):o.bind k=r:=by
  rw [h]; exact h2
theorem pNe_self {d:PyData} (h:SeqAt.shaped d=true):pNe d d=some (.bool false):=by
  unfold pNe
  rw [if_pos ⟨h,h⟩,SeqAt.eqv_refl d (SeqAt.canLay_of_shaped h)]; rfl
theorem bNot_of {f:En→Option Bool} {η:En} {b:Bool} (h:f η=some b):bNot f η=some (!b):=by
  unfold bNot
  rw [h]; rfl
theorem bAnd_of {f g:En→Option Bool} {η:En} {a b:Bool} (h1:f η=some a) (h2:g η=some b):bAnd f g η=some (a&&b):=by
  unfold bAnd
  rw [h1]
  cases a with
  | false=>rfl
  | true=>exact h2
theorem run_of {n m:Nat} {g:En→Option Out} {ds:List PyData} {d:PyData} (hl:ds.length=n) (h:g (ds.map Sl.val++List.replicate (m - n) .un)=some (.rt d)):runF n m g ds=some d:=by
  unfold runF
  rw [if_pos hl,h]; rfl
theorem ret_of {f:En→Option PyData} {η:En} {d:PyData} (h:f η=some d):sRet f η=some (.rt d):=by
  unfold sRet
  rw [h]; rfl
theorem cGo_mapT {ι:Type} {t:En→PyData→Option En} {f:En→Option PyData} {η:En} (D:ι→PyData) (Y:ι→PyData) (xs:List ι) (h:∀ x∈xs,∃ η1,t η (D x)=some η1∧f η1=some (Y x)):cGo t tTrue f η (xs.map D)=some (xs.map Y):=by
  have:=cGo_map (t:=t) (p:=tTrue) (f:=f) (η:=η) D (fun _=>true) Y xs fun x hx=>by
    obtain ⟨η1,h1,h2⟩:=h x hx
    exact ⟨η1,h1,rfl,fun _=>h2⟩
  rw [show xs.filter (fun _=>true)=xs by simp] at this
  exact this
theorem pAny_of (bs:List Bool):pAny [.list (bs.map PyData.bool)]=some (.bool (bs.any id)):=by
  unfold pAny pBools
  dsimp only
  rw [asBs_bools]; rfl
noncomputable def inM (s m:Str):Bool:=!(Builtin.Str.occurrences m s 0 m.length 1).isEmpty
structure Tr (c:Sc) (ps:List Nat):Prop where
  ok:c.Ok
  st:c.st=stF ps
  ps:PsOk ps
theorem P_in {ps:List Nat} (ok:PsOk ps) {x:Nat}:∀ q,In ps q→x∈P ps q→In ps x:=by
  intro q
  induction q using Nat.strongRecOn with
  | _ q ih =>
    intro hq hx
    rw [P_succ ok hq.1] at hx
    rcases List.mem_append.mp hx with z | z
    · have hp:=par_lt ok hq.1
      by_cases e:par ps q=0
      · rw [e] at z
        cases z
      · exact ih _ hp ⟨by omega,by have:=hq.2; omega⟩ z
    · have:x=q:=by simpa using z
      rw [this]; exact hq
theorem P_len {ps:List Nat} (q:Nat):(P ps q).length≤q:=pF_len q q
section
variable {c:Sc} {ps:List Nat} (t:Tr c ps)
include t
theorem T_box {q:Nat} (hq:In ps q):F_box_of [c.d,c.s q]=some (c.box (q,par ps q)):=F_box_eq t.ok (by rw [t.st]; exact parN_st hq.1 hq.2)
theorem T_path {q:Nat} (hq:In ps q):F_path_of 13 [c.d,c.s q]=some (c.S (P ps q)):=F_path_eq t.ok 13 q _ (by rw [t.st]; exact path_eq t.ps hq.1 hq.2)
theorem in_7 {q:Nat} (hq:In ps q):q≤7:=Nat.le_trans hq.2 t.ps.len
theorem P_7 {q:Nat} (hq:In ps q):(P ps q).length≤7:=Nat.le_trans (P_len q) (in_7 t hq)
end
end K15
namespace K15
open PySem L2 L2.PU
section
variable {w:Wd} {s s1 s2:Sto} {n k:Nat} {ds:List D} {d:D}
theorem mFld_of {o:MF} {nm:Str} {fs:List (Str×D)} (h1:o w=some (.r n,s)) (h2:s[n]?=some (.obj k fs)) (h3:fs.lookup nm=some d):mFld o nm w=some (d,s):=by
  unfold mFld
  rw [h1,Option.bind_some]
  dsimp only
  rw [h2]
  dsimp only
  rw [h3]; rfl
theorem mAppC_of {o g:MF} {ds0:List D} (h1:o w=some (.r n,s)) (h2:s[n]?=some (.lst ds0)) (h3:g ⟨w.η,s⟩=some (d,s1)) (h4:s1[n]?=some (.lst ds)) (hl:ds.length≤3000000):mAppC o g w=some (.d .none,s1.set n (.lst (ds++[d]))):=by
  unfold mAppC
  rw [h1,Option.bind_some]
  dsimp only
  rw [h2]
  dsimp only
  rw [h3,Option.bind_some]
  dsimp only
  rw [h4]
  dsimp only
  rw [if_pos (Nat.lt_of_le_of_lt hl (by show 3000000 < 2 ^ 24; decide))]
theorem mTupD_of {fs:MFs} {xs:List PyData} (h1:fs w=some (ds,s)) (h2:pDs s ds=some xs) (hl:xs.length≤3000000):mTupD fs w=some (.d (.tuple xs),s):=by
  unfold mTupD
  rw [h1,Option.bind_some,h2,Option.bind_some,if_pos (big hl)]
theorem mN0:mN (fun η=>(aN η).bind gL) w=some (.r w.s.length,w.s++[.lst []]):=rfl
theorem mAtC_of {o g:MF} {x:PyData} {ky:Key} {kvs:List (Key×D)} (h1:o w=some (.r n,s)) (h2:g ⟨w.η,s⟩=some (.d x,s1)) (h3:keyP x=some ky) (h4:s1[n]?=some (.dct kvs)) (h5:lookK kvs ky=some d):mAtC o g w=some (d,s1):=by
  unfold mAtC
  rw [h1,Option.bind_some]
  dsimp only
  rw [h2,Option.bind_some]
  dsimp only
  rw [h3,Option.bind_some,h4]
  dsimp only
  rw [h5,Option.bind_some]
theorem mInC_of {neg:Bool} {o g:MF} {x:PyData} {ky:Key} {kvs:List (Key×D)} (h1:g w=some (.d x,s)) (h2:o ⟨w.η,s⟩=some (.r n,s1)) (h3:keyP x=some ky) (h4:s1[n]?=some (.dct kvs)):mInC neg g o w=some (if neg then !(lookK kvs ky).isSome else (lookK kvs ky).isSome,s1):=by
  unfold mInC
  rw [h1,Option.bind_some]
  dsimp only
  rw [h2,Option.bind_some]
  dsimp only
  rw [h3,Option.bind_some,h4]
theorem mPutC_of {o g e:MF} {x:PyData} {ky:Key} {kvs:List (Key×D)} {s0:Sto} (h0:e w=some (d,s0)) (h1:o ⟨w.η,s0⟩=some (.r n,s)) (h2:g ⟨w.η,s⟩=some (.d x,s1)) (h3:keyP x=some ky) (h4:s1[n]?=some (.dct kvs)) (hl:kvs.length≤3000000):mPutC o g e w=some (.nx ⟨w.η,s1.set n (.dct (putKD kvs ky d))⟩):=by
  unfold mPutC
  rw [h0,Option.bind_some]
  dsimp only
  rw [h1,Option.bind_some]
  dsimp only
  rw [h2,Option.bind_some]
  dsimp only
  rw [h3,Option.bind_some,h4]
  dsimp only
  rw [if_pos (Nat.lt_of_le_of_lt hl (by show 3000000 < 2 ^ 24; decide))]
theorem mPopC_of {o g:MF} {x:PyData} {ky:Key} {kvs kv0:List (Key×D)} (h1:o w=some (.r n,s)) (h0:s[n]?=some (.dct kv0)) (h2:g ⟨w.η,s⟩=some (.d x,s1)) (h3:keyP x=some ky) (h4:s1[n]?=some (.dct kvs)) (h5:lookK kvs ky=some d):mPopC o g w=some (d,s1.set n (.dct (dropKD kvs ky))):=by
  unfold mPopC
  rw [h1,Option.bind_some]
  dsimp only
  rw [h0]
  dsimp only
  rw [h2,Option.bind_some]
  dsimp only
  rw [h3,Option.bind_some,h4]
  dsimp only
  rw [h5,Option.bind_some]
theorem mAugF_of {nm:Str} {o e:MF} {i j:Int} {fs fs2:List (Str×D)} (h1:o w=some (.r n,s)) (h2:s[n]?=some (.obj k fs)) (h3:fs.lookup nm=some (.d (.int i))) (h4:e ⟨w.η,s⟩=some (.d (.int j),s1)) (h5:s1[n]?=some (.obj k fs2)) (hl:fs2.length < 999):mAugF k nm o e w=some (.nx ⟨w.η,s1.set n (.obj k (putA nm (.d (.int (i+j))) fs2))⟩):=by
  unfold mAugF
  rw [h1,Option.bind_some]
  dsimp only
  rw [h2]
  dsimp only
  rw [if_pos rfl,h3]
  dsimp only
  rw [h4,Option.bind_some]
  dsimp only
  rw [h5]
  dsimp only
  rw [if_pos ⟨rfl,hl⟩]
theorem mFz_of {f:MF} {xs:List PyData} (h1:f w=some (.r n,s)) (h2:s[n]?=some (.lst ds)) (h3:dAll ds=some xs):mFz f w=some (.d (.list xs),s.set n (.fz (.list xs))):=by
  unfold mFz
  rw [h1,Option.bind_some]
  dsimp only
  rw [h2]
  dsimp only
  rw [h3,Option.bind_some]
theorem tmAndS {f g:MTF} {r:Option (Bool×Sto)} (h1:f w=some (true,s1)) (h2:g ⟨w.η,s1⟩=r):tmAnd f g w=r:=by
  unfold tmAnd
  rw [h1]; exact h2
theorem iM_of {f:MF} {xs:List PyData} (h:f w=some (.d (.list xs),s)):iM f w=some (xs,s):=by
  unfold iM
  rw [h]; rfl
end
theorem lt_of {s:Sto} {i:Nat} {x:Cell} (h:s[i]?=some x):i < s.length:=(List.getElem?_eq_some_iff.mp h).1
theorem set_at {s:Sto} {i:Nat} {x y:Cell} (h:s[i]?=some y):(s.set i x)[i]?=some x:=List.getElem?_set_self (lt_of h)
theorem dAll_d {ι:Type} (f:ι→PyData):∀ l:List ι,dAll (l.map fun x=>D.d (f x))=some (l.map f)
  | []=>rfl
  | x::r=>by
    rw [List.map_cons,List.map_cons]
    unfold dAll
    rw [dAll_d f r]; rfl
inductive Wo where
  | u
  | v
  | w
  | x
deriving DecidableEq
noncomputable def wd:Wo→Str
  | .u => "u"
  | .v => "v"
  | .w => "w"
  | .x => "x"
theorem wd_ok (b:Wo):PyData.strOk (wd b)=true:=by cases b <;> decide +kernel
inductive De where
  | call (q:Nat)
deriving DecidableEq
noncomputable def deD (c:Sc):De→PyData
  | .call q=>.tuple [.str "call", c.s q,.str "u"]
noncomputable def dsD (c:Sc) (A:List De):PyData:=.tuple (A.map (deD c))
structure He where
  i:Nat
  q:Nat
  w:Wo
  d:Bool
  a:List De
  o:Bool
deriving DecidableEq
noncomputable def mt (q:Nat) (w:Wo) (d:Bool) (h:He):Bool:=decide (h.q=q)&&(decide (h.w=w)&&decide (h.d=d))
theorem mt_iff {q:Nat} {w:Wo} {d:Bool} {h:He}:mt q w d h=true↔h.q=q∧h.w=w∧h.d=d:=by unfold mt; simp
section
variable (c:Sc)
noncomputable def heD (h:He):PyData:=.tuple [c.s h.q,.str (wd h.w),.bool h.d,dsD c h.a,.bool h.o]
noncomputable def kvs (H:List He):List (Key×D):=H.map fun h=>(Sum.inl (h.i:Int),D.d (heD c h))
noncomputable def rwD (h:He):PyData:=.tuple [.int h.i,c.s h.q,.str (wd h.w),.bool h.d]
end
noncomputable def Un (H:List He):Prop:=∀ x∈H,∀ y∈H,x.i=y.i→x=y
section
variable {c:Sc}
theorem look_kvs {H:List He} (u:Un H) {h:He} (m:h∈H):lookK (kvs c H) (.inl (h.i:Int))=some (.d (heD c h)):=by
  unfold lookK kvs
  rw [List.find?_map]
  have e:H.find? ((fun kv:Key×D=>decide (kv.1=Sum.inl (h.i:Int)))∘fun h=>(Sum.inl (h.i:Int),D.d (heD c h)))=some h:=by
    rw [List.find?_eq_some_iff_append]
    obtain ⟨a,b,e⟩:=List.append_of_mem m
    have key:∃ a' b',H=a'++h::b'∧∀ x∈a',x≠h:=by
      clear e a b u
      induction H with
      | nil=>cases m
      | cons x r ih =>
        by_cases e:x=h
        · exact ⟨[],r,by rw [e]; rfl,fun _ hx=>by cases hx⟩
        · obtain ⟨a',b',e1,e2⟩:=ih (by
            rcases List.mem_cons.mp m with z | z
            · exact absurd z.symm e
            · exact z)
          refine ⟨x::a',b',by rw [e1]; rfl,fun y hy=>?_⟩
          rcases List.mem_cons.mp hy with z | z
          · rw [z]; exact e
          · exact e2 y z
    obtain ⟨a',b',e1,e2⟩:=key
    refine ⟨by simp,a',b',e1,fun x hx=>?_⟩
    have:x.i≠h.i:=fun z=>e2 x hx (u x (by rw [e1]; exact List.mem_append_left _ hx) h m z)
    simp
    intro z
    have:=Int.ofNat.inj z
    omega
  rw [e]; rfl
theorem look_none {H:List He} {i:Nat} (h:∀ x∈H,x.i≠i):lookK (kvs c H) (.inl (i:Int))=none:=by
  unfold lookK kvs
  rw [List.find?_map]
  have e:H.find? ((fun kv:Key×D=>decide (kv.1=Sum.inl (i:Int)))∘fun h=>(Sum.inl (h.i:Int),D.d (heD c h)))=none:=by
    rw [List.find?_eq_none]
    intro x hx
    have:=h x hx
    simp
    intro z
    have:=Int.ofNat.inj z
    omega
  rw [e]; rfl
theorem drop_kvs {H:List He} (i:Nat):dropKD (kvs c H) (.inl (i:Int))=kvs c (H.filter fun x=>!decide (x.i=i)):=by
  unfold dropKD kvs
  rw [List.filter_map]
  congr 1
  refine List.filter_congr fun x _=>?_
  by_cases e:x.i=i
  · simp [e]
  · have e1:(Sum.inl (x.i:Int):Key)≠Sum.inl (i:Int):=fun z=>e (Int.ofNat.inj (Sum.inl.inj z))
    simp [e]
    omega
theorem put_kvs {H:List He} {i:Nat} (h:∀ x∈H,x.i≠i) (d:D):putKD (kvs c H) (.inl (i:Int)) d=kvs c H++[(.inl (i:Int),d)]:=by
  unfold putKD
  rw [if_neg]
  unfold kvs
  rw [List.any_map]
  intro z
  rw [List.any_eq_true] at z
  obtain ⟨x,hx,z⟩:=z
  have z2:=of_decide_eq_true z
  exact h x hx (Int.ofNat.inj (Sum.inl.inj z2))
theorem dKvs_kvs:∀ H:List He,dKvs (kvs c H)=some (H.map fun h=>(Sum.inl (h.i:Int),heD c h))
  | []=>rfl
  | x::r=>by
    unfold kvs
    rw [List.map_cons,List.map_cons]
    unfold dKvs
    rw [show dKvs (r.map _)=_ from dKvs_kvs r]; rfl
theorem Sc.Ok.eq3 (h:c.Ok) (a b:Nat) (w w':Wo) (d d':Bool):pEq (.tuple [c.s a,.str (wd w),.bool d]) (.tuple [c.s b,.str (wd w'),.bool d'])=some (.bool (decide (a=b)&&(decide (w=w')&&decide (d=d')))):=by
  have sh:∀ (a:Nat) (w:Wo) (d:Bool),SeqAt.shaped (.tuple [c.s a,.str (wd w),.bool d])=true:=fun a w d=>by
    simp [SeqAt.shaped,PyData.canLay0,PyData.canLayAll0,PyData.depth,PyData.depthAll,Sc.s,wd_ok,h.ok]
  unfold pEq
  rw [if_pos ⟨sh a w d,sh b w' d'⟩]
  have e1:PyData.eqv (c.s a) (c.s b)=decide (a=b):=eqv_s h a b
  have e2:PyData.eqv (.str (wd w)) (.str (wd w'))=decide (w=w'):=by cases w <;> cases w' <;> decide +kernel
  have e3:PyData.eqv (.bool d) (.bool d')=decide (d=d'):=by cases d <;> cases d' <;> rfl
  show some (PyData.bool (PyData.eqvAll _ _))=_
  unfold PyData.eqvAll
  rw [e1]
  unfold PyData.eqvAll
  rw [e2]
  unfold PyData.eqvAll
  rw [e3]
  unfold PyData.eqvAll
  rw [Bool.and_true]
end
end K15
namespace K15
open PySem L2 L2.PU
noncomputable def hf (c:Sc) (b m:Nat):List (Str×D):=[("scene", .d c.d),("hearers", .r b),("made", .d (.int (m:Int)))]
structure Hl (s:Sto) (a b:Nat) (c:Sc) (H:List He) (m:Nat):Prop where
  ob:s[a]?=some (.obj 1 (hf c b m))
  dc:s[b]?=some (.dct (kvs c H))
section
variable {s s':Sto} {a b m:Nat} {c:Sc} {H:List He}
theorem Hl.ne (P:Hl s a b c H m):a≠b:=fun e=>by have:=P.ob; rw [e,P.dc] at this; cases this
theorem lk_hearers:(hf c b m).lookup ("hearers" : Str)=some (D.r b):=by rfl
noncomputable def obH (s:Sto) (c:Sc) (b m:Nat):Str→Option PyData:=fun f=>((hf c b m).lookup f).bind (pD s)
theorem vwH {η:MEn} (hc:s[a]?=some (.obj 1 (hf c b m))):vw ⟨some (.r a)::η,s⟩=.ob (obH s c b m)::vw ⟨η,s⟩:=by
  unfold vw
  rw [List.map_cons,vwS_obj hc]; rfl
theorem fH_scene (l:En):eFld 0 "scene" (.ob (obH s c b m)::l)=some c.d:=by rfl
theorem F_hear (P:Hl s a b c H m) (hl:H.length≤1000) (hi:∀ x∈H,x.i≠m) {q p:Nat} (hb:F_box_of [c.d,c.s q]=some (c.box (q,p))) (w:Wo) (d:Bool) (A:List De) (o:Bool) :
    ∃ s',F_Hall__hear [.r a,.d (c.s q),.d (.str (wd w)),.d (.bool d),.d (dsD c A),.d (.bool o)] s=some (.d (.int (m:Int)),s')∧Hl s' a b c (H++[⟨m,q,w,d,A,o⟩]) (m+1):=by
  have s1:∃ s1,s1=s.set b (.dct (kvs c (H++[⟨m,q,w,d,A,o⟩]))):=⟨_,rfl⟩
  obtain ⟨s1,e1⟩:=s1
  have o1:s1[a]?=some (.obj 1 (hf c b m)):=by rw [e1,List.getElem?_set_ne P.ne.symm]; exact P.ob
  refine ⟨s1.set a (.obj 1 (hf c b (m+1))),?_,⟨set_at o1,by rw [List.getElem?_set_ne P.ne,e1]; exact set_at P.dc⟩⟩
  refine mRun_of rfl (show g_Hall__hear F_box_of ⟨[some (.r a),some (.d (c.s q)),some (.d (.str (wd w))),some (.d (.bool d)),some (.d (dsD c A)),some (.d (.bool o)),none],s⟩=_ from ?_)
  have k1:mExp (mP (lA F_box_of (aC (eFld 0 "scene") (aC (eV 1) aN)))) ⟨[some (.r a),some (.d (c.s q)),some (.d (.str (wd w))),some (.d (.bool d)),some (.d (dsD c A)),some (.d (.bool o)),none],s⟩=some (.nx ⟨[some (.r a),some (.d (c.s q)),some (.d (.str (wd w))),some (.d (.bool d)),some (.d (dsD c A)),some (.d (.bool o)),none],s⟩):=by
    refine mExp_of (mP_of (x:=c.box (q,p)) ?_)
    rw [vwH P.ob]
    exact lA_of (aC_of (fH_scene _) (aC_of rfl rfl)) hb
  have k2:mSet 6 (mP (eFld 0 "made")) ⟨[some (.r a),some (.d (c.s q)),some (.d (.str (wd w))),some (.d (.bool d)),some (.d (dsD c A)),some (.d (.bool o)),none],s⟩=some (.nx ⟨[some (.r a),some (.d (c.s q)),some (.d (.str (wd w))),some (.d (.bool d)),some (.d (dsD c A)),some (.d (.bool o)),some (.d (.int (m:Int)))],s⟩):=by
    refine mSet_of (mP_of ?_)
    rw [vwH P.ob]; rfl
  refine mSeq_of k1 (mSeq_of k2 (mSeq_of (w1:=⟨[some (.r a),some (.d (c.s q)),some (.d (.str (wd w))),some (.d (.bool d)),some (.d (dsD c A)),some (.d (.bool o)),some (.d (.int (m:Int)))],s1⟩) ?_ (mSeq_of (w1:=⟨[some (.r a),some (.d (c.s q)),some (.d (.str (wd w))),some (.d (.bool d)),some (.d (dsD c A)),some (.d (.bool o)),some (.d (.int (m:Int)))],s1.set a (.obj 1 (hf c b (m+1)))⟩) ?_ (mRet_of (mP_of rfl)))))
  · rw [mPutC_of (d:=.d (heD c ⟨m,q,w,d,A,o⟩)) (kvs:=kvs c H) (mP_of ?_) (mFld_of rfl P.ob lk_hearers) (mP_of rfl) rfl P.dc (by unfold kvs; rw [List.length_map]; omega)]
    · dsimp only
      rw [put_kvs hi,e1]
      unfold kvs
      rw [List.map_append]; rfl
    · exact lA_of (aC_of rfl (aC_of rfl (aC_of rfl (aC_of rfl (aC_of rfl rfl))))) (tup1_ok (by simp))
  · have k4:=mAugF_of (nm := "made") (o:=mV 0) (e:=mP (eC (.int 1))) (i:=(m:Int)) (j:=1) (w:=⟨[some (.r a),some (.d (c.s q)),some (.d (.str (wd w))),some (.d (.bool d)),some (.d (dsD c A)),some (.d (.bool o)),some (.d (.int (m:Int)))],s1⟩) rfl o1 rfl (mP_of rfl) o1 (by show 3 < 999; decide)
    exact k4
theorem F_numbers (P:Hl s a b c H m) (h:c.Ok) (hl:H.length≤1000) (q:Nat) (w:Wo) (d:Bool) :
    F_Hall__numbers [.r a,.d (c.s q),.d (.str (wd w)),.d (.bool d)] s=some (.d (.list ((H.filter (mt q w d)).map fun h=>.int (h.i:Int))),s):=by
  refine mRun_of rfl (show g_Hall__numbers ⟨[some (.r a),some (.d (c.s q)),some (.d (.str (wd w))),some (.d (.bool d)),none],s⟩=_ from ?_)
  refine mSeq_of (w1:=⟨[some (.r a),some (.d (c.s q)),some (.d (.str (wd w))),some (.d (.bool d)),some (.d (.tuple [c.s q,.str (wd w),.bool d]))],s⟩) (mSet_of (mP_of (lA_of (aC_of rfl (aC_of rfl (aC_of rfl rfl))) (tup1_ok (by simp))))) (mRet_of ?_)
  have e1:sComp [none,none,some 4] (fun _=>some (itemsD (H.map fun h=>(Sum.inl (h.i:Int),heD c h)))) (tgT (tgCons (tgN 0) (tgCons (tgN 1) tgNil))) (bT (l2 pEq (eSl (eV 1) pN (pS (eC (.int 3)))) (eV 2))) (eV 0) (vw ⟨[some (.r a),some (.d (c.s q)),some (.d (.str (wd w))),some (.d (.bool d)),some (.d (.tuple [c.s q,.str (wd w),.bool d]))],s⟩)=some ((H.filter (mt q w d)).map fun h=>.int (h.i:Int)):=by
    have ei:itemsD (H.map fun h=>(Sum.inl (h.i:Int),heD c h))=H.map fun h=>.tuple [.int (h.i:Int),heD c h]:=by
      unfold itemsD
      rw [List.map_map]; rfl
    rw [ei]
    refine comp_eq rfl (by rw [List.length_map]; omega) ?_
    refine cGo_map (t:=tgT (tgCons (tgN 0) (tgCons (tgN 1) tgNil))) (p:=bT (l2 pEq (eSl (eV 1) pN (pS (eC (.int 3)))) (eV 2))) (f:=eV 0) (η:=[.un,.un,.val (.tuple [c.s q,.str (wd w),.bool d])]) (fun h=>.tuple [.int (h.i:Int),heD c h]) (mt q w d) (fun h=>.int (h.i:Int)) H fun x _=>⟨[.val (.int (x.i:Int)),.val (heD c x),.val (.tuple [c.s q,.str (wd w),.bool d])],rfl,?_,fun _=>rfl⟩
    exact bT_of (l2_of (eSl_of (l:=none) (h:=some ((3:Nat):Int)) (d:=.tuple [c.s x.q,.str (wd x.w),.bool x.d]) rfl rfl (pS_of rfl) (by unfold heD pSl; dsimp only; rw [cut_to]; rfl)) rfl (h.eq3 x.q q x.w w x.d d))
  unfold mItC
  dsimp only [List.getElem?_cons_zero]
  rw [P.ob]
  dsimp only
  rw [lk_hearers]
  dsimp only
  rw [P.dc]
  dsimp only
  rw [dKvs_kvs,Option.bind_some,e1,Option.bind_some,if_pos]
  rw [List.all_eq_true]
  intro x hx
  obtain ⟨y,_,rfl⟩:=List.mem_map.mp hx
  rfl
theorem F_unhear (P:Hl s a b c H m) {i:Nat} {h:He} (hm:h∈H) (u:Un H) (hi:h.i=i) :
    F_Hall__unhear [.r a,.d (.int (i:Int))] s=some (.d .none,s.set b (.dct (kvs c (H.filter fun x=>!decide (x.i=i))))):=by
  subst hi
  refine mRunN (w1:=⟨[some (.r a),some (.d (.int (h.i:Int)))],s.set b (.dct (kvs c (H.filter fun x=>!decide (x.i=h.i))))⟩) rfl (show g_Hall__unhear ⟨[some (.r a),some (.d (.int (h.i:Int)))],s⟩=_ from ?_)
  have k1:=mInC_of (neg:=true) (g:=mP (eV 1)) (o:=mFld (mV 0) "hearers") (w:=⟨[some (.r a),some (.d (.int (h.i:Int)))],s⟩) (mP_of rfl) (mFld_of rfl P.ob lk_hearers) rfl P.dc
  rw [look_kvs u hm] at k1
  have k2:=mPopC_of (o:=mFld (mV 0) "hearers") (g:=mP (eV 1)) (w:=⟨[some (.r a),some (.d (.int (h.i:Int)))],s⟩) (mFld_of rfl P.ob lk_hearers) P.dc (mP_of rfl) rfl P.dc (look_kvs u hm)
  rw [drop_kvs] at k2
  exact mSeq_of (mIfN k1) (mExp_of k2)
theorem Hl.put (P:Hl s a b c H m) (H':List He):Hl (s.set b (.dct (kvs c H'))) a b c H' m:=⟨by rw [List.getElem?_set_ne P.ne.symm]; exact P.ob,set_at P.dc⟩
structure Fl where
  kp:Bool
  lt:Bool
  en:Bool
noncomputable abbrev f0:Fl:=⟨false,false,false⟩
noncomputable def cf (t:Nat) (w:Wo) (dp:Nat) (f:Fl):List (Str×D):=[("word", .d (.str (wd w))),("depth", .d (.int (dp:Int))),("told", .r t),("is_kept", .d (.bool f.kp)),("is_last_turn", .d (.bool f.lt)),("is_ended", .d (.bool f.en))]
noncomputable def tlD (c:Sc) (T:List He):List D:=T.map fun x=>D.d (rwD c x)
structure Cr (s:Sto) (a b k t:Nat) (c:Sc) (H:List He) (m:Nat) (w:Wo) (dp:Nat) (T:List He) (f:Fl):Prop where
  hl:Hl s a b c H m
  co:s[k]?=some (.obj 0 (cf t w dp f))
  tl:s[t]?=some (.lst (tlD c T))
structure Kp (s s':Sto) (k t:Nat):Prop where
  len:s.length≤s'.length
  kp:∀ j,j < s.length→j≠k→j≠t→s'[j]?=s[j]?
variable {k t dp:Nat} {w:Wo} {T:List He} {f:Fl}
theorem Cr.kt (P:Cr s a b k t c H m w dp T f):k≠t:=fun e=>by have:=P.co; rw [e,P.tl] at this; cases this
theorem Cr.kb (P:Cr s a b k t c H m w dp T f):k≠b:=fun e=>by have:=P.co; rw [e,P.hl.dc] at this; cases this
theorem Cr.at' (P:Cr s a b k t c H m w dp T f):a≠t:=fun e=>by have:=P.hl.ob; rw [e,P.tl] at this; cases this
theorem Cr.bt (P:Cr s a b k t c H m w dp T f):b≠t:=fun e=>by have:=P.hl.dc; rw [e,P.tl] at this; cases this
theorem Cr.more (P:Cr s a b k t c H m w dp T f) (x:He):Cr (s.set t (.lst (tlD c (T++[x])))) a b k t c H m w dp (T++[x]) f:=⟨⟨by rw [List.getElem?_set_ne P.at'.symm]; exact P.hl.ob,by rw [List.getElem?_set_ne P.bt.symm]; exact P.hl.dc⟩,by rw [List.getElem?_set_ne P.kt.symm]; exact P.co,set_at P.tl⟩
theorem lk_told:(cf t w dp f).lookup ("told" : Str)=some (D.r t):=by rfl
end
theorem eFld_of {w:Wd} {i k kk:Nat} {fs:List (Str×D)} {f:Str} {x:PyData} (h1:w.η[i]?=some (some (.r k))) (h2:w.s[k]?=some (.obj kk fs)) (h3:fs.lookup f=some (.d x)):eFld i f (vw w)=some x:=by
  unfold eFld vw
  rw [List.getElem?_map,h1]
  show (match some (vwS (pD w.s) w.s (some (.r k))) with | some (.ob fs)=>fs f | _=>none)=_
  rw [vwS_obj h2]
  show (fs.lookup f).bind _=_
  rw [h3]; rfl
theorem set_app {s:Sto} {l:Nat} {x y:Cell} (e:l=s.length):(s++[x]).set l y=s++[y]:=by
  subst e
  rw [List.set_append_right _ _ (Nat.le_refl _),Nat.sub_self]; rfl
theorem at_app {s:Sto} {l:Nat} {x:Cell} (e:l=s.length):(s++[x])[l]?=some x:=by
  subst e
  rw [List.getElem?_append_right (Nat.le_refl _),Nat.sub_self]; rfl
theorem F_course {s:Sto} (t:Nat) (w:Wo) (dp:Nat):F_Course____init__ [.r s.length,.d (.str (wd w)),.d (.int (dp:Int)),.r t] (s++[.obj 0 []])=some (.d .none,s++[.obj 0 (cf t w dp f0)]):=by
  refine mRunN (w1:=⟨[some (.r s.length),some (.d (.str (wd w))),some (.d (.int (dp:Int))),some (.r t)],s++[.obj 0 (cf t w dp f0)]⟩) rfl ?_
  show g_Course____init__ ⟨[some (.r s.length),some (.d (.str (wd w))),some (.d (.int (dp:Int))),some (.r t)],s++[.obj 0 []]⟩=_
  have st:∀ (nm:Str) (e:MF) (d:D) (fs:List (Str×D)),fs.length < 999→(∀ s0,e ⟨[some (.r s.length),some (.d (.str (wd w))),some (.d (.int (dp:Int))),some (.r t)],s0⟩=some (d,s0))→mPut 0 nm (mV 0) e ⟨[some (.r s.length),some (.d (.str (wd w))),some (.d (.int (dp:Int))),some (.r t)],s++[.obj 0 fs]⟩=some (.nx ⟨[some (.r s.length),some (.d (.str (wd w))),some (.d (.int (dp:Int))),some (.r t)],s++[.obj 0 (putA nm d fs)]⟩):=fun nm e d fs hl he=>by
    rw [mPut_of (he _) rfl (at_app rfl) hl,set_app rfl]
  refine mSeq_of (st _ _ (.d (.str (wd w))) _ (by decide) fun _=>mP_of rfl) (mSeq_of (st _ _ (.d (.int (dp:Int))) _ (by show 1 < 999; decide) fun _=>mP_of rfl) (mSeq_of (st _ _ (.r t) _ (by show 2 < 999; decide) fun _=>rfl) (mSeq_of (st _ _ (.d (.bool false)) _ (by show 3 < 999; decide) fun _=>mP_of rfl) (mSeq_of (st _ _ (.d (.bool false)) _ (by show 4 < 999; decide) fun _=>mP_of rfl) (st _ _ (.d (.bool false)) _ (by show 5 < 999; decide) fun _=>mP_of rfl)))))
end K15
namespace K15
open PySem L2 L2.PU
section
variable {c:Sc}
theorem F_hb (h:c.Ok) {q:Nat}:F_has_box [c.d,c.s q]=some (.bool (c.st.any fun x=>decide (x.1=q))):=by
  have e:sComp [none,some 1] (lI asTu (eV 0)) (tgN 0) tTrue (l2 pEq (l2 pIx (eV 0) (eC (.int 0))) (eV 1)) [.val c.d,.val (c.s q)]=some ((c.st.map fun x=>decide (x.1=q)).map PyData.bool):=by
    refine comp_eq (ds:=c.st.map c.box) (lI_of rfl rfl) (by rw [List.length_map]; have:=h.len; omega) ?_
    rw [List.map_map]
    exact cGo_mapT (η:=[.un,.val (c.s q)]) c.box (fun x=>.bool (decide (x.1=q))) c.st fun x hx=>⟨[.val (c.box x),.val (c.s q)],rfl,l2_of (l2_of rfl rfl rfl) rfl (h.eqs x.1 q)⟩
  have e2:=lA_of (aC_of (g:=aN) (oE_of e) rfl) (pAny_of _)
  rw [List.any_map] at e2
  exact run_of rfl (show g_has_box [.val c.d,.val (c.s q)]=_ from ret_of e2)
end
noncomputable def Dr.sc (c:Dr):Sc:=⟨stF c.ps,c.nm,fun i=>c.L (i - 1),fun i=>c.T (i - 1),fun i=>c.W (i - 1),fun i=>c.H (i - 1),fun i=>c.mr (i - 1)⟩
theorem Dr.sc_d (c:Dr):c.sc.d=c.d:=by
  unfold Sc.d Dr.d Dr.sc stF
  dsimp only
  rw [List.map_map]
  rfl
theorem Dr.sc_ok {c:Dr} (h:c.Ok):c.sc.Ok:=⟨h.inj,h.top,h.ok,fun a=>h.okm _,by
  show (stF c.ps).length≤12
  unfold stF
  rw [List.length_map,List.length_range]; exact h.len⟩
noncomputable def dT (x:Nat):Nat×Bool:=(x,true)
noncomputable def dF (x:Nat):Nat×Bool:=(x,false)
noncomputable def trn (l:List Nat):List (Nat×Bool):=l.map dT++l.reverse.map dF
theorem trn_len (l:List Nat):(trn l).length=l.length+l.length:=by unfold trn; simp
theorem trn_mem {l:List Nat} {x:Nat×Bool} (h:x∈trn l):x.1∈l:=by
  unfold trn at h
  rcases List.mem_append.mp h with z | z
  · obtain ⟨u,hu,rfl⟩:=List.mem_map.mp z; exact hu
  · obtain ⟨u,hu,rfl⟩:=List.mem_map.mp z; exact List.mem_reverse.mp hu
noncomputable def tls (H:List He) (w:Wo) (ts:List (Nat×Bool)):List He:=ts.flatMap fun x=>H.filter (mt x.1 w x.2)
theorem tls_app (H:List He) (w:Wo) (A B:List (Nat×Bool)):tls H w (A++B)=tls H w A++tls H w B:=by unfold tls; rw [List.flatMap_append]
theorem tls_len (H:List He) (w:Wo) (A:List (Nat×Bool)):(tls H w A).length≤A.length*H.length:=flat_len fun _ _=>List.length_filter_le _ _
theorem tls_mem {H:List He} {w:Wo} {A:List (Nat×Bool)} {h:He}:h∈tls H w A↔h∈H∧h.w=w∧(h.q,h.d)∈A:=by
  unfold tls
  rw [List.mem_flatMap]
  constructor
  · rintro ⟨x,hx,z⟩
    obtain ⟨z1,z2⟩:=List.mem_filter.mp z
    obtain ⟨e1,e2,e3⟩:=mt_iff.mp z2
    refine ⟨z1,e2,?_⟩
    rw [e1,e3]; exact hx
  · rintro ⟨h1,h2,h3⟩
    exact ⟨_,h3,List.mem_filter.mpr ⟨h1,mt_iff.mpr ⟨rfl,h2,rfl⟩⟩⟩
noncomputable def trD (c:Sc) (x:Nat×Bool):PyData:=.tuple [c.s x.1,.bool x.2]
end K15
namespace K15
open PySem L2 L2.PU
theorem eq_lit {x y:Str} (hx:PyData.strOk x=true) (hy:PyData.strOk y=true) {b:Bool} (e:decide (x=y)=b):pEq (.str x) (.str y)=some (.bool b):=by rw [pEq_str hx hy,e]
structure Hs (ps:List Nat) (H:List He):Prop where
  un:Un H
  nd:H.Nodup
  o:∀ h∈H,h.o=true
  a:∀ h∈H,h.a=[]∨∃ q,In ps q∧h.a=[.call q]
  len:H.length≤100
theorem Hs.sub {ps:List Nat} {H H':List He} (x:Hs ps H) (s:H'.Sublist H):Hs ps H' :=
  ⟨fun a ha b hb=>x.un a (s.subset ha) b (s.subset hb),List.Pairwise.sublist s x.nd,fun h hh=>x.o h (s.subset hh),fun h hh=>x.a h (s.subset hh),Nat.le_trans s.length_le x.len⟩
theorem perm_drop {H:List He} (u:Un H) (nd:H.Nodup) {h:He} (m:h∈H):(h::H.filter fun x=>!decide (x.i=h.i)).Perm H:=by
  have e:(H.filter fun x=>!decide (x.i=h.i))=H.erase h:=by
    rw [nd.erase_eq_filter]
    refine List.filter_congr fun x hx=>?_
    by_cases z:x=h
    · subst z; simp
    · have:x.i≠h.i:=fun y=>z (u x hx h m y)
      simp [this,z]
  rw [e]
  exact (List.perm_cons_erase m).symm
structure Ev (w:Wo) (H H' L:List He):Prop where
  perm:(L++H').Perm H
  sub:H'.Sublist H
  wd:(∀ h∈H,h.w=w→h.a=[])→∀ x∈L,x.w=w
theorem Ev.refl {w:Wo} {H:List He}:Ev w H H []:=⟨List.Perm.refl _,List.Sublist.refl _,fun _ _ h=>by cases h⟩
theorem Ev.trans {w:Wo} {H H1 H2 L1 L2:List He} (x:Ev w H H1 L1) (y:Ev w H1 H2 L2):Ev w H H2 (L1++L2) :=
  ⟨by rw [List.append_assoc]; exact (List.Perm.append_left L1 y.perm).trans x.perm,y.sub.trans x.sub,fun h z hz=>by
    rcases List.mem_append.mp hz with u | u
    · exact x.wd h z u
    · exact y.wd (fun g hg=>h g (x.sub.subset hg)) z u⟩
theorem Ev.len {w:Wo} {H H' L:List He} (x:Ev w H H' L):L.length+H'.length=H.length:=by rw [← List.length_append]; exact x.perm.length_eq
structure Kb (s s':Sto) (b t:Nat):Prop where
  len:s.length≤s'.length
  kp:∀ j,j < s.length→j≠b→j≠t→s'[j]?=s[j]?
theorem Kb.refl {s:Sto} {b t:Nat}:Kb s s b t:=⟨Nat.le_refl _,fun _ _ _ _=>rfl⟩
theorem Kb.trans {s s1 s2:Sto} {b t:Nat} (x:Kb s s1 b t) (y:Kb s1 s2 b t):Kb s s2 b t:=⟨Nat.le_trans x.len y.len,fun j h1 h2 h3=>by rw [y.kp j (Nat.lt_of_lt_of_le h1 x.len) h2 h3,x.kp j h1 h2 h3]⟩
theorem has_in {c:Sc} {ps:List Nat} (tr:Tr c ps) {q:Nat} (hq:In ps q):F_has_box [c.d,c.s q]=some (.bool true):=by
  rw [F_hb tr.ok]
  congr 2
  rw [List.any_eq_true]
  refine ⟨(q,par ps q),?_,by simp⟩
  rw [tr.st]
  exact mem_st hq.1 hq.2
section
variable {a b t m:Nat} {c:Sc} {ps:List Nat} {fh:List D→Sto→Option (D×Sto)}
noncomputable def Al (a b t m:Nat) (c:Sc) (ps:List Nat) (fh:List D→Sto→Option (D×Sto)) (dp:Nat):Prop:=∀ (s:Sto) (k:Nat) (H T:List He) (q:Nat),In ps q→Cr s a b k t c H m .u dp T f0→Hs ps H→T.length+H.length≤1000 →
  ∃ s' H' L,fh [.r a,.d (c.s q),.r k] s=some (.d (.bool false),s')∧Cr s' a b k t c H' m .u dp (T++L) f0∧Ev .u H H' L∧Kb s s' b t
variable {s:Sto} {k dp:Nat} {w:Wo} {H T:List He}
theorem F_deed (tr:Tr c ps) (hA:dp < 3→Al a b t m c ps fh (dp+1)) (P:Cr s a b k t c H m w dp T f0) (hs:Hs ps H) (hl:T.length+H.length≤1000) {q:Nat} (hv:In ps q) :
    ∃ s' H' L,H_Hall__do_deed fh [.r a,.d (deD c (.call q)),.r k] s=some (.d .none,s')∧Cr s' a b k t c H' m w dp (T++L) f0∧Ev .u H H' L∧Kb s s' b t:=by
  have run:∀ s',g_Hall__do_deed F_Hall__unhear_if_there F_has_box (H_Hall__do_deed_on_box fh) ⟨[some (.r a),some (.d (deD c (.call q))),some (.r k)],s⟩=some (.nx ⟨[some (.r a),some (.d (deD c (.call q))),some (.r k)],s'⟩)→H_Hall__do_deed fh [.r a,.d (deD c (.call q)),.r k] s=some (.d .none,s'):=fun s' e=>mRunN (ds:=[.r a,.d (deD c (.call q)),.r k]) (a:=3) (b:=3) (g:=g_Hall__do_deed F_Hall__unhear_if_there F_has_box (H_Hall__do_deed_on_box fh)) rfl e
  have tst:∀ (y:Str),PyData.strOk y=true→decide (("call" : Str)=y)=false→tPv (bT (l2 pEq (l2 pIx (eV 1) (eC (.int 0))) (eC (.str y)))) ⟨[some (.r a),some (.d (deD c (.call q))),some (.r k)],s⟩=some (false,s):=fun y h1 h2=>tPv_of (bT_of (l2_of (l2_of rfl rfl rfl) rfl (eq_lit (by decide +kernel) h1 h2)))
  have t5:tPv (bT (lA F_has_box (aC (eFld 0 "scene") (aC (l2 pIx (eV 1) (eC (.int 1))) aN)))) ⟨[some (.r a),some (.d (deD c (.call q))),some (.r k)],s⟩=some (true,s):=tPv_of (bT_of (lA_of (aC_of (eFld_of rfl P.hl.ob rfl) (aC_of (l2_of rfl rfl rfl) rfl)) (has_in tr hv)))
  have onb:∀ s',g_Hall__do_deed_on_box F_Hall__hear F_Hall__cut fh F_Course____init__ ⟨[some (.r a),some (.d (deD c (.call q))),some (.r k)],s⟩=some (.nx ⟨[some (.r a),some (.d (deD c (.call q))),some (.r k)],s'⟩)→H_Hall__do_deed fh [.r a,.d (deD c (.call q)),.r k] s=some (.d .none,s'):=fun s' e=>by
    refine run s' (mIfF (tst "keep" (by decide +kernel) (by decide +kernel)) (mIfF (tst "stop" (by decide +kernel) (by decide +kernel)) (mIfF (tst "stopnow" (by decide +kernel) (by decide +kernel)) (mIfF (tst "unhear" (by decide +kernel) (by decide +kernel)) (mIfT t5 ?_)))))
    have e2:H_Hall__do_deed_on_box fh [.r a,.d (deD c (.call q)),.r k] s=some (.d .none,s'):=mRunN (ds:=[.r a,.d (deD c (.call q)),.r k]) (a:=3) (b:=3) (g:=g_Hall__do_deed_on_box F_Hall__hear F_Hall__cut fh F_Course____init__) rfl e
    exact mExp_of (mMeth_of rfl P.hl.ob rfl (maC_of (mP_of rfl) (maC_of rfl maN_of)) e2)
  have t6:tPv (bT (l2 pLt (eFld 2 "depth") (eC (.int 3)))) ⟨[some (.r a),some (.d (deD c (.call q))),some (.r k)],s⟩=some (decide ((dp:Int) < 3),s):=tPv_of (bT_of (l2_of (eFld_of rfl P.co rfl) rfl rfl))
  by_cases hd:dp < 3
  · have lk:=lt_of P.co
    have lt':=lt_of P.tl
    have C0:Cr (s++[.obj 0 (cf t .u (dp+1) f0)]) a b s.length t c H m .u (dp+1) T f0:=⟨⟨by rw [List.getElem?_append_left (lt_of P.hl.ob)]; exact P.hl.ob,by rw [List.getElem?_append_left (lt_of P.hl.dc)]; exact P.hl.dc⟩,at_app rfl,by rw [List.getElem?_append_left lt']; exact P.tl⟩
    obtain ⟨s2,H2,L,r1,C,E,K2⟩:=hA hd _ _ H T q hv C0 hs hl
    have l1:(s++[Cell.obj 0 (cf t .u (dp+1) f0)]).length=s.length+1:=by simp
    refine ⟨s2,H2,L,onb s2 ?_,⟨C.hl,?_,C.tl⟩,E,⟨by have:=K2.len; omega,fun j h1 h2 h3=>?_⟩⟩
    · have k3:=mMake_of (k:=0) (fn:=F_Course____init__) (w:=⟨[some (.r a),some (.d (deD c (.call q))),some (.r k)],s⟩) (fs:=maC (mP (l2 pIx (eV 1) (eC (.int 2)))) (maC (mP (l2 pAdd (eFld 2 "depth") (eC (.int 1)))) (maC (mFld (mV 2) "told") maN))) (maC_of (mP_of (l2_of rfl rfl rfl)) (maC_of (mP_of (l2_of (eFld_of rfl P.co rfl) rfl (show pAdd (.int (dp:Int)) (.int 1)=some (.int ((dp+1:Nat):Int)) from rfl))) (maC_of (mFld_of rfl P.co lk_told) maN_of))) (F_course t .u (dp+1))
      refine mIfF (tst "hear" (by decide +kernel) (by decide +kernel)) (mIfF (tst "cut" (by decide +kernel) (by decide +kernel)) (mIfT (t6.trans (by rw [decide_eq_true (by omega)])) (mExp_of (mMeth_of rfl P.hl.ob rfl (maC_of (mP_of (l2_of rfl rfl rfl)) (maC_of k3 maN_of)) r1))))
    · rw [K2.kp k (by omega) P.kb P.kt,List.getElem?_append_left lk]; exact P.co
    · rw [K2.kp j (by omega) h2 h3,List.getElem?_append_left h1]
  · refine ⟨s,H,[],onb s (mIfF (tst "hear" (by decide +kernel) (by decide +kernel)) (mIfF (tst "cut" (by decide +kernel) (by decide +kernel)) (mIfN (t6.trans (by rw [decide_eq_false (by omega)]))))),by rw [List.append_nil]; exact P,Ev.refl,Kb.refl⟩
theorem F_rouse (tr:Tr c ps) (hA:dp < 3→Al a b t m c ps fh (dp+1)) (P:Cr s a b k t c H m w dp T f0) (hs:Hs ps H) (hl:T.length+H.length≤1000) {h:He} (hm:h∈H) (hw:h.w=w) :
    ∃ s' H' L,H_Hall__rouse fh [.r a,.d (.int (h.i:Int)),.r k] s=some (.d .none,s')∧Cr s' a b k t c H' m w dp (T++L) f0∧Ev w H H' L∧h∉H'∧Kb s s' b t:=by
  have P1:=P.more h
  have s1:∃ s1,s1=s.set t (.lst (tlD c (T++[h]))):=⟨_,rfl⟩
  obtain ⟨s1,e1⟩:=s1
  have K1:Kb s s1 b t:=by rw [e1]; exact ⟨by rw [List.length_set]; exact Nat.le_refl _,fun j _ _ h3=>List.getElem?_set_ne (Ne.symm h3)⟩
  rw [← e1] at P1
  have H1:∃ H1,H1=H.filter fun x=>!decide (x.i=h.i):=⟨_,rfl⟩
  obtain ⟨H1,eH1⟩:=H1
  have sub1:H1.Sublist H:=by rw [eH1]; exact List.filter_sublist
  have pm:(h::H1).Perm H:=by rw [eH1]; exact perm_drop hs.un hs.nd hm
  have hs1:=hs.sub sub1
  have hn1:h∉H1:=fun z=>by
    rw [eH1] at z
    simpa using (List.mem_filter.mp z).2
  have un:=F_unhear P1.hl hm hs.un rfl
  rw [← eH1] at un
  have s2:∃ s2,s2=s1.set b (.dct (kvs c H1)):=⟨_,rfl⟩
  obtain ⟨s2,e2⟩:=s2
  have P2:Cr s2 a b k t c H1 m w dp (T++[h]) f0:=by
    rw [e2]
    exact ⟨P1.hl.put H1,by rw [List.getElem?_set_ne P1.kb.symm]; exact P1.co,by rw [List.getElem?_set_ne P1.bt]; exact P1.tl⟩
  have K2:Kb s1 s2 b t:=by rw [e2]; exact ⟨by rw [List.length_set]; exact Nat.le_refl _,fun j _ h2 _=>List.getElem?_set_ne (Ne.symm h2)⟩
  rw [← e2] at un
  have ln:(T++[h]).length+H1.length≤1000:=by
    have:=pm.length_eq
    rw [List.length_cons] at this
    rw [List.length_append,List.length_singleton]
    omega
  have Eh:Ev w H H1 [h]:=⟨pm,sub1,fun _ x hx=>by rw [List.mem_singleton.mp hx]; exact hw⟩
  have deeds:∃ s3 H2 L x4,mGo [4] (tgN 4) (mExp (mMeth 1 "do_deed" (H_Hall__do_deed fh) (mV 0) (maC (mP (eV 4)) (maC (mV 2) maN)))) (h.a.map (deD c)) ⟨[some (.r a),some (.d (.int (h.i:Int))),some (.r k),some (.d (heD c h)),none],s2⟩=some (.nx ⟨[some (.r a),some (.d (.int (h.i:Int))),some (.r k),some (.d (heD c h)),x4],s3⟩)∧Cr s3 a b k t c H2 m w dp (T++L) f0∧Ev w H H2 L∧H2.Sublist H1∧Kb s2 s3 b t:=by
    rcases hs.a h hm with ha | ⟨q,hq,ha⟩
    · rw [ha]
      exact ⟨s2,H1,[h],none,rfl,P2,Eh,List.Sublist.refl _,Kb.refl⟩
    · obtain ⟨s3,H2,L,r1,C,E,K3⟩:=F_deed tr hA P2 hs1 ln hq
      refine ⟨s3,H2,[h]++L,some (.d (deD c (.call q))),?_,by rw [← List.append_assoc]; exact C,⟨?_,E.sub.trans sub1,fun hz=>?_⟩,E.sub,K3⟩
      · rw [ha,List.map_cons,List.map_nil]
        unfold mGo
        have e0:mTg [4] (tgN 4) ⟨[some (.r a),some (.d (.int (h.i:Int))),some (.r k),some (.d (heD c h)),none],s2⟩ (deD c (.call q))=some ⟨[some (.r a),some (.d (.int (h.i:Int))),some (.r k),some (.d (heD c h)),some (.d (deD c (.call q)))],s2⟩:=rfl
        have e3:mExp (mMeth 1 "do_deed" (H_Hall__do_deed fh) (mV 0) (maC (mP (eV 4)) (maC (mV 2) maN))) ⟨[some (.r a),some (.d (.int (h.i:Int))),some (.r k),some (.d (heD c h)),some (.d (deD c (.call q)))],s2⟩=some (.nx ⟨[some (.r a),some (.d (.int (h.i:Int))),some (.r k),some (.d (heD c h)),some (.d (deD c (.call q)))],s3⟩):=mExp_of (mMeth_of rfl P2.hl.ob rfl (maC_of (mP_of rfl) (maC_of rfl maN_of)) r1)
        rw [e0,Option.bind_some,e3,Option.bind_some]; rfl
      · rw [List.append_assoc]
        exact (List.Perm.append_left [h] E.perm).trans pm
      · have:=hz h hm hw
        rw [ha] at this
        cases this
  obtain ⟨s3,H2,L,x4,d1,C3,E3,sb3,K3⟩:=deeds
  refine ⟨s3,H2,L,?_,C3,E3,fun z=>hn1 (sb3.subset z),(K1.trans K2).trans K3⟩
  have hT:T.length≤3000000:=by omega
  have g1:g_Hall__rouse F_Hall__unhear (H_Hall__do_deed fh) ⟨[some (.r a),some (.d (.int (h.i:Int))),some (.r k),none,none],s⟩=some (.nx ⟨[some (.r a),some (.d (.int (h.i:Int))),some (.r k),some (.d (heD c h)),x4],s3⟩):=by
    have k1:=mAtC_of (o:=mFld (mV 0) "hearers") (g:=mP (eV 1)) (w:=⟨[some (.r a),some (.d (.int (h.i:Int))),some (.r k),none,none],s⟩) (mFld_of rfl P.hl.ob lk_hearers) (mP_of rfl) rfl P.hl.dc (look_kvs hs.un hm)
    have ho:tPv (bT (l2 pIx (eV 3) (eC (.int 4)))) ⟨[some (.r a),some (.d (.int (h.i:Int))),some (.r k),some (.d (heD c h)),none],s1⟩=some (true,s1):=tPv_of (bT_of (l2_of rfl rfl (show _=some (PyData.bool true) by rw [← hs.o h hm]; rfl)))
    refine mSeq_of (mSet_of k1) (mSeq_of (w1:=⟨[some (.r a),some (.d (.int (h.i:Int))),some (.r k),some (.d (heD c h)),none],s1⟩) ?_ (mSeq_of (w1:=⟨[some (.r a),some (.d (.int (h.i:Int))),some (.r k),some (.d (heD c h)),none],s2⟩) (mIfT ho (mExp_of (mMeth_of rfl P1.hl.ob rfl (maC_of (mP_of rfl) maN_of) un))) (mFor_of (iPu_of (lI_of (l2_of rfl rfl rfl) rfl)) d1)))
    rw [e1,show tlD c (T++[h])=tlD c T++[D.d (rwD c h)] by unfold tlD; rw [List.map_append]; rfl]
    refine mExp_of (mAppC_of (mFld_of rfl P.co lk_told) P.tl (mP_of ?_) P.tl (by rw [tlD,List.length_map]; exact hT))
    exact lA_of (aC_of rfl (aC_of (l2_of rfl rfl rfl) (aC_of (l2_of rfl rfl rfl) (aC_of (l2_of rfl rfl rfl) rfl)))) (tup1_ok (by simp))
  exact mRunN (ds:=[.r a,.d (.int (h.i:Int)),.r k]) (a:=3) (b:=5) (g:=g_Hall__rouse F_Hall__unhear (H_Hall__do_deed fh)) rfl g1
end
end K15
namespace K15
open PySem L2 L2.PU
section
variable {a b t m:Nat} {c:Sc} {ps:List Nat} {fh:List D→Sto→Option (D×Sto)} {k dp:Nat} {w:Wo}
theorem turn_go (tr:Tr c ps) (hA:dp < 3→Al a b t m c ps fh (dp+1)) {H0:List He} (u0:Un H0) {q:Nat} {d:Bool}:∀ (S H T:List He) (s:Sto) (x4:Option D),(∀ h∈S,h∈H0∧h.w=w)→H.Sublist H0→Cr s a b k t c H m w dp T f0→Hs ps H→T.length+H.length≤1000 →
    ∃ s' H' L y4,mGo [4] (tgN 4) (mIf (tmAnd (mInC false (mP (eV 4)) (mFld (mV 0) "hearers")) (tPv (bNot (bT (eFld 3 "is_ended"))))) (mExp (mMeth 1 "rouse" (H_Hall__rouse fh) (mV 0) (maC (mP (eV 4)) (maC (mV 3) maN)))) mNx) (S.map fun h:He=>PyData.int (h.i:Int)) ⟨[some (.r a),some (.d (c.s q)),some (.d (.bool d)),some (.r k),x4],s⟩=some (.nx ⟨[some (.r a),some (.d (c.s q)),some (.d (.bool d)),some (.r k),y4],s'⟩)∧Cr s' a b k t c H' m w dp (T++L) f0∧Ev w H H' L∧(∀ h∈S,h∉H')∧Kb s s' b t∧(S=[]→H'=H∧L=[])
  | [],H,T,s,x4,_,_,P,_,_=>⟨s,H,[],x4,rfl,by rw [List.append_nil]; exact P,Ev.refl,(fun _ h=>nomatch h),Kb.refl,fun _=>⟨rfl,rfl⟩⟩
  | x::r,H,T,s,x4,hS,hH,P,hs,hl=>by
    obtain ⟨x0,xw⟩:=hS x List.mem_cons_self
    have e0:mTg [4] (tgN 4) ⟨[some (.r a),some (.d (c.s q)),some (.d (.bool d)),some (.r k),x4],s⟩ (.int (x.i:Int))=some ⟨[some (.r a),some (.d (c.s q)),some (.d (.bool d)),some (.r k),some (.d (.int (x.i:Int)))],s⟩:=rfl
    have k1:=mInC_of (neg:=false) (g:=mP (eV 4)) (o:=mFld (mV 0) "hearers") (w:=⟨[some (.r a),some (.d (c.s q)),some (.d (.bool d)),some (.r k),some (.d (.int (x.i:Int)))],s⟩) (mP_of rfl) (mFld_of rfl P.hl.ob lk_hearers) rfl P.hl.dc
    have st:∃ s1 H1 L1,mIf (tmAnd (mInC false (mP (eV 4)) (mFld (mV 0) "hearers")) (tPv (bNot (bT (eFld 3 "is_ended"))))) (mExp (mMeth 1 "rouse" (H_Hall__rouse fh) (mV 0) (maC (mP (eV 4)) (maC (mV 3) maN)))) mNx ⟨[some (.r a),some (.d (c.s q)),some (.d (.bool d)),some (.r k),some (.d (.int (x.i:Int)))],s⟩=some (.nx ⟨[some (.r a),some (.d (c.s q)),some (.d (.bool d)),some (.r k),some (.d (.int (x.i:Int)))],s1⟩)∧Cr s1 a b k t c H1 m w dp (T++L1) f0∧Ev w H H1 L1∧x∉H1∧Kb s s1 b t:=by
      by_cases hx:x∈H
      · rw [look_kvs hs.un hx] at k1
        obtain ⟨s1,H1,L1,r1,C1,E1,n1,K1⟩:=F_rouse (fh:=fh) tr hA P hs hl hx xw
        exact ⟨s1,H1,L1,mIfT (tmAndS k1 (tPv_of (bNot_of (b:=false) (bT_of (eFld_of rfl P.co rfl))))) (mExp_of (mMeth_of rfl P.hl.ob rfl (maC_of (mP_of rfl) (maC_of rfl maN_of)) r1)),C1,E1,n1,K1⟩
      · have hn:∀ y∈H,y.i≠x.i:=fun y hy z=>hx (by rw [← u0 y (hH.subset hy) x x0 z]; exact hy)
        rw [look_none hn] at k1
        exact ⟨s,H,[],mIfN (tmAndF k1),by rw [List.append_nil]; exact P,Ev.refl,hx,Kb.refl⟩
    obtain ⟨s1,H1,L1,e1,C1,E1,n1,K1⟩:=st
    have l1:(T++L1).length+H1.length≤1000:=by
      have:=E1.len
      rw [List.length_append]; omega
    obtain ⟨s2,H2,L2,y4,e2,C2,E2,n2,K2,_⟩:=turn_go tr hA u0 (q:=q) (d:=d) r H1 (T++L1) s1 (some (.d (.int (x.i:Int)))) (fun h hh=>hS h (List.mem_cons_of_mem _ hh)) (E1.sub.trans hH) C1 (hs.sub E1.sub) l1
    refine ⟨s2,H2,L1++L2,y4,?_,by rw [← List.append_assoc]; exact C2,E1.trans E2,fun h hh=>?_,K1.trans K2,fun z=>by cases z⟩
    · rw [List.map_cons]
      unfold mGo
      rw [e0,Option.bind_some,e1,Option.bind_some]
      exact e2
    · rcases List.mem_cons.mp hh with z | z
      · rw [z]; exact fun y=>n1 (E2.sub.subset y)
      · exact n2 h z
theorem F_turn (tr:Tr c ps) (hA:dp < 3→Al a b t m c ps fh (dp+1)) {s:Sto} {H T:List He} (P:Cr s a b k t c H m w dp T f0) (hs:Hs ps H) (hl:T.length+H.length≤1000) (q:Nat) (d:Bool) :
    ∃ s' H' L,H_Hall__give_turn fh [.r a,.d (c.s q),.d (.bool d),.r k] s=some (.d .none,s')∧Cr s' a b k t c H' m w dp (T++L) f0∧Ev w H H' L∧(∀ h∈H',¬ mt q w d h=true)∧Kb s s' b t∧((∀ h∈H,¬ mt q w d h=true)→H'=H∧L=[]):=by
  obtain ⟨s',H',L,y4,e1,C,E,n1,K,z⟩:=turn_go (fh:=fh) tr hA hs.un (q:=q) (d:=d) (H.filter (mt q w d)) H T s none (fun h hh=>⟨(List.mem_filter.mp hh).1,(mt_iff.mp (List.mem_filter.mp hh).2).2.1⟩) (List.Sublist.refl _) P hs hl
  refine ⟨s',H',L,?_,C,E,fun h hh hz=>n1 h (List.mem_filter.mpr ⟨E.sub.subset hh,hz⟩) hh,K,fun hz=>z (by rw [List.filter_eq_nil_iff]; exact hz)⟩
  have e4:g_Hall__give_turn F_Hall__numbers (H_Hall__rouse fh) ⟨[some (.r a),some (.d (c.s q)),some (.d (.bool d)),some (.r k),none],s⟩=_:=mFor_of (iM_of (mMeth_of rfl P.hl.ob rfl (maC_of (mP_of rfl) (maC_of (mP_of (eFld_of rfl P.co rfl)) (maC_of (mP_of rfl) maN_of))) (F_numbers P.hl tr.ok (Nat.le_trans hs.len (by decide)) q w d))) e1
  exact mRunN (ds:=[.r a,.d (c.s q),.d (.bool d),.r k]) (a:=4) (b:=5) (g:=g_Hall__give_turn F_Hall__numbers (H_Hall__rouse fh)) rfl e4
theorem along_go (tr:Tr c ps) (hA:dp < 3→Al a b t m c ps fh (dp+1)) {q:Nat} {l L0:PyData}:∀ (A:List (Nat×Bool)) (H T:List He) (s:Sto) (x5 x6:Option D),(∀ x∈A,In ps x.1)→Cr s a b k t c H m w dp T f0→Hs ps H→T.length+H.length≤1000 →
    ∃ s' H' L y5 y6,mGo [5,6] (tgT (tgCons (tgN 5) (tgCons (tgN 6) tgNil))) (mIf (tPv (bAnd (bT (lA F_has_box (aC (eFld 0 "scene") (aC (eV 5) aN)))) (bNot (bT (eFld 2 "is_last_turn"))))) (mExp (mMeth 1 "give_turn" (H_Hall__give_turn fh) (mV 0) (maC (mP (eV 5)) (maC (mP (eV 6)) (maC (mV 2) maN))))) mNx) (A.map (trD c)) ⟨[some (.r a),some (.d (c.s q)),some (.r k),some (.d l),some (.d L0),x5,x6],s⟩=some (.nx ⟨[some (.r a),some (.d (c.s q)),some (.r k),some (.d l),some (.d L0),y5,y6],s'⟩)∧Cr s' a b k t c H' m w dp (T++L) f0∧Ev w H H' L∧(∀ x∈A,∀ h∈H',¬ mt x.1 w x.2 h=true)∧Kb s s' b t∧((∀ x∈A,∀ h∈H,¬ mt x.1 w x.2 h=true)→H'=H∧L=[])
  | [],H,T,s,x5,x6,_,P,_,_=>⟨s,H,[],x5,x6,rfl,by rw [List.append_nil]; exact P,Ev.refl,(fun _ h=>nomatch h),Kb.refl,fun _=>⟨rfl,rfl⟩⟩
  | x::r,H,T,s,x5,x6,hI,P,hs,hl=>by
    have e0:mTg [5,6] (tgT (tgCons (tgN 5) (tgCons (tgN 6) tgNil))) ⟨[some (.r a),some (.d (c.s q)),some (.r k),some (.d l),some (.d L0),x5,x6],s⟩ (trD c x)=some ⟨[some (.r a),some (.d (c.s q)),some (.r k),some (.d l),some (.d L0),some (.d (c.s x.1)),some (.d (.bool x.2))],s⟩:=rfl
    have k1:tPv (bAnd (bT (lA F_has_box (aC (eFld 0 "scene") (aC (eV 5) aN)))) (bNot (bT (eFld 2 "is_last_turn")))) ⟨[some (.r a),some (.d (c.s q)),some (.r k),some (.d l),some (.d L0),some (.d (c.s x.1)),some (.d (.bool x.2))],s⟩=some (true&&true,s) :=
      tPv_of (bAnd_of (bT_of (lA_of (aC_of (eFld_of rfl P.hl.ob rfl) (aC_of rfl rfl)) (has_in tr (hI x List.mem_cons_self)))) (bNot_of (b:=false) (bT_of (eFld_of rfl P.co rfl))))
    obtain ⟨s1,H1,L1,r1,C1,E1,n1,K1,z1⟩:=F_turn (fh:=fh) tr hA P hs hl x.1 x.2
    have e1:mIf (tPv (bAnd (bT (lA F_has_box (aC (eFld 0 "scene") (aC (eV 5) aN)))) (bNot (bT (eFld 2 "is_last_turn"))))) (mExp (mMeth 1 "give_turn" (H_Hall__give_turn fh) (mV 0) (maC (mP (eV 5)) (maC (mP (eV 6)) (maC (mV 2) maN))))) mNx ⟨[some (.r a),some (.d (c.s q)),some (.r k),some (.d l),some (.d L0),some (.d (c.s x.1)),some (.d (.bool x.2))],s⟩=some (.nx ⟨[some (.r a),some (.d (c.s q)),some (.r k),some (.d l),some (.d L0),some (.d (c.s x.1)),some (.d (.bool x.2))],s1⟩) :=
      mIfT k1 (mExp_of (mMeth_of rfl P.hl.ob rfl (maC_of (mP_of rfl) (maC_of (mP_of rfl) (maC_of rfl maN_of))) r1))
    have l1:(T++L1).length+H1.length≤1000:=by
      have:=E1.len
      rw [List.length_append]; omega
    obtain ⟨s2,H2,L2,y5,y6,e2,C2,E2,n2,K2,z2⟩:=along_go tr hA (q:=q) (l:=l) (L0:=L0) r H1 (T++L1) s1 (some (.d (c.s x.1))) (some (.d (.bool x.2))) (fun y hy=>hI y (List.mem_cons_of_mem _ hy)) C1 (hs.sub E1.sub) l1
    refine ⟨s2,H2,L1++L2,y5,y6,?_,by rw [← List.append_assoc]; exact C2,E1.trans E2,fun y hy h hh=>?_,K1.trans K2,fun hz=>?_⟩
    · rw [List.map_cons]
      unfold mGo
      rw [e0,Option.bind_some,e1,Option.bind_some]
      exact e2
    · rcases List.mem_cons.mp hy with z | z
      · rw [z]; exact n1 h (E2.sub.subset hh)
      · exact n2 y z h hh
    · obtain ⟨h1,h2⟩:=z1 (hz x List.mem_cons_self)
      subst h1
      obtain ⟨h3,h4⟩:=z2 fun y hy=>hz y (List.mem_cons_of_mem _ hy)
      rw [h2,h4]
      exact ⟨h3,rfl⟩
end
section
variable {a b t m:Nat} {c:Sc} {ps:List Nat} {k dp:Nat} {w:Wo}
theorem trn_in (tr:Tr c ps) {q:Nat} (hq:In ps q):∀ x∈trn (P ps q),In ps x.1:=fun x hx=>P_in tr.ps q hq (trn_mem hx)
theorem F_along1 (tr:Tr c ps) {n:Nat} (hA:dp < 3→Al a b t m c ps (F_Hall__go_along n) (dp+1)) {s:Sto} {H T:List He} (P0:Cr s a b k t c H m w dp T f0) (hs:Hs ps H) (hl:T.length+H.length≤1000) {q:Nat} (hq:In ps q) :
    ∃ s' H' L,F_Hall__go_along (n+1) [.r a,.d (c.s q),.r k] s=some (.d (.bool false),s')∧Cr s' a b k t c H' m w dp (T++L) f0∧Ev w H H' L∧(∀ x∈trn (P ps q),∀ h∈H',¬ mt x.1 w x.2 h=true)∧Kb s s' b t∧((∀ x∈trn (P ps q),∀ h∈H,¬ mt x.1 w x.2 h=true)→H'=H∧L=[]):=by
  have l7:=P_7 tr hq
  have lT:=trn_len (P ps q)
  obtain ⟨s',H',L,x5,x6,e1,C,E,n1,K,z⟩:=along_go (fh:=F_Hall__go_along n) (q:=q) (l:=c.S (P ps q)) (L0:=.list ((trn (P ps q)).map (trD c))) tr hA (trn (P ps q)) H T s none none (trn_in tr hq) P0 hs hl
  refine ⟨s',H',L,mRun_of rfl (show g_Hall__go_along (F_path_of 13) F_has_box (H_Hall__give_turn (F_Hall__go_along n)) ⟨[some (.r a),some (.d (c.s q)),some (.r k),none,none,none,none],s⟩=_ from ?_),C,E,n1,K,z⟩
  have k1:mSet 3 (mP (lA (F_path_of 13) (aC (eFld 0 "scene") (aC (eV 1) aN)))) ⟨[some (.r a),some (.d (c.s q)),some (.r k),none,none,none,none],s⟩=some (.nx ⟨[some (.r a),some (.d (c.s q)),some (.r k),some (.d (c.S (P ps q))),none,none,none],s⟩) :=
    mSet_of (mP_of (lA_of (aC_of (eFld_of rfl P0.hl.ob rfl) (aC_of rfl rfl)) (T_path tr hq)))
  have k2:mSet 4 (mP (l2 pAdd (oE (sComp [none] (lI asL (eV 3)) (tgN 0) tTrue (lA (fun ds=>if ds.length≤sizeLine then some (.tuple ds) else none) (aC (eV 0) (aC (eC (.bool true)) aN))))) (oE (sComp [none] (fun η=>((aC (eV 3) aN) η).bind rvS) (tgN 0) tTrue (lA (fun ds=>if ds.length≤sizeLine then some (.tuple ds) else none) (aC (eV 0) (aC (eC (.bool false)) aN))))))) ⟨[some (.r a),some (.d (c.s q)),some (.r k),some (.d (c.S (P ps q))),none,none,none],s⟩=some (.nx ⟨[some (.r a),some (.d (c.s q)),some (.r k),some (.d (c.S (P ps q))),some (.d (.list ((trn (P ps q)).map (trD c)))),none,none],s⟩):=by
    have f1:sComp [none] (lI asL (eV 3)) (tgN 0) tTrue (lA (fun ds=>if ds.length≤sizeLine then some (.tuple ds) else none) (aC (eV 0) (aC (eC (.bool true)) aN))) (vw ⟨[some (.r a),some (.d (c.s q)),some (.r k),some (.d (c.S (P ps q))),none,none,none],s⟩)=some (((P ps q).map dT).map (trD c)):=by
      refine comp_eq (ds:=(P ps q).map c.s) (lI_of rfl rfl) (by rw [List.length_map]; omega) ?_
      rw [List.map_map]
      exact cGo_mapT (η:=[.un]) c.s (trD c∘dT) (P ps q) fun x _=>⟨[.val (c.s x)],rfl,lA_of (aC_of rfl (aC_of rfl rfl)) (tup1_ok (by simp))⟩
    have f2:sComp [none] (fun η=>((aC (eV 3) aN) η).bind rvS) (tgN 0) tTrue (lA (fun ds=>if ds.length≤sizeLine then some (.tuple ds) else none) (aC (eV 0) (aC (eC (.bool false)) aN))) (vw ⟨[some (.r a),some (.d (c.s q)),some (.r k),some (.d (c.S (P ps q))),none,none,none],s⟩)=some (((P ps q).reverse.map dF).map (trD c)):=by
      refine comp_eq (ds:=(P ps q).reverse.map c.s) (show rvS [c.S (P ps q)]=_ by rw [List.map_reverse]; rfl) (by rw [List.length_map,List.length_reverse]; omega) ?_
      rw [List.map_map]
      exact cGo_mapT (η:=[.un]) c.s (trD c∘dF) (P ps q).reverse fun x _=>⟨[.val (c.s x)],rfl,lA_of (aC_of rfl (aC_of rfl rfl)) (tup1_ok (by simp))⟩
    refine mSet_of (mP_of (l2_of (oE_of f1) (oE_of f2) ?_))
    rw [addL (by simp; omega),← List.map_append]; rfl
  refine mSeq_of k1 (mSeq_of k2 (mSeq_of (mFor_of (iPu_of (lI_of rfl rfl)) e1) (mRet_of (mP_of (eFld_of rfl C.co rfl)))))
theorem al_all (tr:Tr c ps):∀ (n dp:Nat),dp≤3→3≤dp+n→Al a b t m c ps (F_Hall__go_along (n+1)) dp
  | 0,dp,h1,h2=>fun s k H T q hq P hs hl=>by
    obtain ⟨s',H',L,e,C,E,_,K,_⟩:=F_along1 (n:=0) tr (fun z=>by omega) P hs hl hq
    exact ⟨s',H',L,e,C,E,K⟩
  | n+1,dp,h1,h2=>fun s k H T q hq P hs hl=>by
    obtain ⟨s',H',L,e,C,E,_,K,_⟩:=F_along1 (n:=n+1) tr (fun z=>al_all tr n (dp+1) (by omega) (by omega)) P hs hl hq
    exact ⟨s',H',L,e,C,E,K⟩
noncomputable def anD (c:Sc) (T:List He) (b:Bool):PyData:=.tuple [.list (T.map (rwD c)),.bool b]
theorem F_call (tr:Tr c ps) {s:Sto} {H:List He} (P0:Hl s a b c H m) (hs:Hs ps H) {q:Nat} (hq:In ps q) (w:Wo) :
    ∃ s' H' L,F_Hall__call [.r a,.d (c.s q),.d (.str (wd w))] s=some (.d (anD c L false),s')∧Hl s' a b c H' m∧Ev w H H' L∧(∀ x∈trn (P ps q),∀ h∈H',¬ mt x.1 w x.2 h=true)∧((∀ x∈trn (P ps q),∀ h∈H,¬ mt x.1 w x.2 h=true)→H'=H∧L=[]):=by
  have la:=lt_of P0.ob
  have lb:=lt_of P0.dc
  have s1:∃ s1,s1=s++[Cell.lst []]:=⟨_,rfl⟩
  obtain ⟨s1,e1⟩:=s1
  have l1:s1.length=s.length+1:=by rw [e1]; simp
  have C0:Cr (s1++[.obj 0 (cf s.length w 0 f0)]) a b s1.length s.length c H m w 0 [] f0:=⟨⟨by rw [List.getElem?_append_left (by omega),e1,List.getElem?_append_left la]; exact P0.ob,by rw [List.getElem?_append_left (by omega),e1,List.getElem?_append_left lb]; exact P0.dc⟩,at_app rfl,by rw [List.getElem?_append_left (by omega),e1]; exact at_app rfl⟩
  obtain ⟨s2,H2,L,r1,C,E,n1,K,z⟩:=F_along1 (n:=4) tr (fun _=>al_all tr 3 1 (by omega) (by omega)) C0 hs (by have:=hs.len; simp; omega) hq
  rw [List.nil_append] at C
  refine ⟨s2.set s.length (.fz (.list (L.map (rwD c)))),H2,L,mRun_of rfl (show g_Hall__call (F_Hall__go_along 5) F_Course____init__ ⟨[some (.r a),some (.d (c.s q)),some (.d (.str (wd w))),none,none],s⟩=_ from ?_),⟨by rw [List.getElem?_set_ne C.at'.symm]; exact C.hl.ob,by rw [List.getElem?_set_ne C.bt.symm]; exact C.hl.dc⟩,E,n1,z⟩
  have o1:s1[a]?=some (.obj 1 (hf c b m)):=by rw [e1,List.getElem?_append_left la]; exact P0.ob
  have k1:mSet 3 (mN (fun η=>(aN η).bind gL)) ⟨[some (.r a),some (.d (c.s q)),some (.d (.str (wd w))),none,none],s⟩=some (.nx ⟨[some (.r a),some (.d (c.s q)),some (.d (.str (wd w))),some (.r s.length),none],s1⟩):=by rw [e1]; exact mSet_of mN0
  have k2:mSet 4 (mMeth 1 "go_along" (F_Hall__go_along 5) (mV 0) (maC (mP (eV 1)) (maC (mMake 0 F_Course____init__ (maC (mP (eV 2)) (maC (mP (eC (.int 0))) (maC (mV 3) maN)))) maN))) ⟨[some (.r a),some (.d (c.s q)),some (.d (.str (wd w))),some (.r s.length),none],s1⟩=some (.nx ⟨[some (.r a),some (.d (c.s q)),some (.d (.str (wd w))),some (.r s.length),some (.d (.bool false))],s2⟩):=by
    have k3:=mMake_of (k:=0) (fn:=F_Course____init__) (w:=⟨[some (.r a),some (.d (c.s q)),some (.d (.str (wd w))),some (.r s.length),none],s1⟩) (fs:=maC (mP (eV 2)) (maC (mP (eC (.int 0))) (maC (mV 3) maN))) (maC_of (mP_of rfl) (maC_of (mP_of rfl) (maC_of rfl maN_of))) (F_course s.length w 0)
    exact mSet_of (mMeth_of rfl o1 rfl (maC_of (mP_of rfl) (maC_of k3 maN_of)) r1)
  refine mSeq_of k1 (mSeq_of k2 (mRet_of ?_))
  have k4:=mFz_of (f:=mV 3) (w:=⟨[some (.r a),some (.d (c.s q)),some (.d (.str (wd w))),some (.r s.length),some (.d (.bool false))],s2⟩) rfl C.tl (dAll_d _ _)
  exact mTupD_of (maC_of k4 (maC_of (mP_of rfl) maN_of)) rfl (by simp)
end
end K15
namespace K15
open PySem L2 L2.PU
noncomputable abbrev lw0:Wd→Option MOut:=(mSet 1 (mP (lA F__law_scene (aC (eV 0) (aC (eC (.int 0)) aN)))))
noncomputable abbrev lw1:Wd→Option MOut:=(mIf (tPv (bT (l2 pEq (eV 1) (lA (fun ds=>if ds.length≤sizeLine then some (.tuple ds) else none) aN)))) (mRet (mP (eC (.bool true)))) mNx)
noncomputable abbrev lw2:Wd→Option MOut:=(mSet 2 (mMake 1 F_Hall____init__ (maC (mP (eV 1)) maN)))
noncomputable abbrev lw3:Wd→Option MOut:=(mSet 3 (mP (lA F__law_drawn (aC (eV 0) (aC (eC (.int 100)) (aC (eC (.int 7)) aN))))))
noncomputable abbrev lw4:Wd→Option MOut:=(mFor [4] (iPu (fun η=>((aC (eV 3) aN) η).bind rng1)) (tgN 4)
    (mSeq (mSet 5 (mP (l2 pIx (l2 pIx (eV 1) (lA F__law_drawn (aC (eV 0) (aC (l2 pAdd (eC (.int 101)) (l2 pMul (eC (.int 5)) (eV 4))) (aC (lA pLen (aC (eV 1) aN)) aN))))) (eC (.int 0)))))
    (mSeq (mSet 6 (mP (l2 pIx (oE (fun η=>((aC (lA (fun ds=>if ds.length≤sizeLine then some (.tuple ds) else none) aN) (aC (lA (fun ds=>if ds.length≤sizeLine then some (.tuple ds) else none) (aC (lA (fun ds=>if ds.length≤sizeLine then some (.tuple ds) else none) (aC (eC (.str "call")) (aC (eV 5) (aC (eC (.str "u")) aN)))) aN)) aN)) η).bind gL)) (lA F__law_drawn (aC (eV 0) (aC (l2 pAdd (eC (.int 102)) (l2 pMul (eC (.int 5)) (eV 4))) (aC (eC (.int 2)) aN)))))))
    (mIf (mB (mOpL pNe (mMeth 1 "hear" F_Hall__hear (mV 2) (maC (mP (eV 5)) (maC (mP (eC (.str "u"))) (maC (mP (l2 pEq (lA F__law_drawn (aC (eV 0) (aC (l2 pAdd (eC (.int 103)) (l2 pMul (eC (.int 5)) (eV 4))) (aC (eC (.int 2)) aN)))) (eC (.int 0)))) (maC (mP (eV 6)) (maC (mP (eC (.bool true))) maN)))))) (mP (eV 4)))) (mRet (mP (eC (.bool false)))) mNx))))
noncomputable abbrev lw5:Wd→Option MOut:=(mSet 5 (mP (l2 pIx (l2 pIx (eV 1) (lA F__law_drawn (aC (eV 0) (aC (eC (.int 200)) (aC (lA pLen (aC (eV 1) aN)) aN))))) (eC (.int 0)))))
noncomputable abbrev lw6:Wd→Option MOut:=(mIf (mB (mOpL pNe (mMeth 1 "call" F_Hall__call (mV 2) (maC (mP (eV 5)) (maC (mP (eC (.str "v"))) maN))) (mP (lA (fun ds=>if ds.length≤sizeLine then some (.tuple ds) else none) (aC (oE (fun η=>(aN η).bind gL)) (aC (eC (.bool false)) aN)))))) (mRet (mP (eC (.bool false)))) mNx)
noncomputable abbrev lw7:Wd→Option MOut:=(mUnp [7,8] (mMeth 1 "call" F_Hall__call (mV 2) (maC (mP (eV 5)) (maC (mP (eC (.str "u"))) maN))) (tgT (tgCons (tgN 7) (tgCons (tgN 8) tgNil))))
noncomputable abbrev lw8:Wd→Option MOut:=(mSet 9 (mC (sComp [none] (lI asL (eV 7)) (tgN 0) tTrue (l2 pIx (eV 0) (eC (.int 0))))))
noncomputable abbrev lw9:Wd→Option MOut:=(mIf (tmOr (tPv (bT (eV 8))) (tmOr (tPv (bT (l2 pNe (lA pLenSet (aC (eV 9) aN)) (lA pLen (aC (eV 9) aN))))) (mB (mOpL pNe (mMeth 1 "call" F_Hall__call (mV 2) (maC (mP (eV 5)) (maC (mP (eC (.str "u"))) maN))) (mP (lA (fun ds=>if ds.length≤sizeLine then some (.tuple ds) else none) (aC (oE (fun η=>(aN η).bind gL)) (aC (eC (.bool false)) aN)))))))) (mRet (mP (eC (.bool false)))) mNx)
noncomputable abbrev lw10:Wd→Option MOut:=(mSet 10 (mP (oE (fun η=>(aN η).bind gL))))
noncomputable abbrev lw11:Wd→Option MOut:=(mFor [11] (iPu (lI asTu (eV 1))) (tgN 11)
    (mSet 10 (mOp pAdd (mOp pAdd (mP (eV 10)) (mMeth 1 "numbers" F_Hall__numbers (mV 2) (maC (mP (l2 pIx (eV 11) (eC (.int 0)))) (maC (mP (eC (.str "u"))) (maC (mP (eC (.bool true))) maN))))) (mMeth 1 "numbers" F_Hall__numbers (mV 2) (maC (mP (l2 pIx (eV 11) (eC (.int 0)))) (maC (mP (eC (.str "u"))) (maC (mP (eC (.bool false))) maN)))))))
noncomputable abbrev lw12:Wd→Option MOut:=(mIf (tPv (bT (l2 pNe (lA pSort (aC (l2 pAdd (eV 10) (eV 9)) aN)) (oE (fun η=>((aC (eV 3) aN) η).bind lrS))))) (mRet (mP (eC (.bool false)))) mNx)
noncomputable abbrev lw13:Wd→Option MOut:=(mIf (mB (mOpL pNe (mMeth 1 "hear" F_Hall__hear (mV 2) (maC (mP (eV 5)) (maC (mP (eC (.str "u"))) (maC (mP (eC (.bool true))) (maC (mP (lA (fun ds=>if ds.length≤sizeLine then some (.tuple ds) else none) aN)) (maC (mP (eC (.bool false))) maN)))))) (mP (eV 3)))) (mRet (mP (eC (.bool false)))) mNx)
noncomputable abbrev lw14:Wd→Option MOut:=(mExp (mMeth 1 "unhear" F_Hall__unhear (mV 2) (maC (mP (eV 3)) maN)))
noncomputable abbrev lw15:Wd→Option MOut:=(mIf (mB (mOpL pNe (mMeth 1 "hear" F_Hall__hear (mV 2) (maC (mP (eV 5)) (maC (mP (eC (.str "w"))) (maC (mP (eC (.bool false))) (maC (mP (lA (fun ds=>if ds.length≤sizeLine then some (.tuple ds) else none) aN)) (maC (mP (eC (.bool true))) maN)))))) (mP (l2 pAdd (eV 3) (eC (.int 1)))))) (mRet (mP (eC (.bool false)))) mNx)
noncomputable abbrev lw16:Wd→Option MOut:=(mRet (mOpL pEq (mOp pIx (mMeth 1 "call" F_Hall__call (mV 2) (maC (mP (eV 5)) (maC (mP (eC (.str "w"))) maN))) (mP (eC (.int 0)))) (mP (oE (fun η=>((aC (lA (fun ds=>if ds.length≤sizeLine then some (.tuple ds) else none) (aC (l2 pAdd (eV 3) (eC (.int 1))) (aC (eV 5) (aC (eC (.str "w")) (aC (eC (.bool false)) aN))))) aN) η).bind gL)))))
theorem rng_go {ks:List Nat} {t:En→PyData→Option En} {body:Wd→Option MOut} (Z:Nat→PyData) (Inv:Nat→Wd→Prop) (n:Nat) (st:∀ k w,k < n→Inv k w→∃ w1 w2,mTg ks t w (Z k)=some w1∧body w1=some (.nx w2)∧Inv (k+1) w2) {w:Wd} (h0:Inv 0 w) :
    ∃ w',mGo ks t body ((List.range n).map Z) w=some (.nx w')∧Inv n w':=by
  have key:∀ (j k:Nat) (w:Wd),k+j=n→Inv k w→∃ w',mGo ks t body ((List.range' k j).map Z) w=some (.nx w')∧Inv n w':=by
    intro j
    induction j with
    | zero=>intro k w e h; exact ⟨w,rfl,by rw [← e]; exact h⟩
    | succ j ih =>
      intro k w e h
      obtain ⟨w1,w2,h1,h2,h3⟩:=st k w (by omega) h
      obtain ⟨w',e1,e2⟩:=ih (k+1) w2 (by omega) h3
      refine ⟨w',?_,e2⟩
      rw [List.range'_succ,List.map_cons]
      unfold mGo
      rw [h1,Option.bind_some,h2,Option.bind_some]
      exact e1
  rw [List.range_eq_range']
  exact key n 0 w (by omega) h0
theorem at_d {c:Sc} {ps:List Nat} (tr:Tr c ps) {r:Nat} (h:r < ps.length):pIx c.d (.int (r:Int))=some (c.box (r+1,par ps (r+1))):=by
  show atI (c.st.map c.box) (r:Int)=_
  refine atI_nat ?_
  rw [List.getElem?_map,tr.st]
  unfold stF
  rw [List.getElem?_map,List.getElem?_range h]; rfl
theorem st_len {c:Sc} {ps:List Nat} (tr:Tr c ps):c.st.length=ps.length:=by rw [tr.st]; unfold stF; simp
noncomputable def dr (ns:List Int) (z m:Int):Nat:=match F__law_drawn [Sd ns,.int z,.int m] with | some (.int i)=>i.toNat | _=>0
theorem dr_ok {ns:List Int} (hn:ns.length≤63) {z m:Int} (hz:0≤z) (hm:0 < m):((dr ns z m:Nat):Int) < m∧F__law_drawn [Sd ns,.int z,.int m]=some (.int (dr ns z m:Nat)):=by
  obtain ⟨r,h1,h2⟩:=drawn_ok hn hz hm
  have:dr ns z m=r:=by unfold dr; rw [h2]; rfl
  rw [this]; exact ⟨h1,h2⟩
theorem set_app2 {s:Sto} {x y z:Cell}:(s++[x]++[y]).set s.length z=s++[z]++[y]:=by
  rw [List.append_assoc,List.set_append_right _ _ (Nat.le_refl _),Nat.sub_self,List.append_assoc]; rfl
theorem at_app2 {s:Sto} {x y:Cell}:(s++[x]++[y])[s.length]?=some x:=by
  rw [List.append_assoc,List.getElem?_append_right (Nat.le_refl _),Nat.sub_self]; rfl
theorem F_init {c:Sc} {s:Sto}:F_Hall____init__ [.r s.length,.d c.d] (s++[.obj 1 []])=some (.d .none,s++[.obj 1 (hf c (s.length+1) 0)]++[.dct []]):=by
  refine mRunN (w1:=⟨[some (.r s.length),some (.d c.d)],s++[.obj 1 (hf c (s.length+1) 0)]++[.dct []]⟩) rfl ?_
  show g_Hall____init__ ⟨[some (.r s.length),some (.d c.d)],s++[.obj 1 []]⟩=_
  have k1:mPut 1 "scene" (mV 0) (mP (eV 1)) ⟨[some (.r s.length),some (.d c.d)],s++[.obj 1 []]⟩=some (.nx ⟨[some (.r s.length),some (.d c.d)],s++[.obj 1 [("scene", .d c.d)]]⟩):=by
    rw [mPut_of (mP_of rfl) rfl (at_app rfl) (by decide),set_app rfl]; rfl
  have k2:mPut 1 "hearers" (mV 0) mNewD ⟨[some (.r s.length),some (.d c.d)],s++[.obj 1 [("scene", .d c.d)]]⟩=some (.nx ⟨[some (.r s.length),some (.d c.d)],s++[.obj 1 [("scene", .d c.d),("hearers", .r (s.length+1))]]++[.dct []]⟩):=by
    have e:(s++[Cell.obj 1 [("scene", .d c.d)]]).length=s.length+1:=by simp
    have n1:mNewD ⟨[some (.r s.length),some (.d c.d)],s++[.obj 1 [("scene", .d c.d)]]⟩=some (.r (s.length+1),s++[.obj 1 [("scene", .d c.d)]]++[.dct []]):=by
      show some (D.r (s++[Cell.obj 1 [("scene", .d c.d)]]).length,_)=_
      rw [e]
    rw [mPut_of n1 rfl at_app2 (by show 1 < 999; decide),set_app2]; rfl
  have k3:mPut 1 "made" (mV 0) (mP (eC (.int 0))) ⟨[some (.r s.length),some (.d c.d)],s++[.obj 1 [("scene", .d c.d),("hearers", .r (s.length+1))]]++[.dct []]⟩=some (.nx ⟨[some (.r s.length),some (.d c.d)],s++[.obj 1 (hf c (s.length+1) 0)]++[.dct []]⟩):=by
    rw [mPut_of (mP_of rfl) rfl at_app2 (by show 2 < 999; decide),set_app2]; rfl
  exact mSeq_of k1 (mSeq_of k2 k3)
theorem tmOrS {w:Wd} {s1:Sto} {f g:MTF} {r:Option (Bool×Sto)} (h1:f w=some (false,s1)) (h2:g ⟨w.η,s1⟩=r):tmOr f g w=r:=by
  unfold tmOr
  rw [h1]; exact h2
theorem pNe_i (a b:Nat):pNe (.int (a:Int)) (.int (b:Int))=some (.bool (!decide (a=b))):=by
  unfold pNe
  rw [if_pos ⟨shaped_int _,shaped_int _⟩]
  congr 3
  by_cases e:a=b
  · subst e; simp [PyData.eqv]
  · simp [PyData.eqv,e]; omega
section
variable {c:Sc} (h:c.Ok)
include h
theorem can_rows (T:List He):PyData.canLayAll0 (T.map (rwD c))=true∧PyData.depthAll (T.map (rwD c))≤1:=by
  induction T with
  | nil=>exact ⟨rfl,by simp [PyData.depthAll]⟩
  | cons x r ih =>
    obtain ⟨h1,h2⟩:=ih
    refine ⟨?_,?_⟩
    · rw [List.map_cons]
      unfold PyData.canLayAll0
      rw [h1]
      simp [rwD,Sc.s,PyData.canLay0,PyData.canLayAll0,h.ok,wd_ok]
    · rw [List.map_cons]
      unfold PyData.depthAll
      have:PyData.depth (rwD c x)=1:=by simp [rwD,Sc.s,PyData.depth,PyData.depthAll]
      omega
theorem sh_rows (T:List He):SeqAt.shaped (.list (T.map (rwD c)))=true:=by
  obtain ⟨h1,h2⟩:=can_rows h T
  simp [SeqAt.shaped,PyData.canLay0,PyData.depth,h1]
  omega
theorem can_boxes (l:List (Nat×Nat)):PyData.canLayAll0 (l.map c.box)=true∧PyData.depthAll (l.map c.box)≤1:=by
  induction l with
  | nil=>exact ⟨rfl,by simp [PyData.depthAll]⟩
  | cons x r ih =>
    obtain ⟨h1,h2⟩:=ih
    refine ⟨?_,?_⟩
    · rw [List.map_cons]
      unfold PyData.canLayAll0
      rw [h1]
      simp [Sc.box,PyData.canLay0,PyData.canLayAll0,h.ok,h.okm]
    · rw [List.map_cons]
      unfold PyData.depthAll
      have:PyData.depth (c.box x)=1:=by simp [Sc.box,PyData.depth,PyData.depthAll]
      omega
theorem sh_d:SeqAt.shaped c.d=true:=by
  obtain ⟨h1,h2⟩:=can_boxes h c.st
  simp [SeqAt.shaped,Sc.d,PyData.canLay0,PyData.depth,h1]
  omega
theorem eq_scene:pEq c.d (.tuple [])=some (.bool c.st.isEmpty):=by
  unfold pEq
  rw [if_pos ⟨sh_d h,by decide⟩]
  unfold Sc.d PyData.eqv
  cases c.st with
  | nil=>simp [PyData.eqvAll]
  | cons x r=>simp [PyData.eqvAll]
end
noncomputable def qk (ns:List Int) (n k:Nat):Nat:=dr ns (101+5*(k:Int)) (n:Int)+1
noncomputable def ak (ns:List Int) (n k:Nat):List De:=if dr ns (102+5*(k:Int)) 2=0 then [] else [.call (qk ns n k)]
noncomputable def hk (ns:List Int) (n:Nat) (k:Nat):He:=⟨k,qk ns n k,.u,((dr ns (103+5*(k:Int)) 2:Nat):Int)==0,ak ns n k,true⟩
noncomputable def Hb (ns:List Int) (n m:Nat):List He:=(List.range m).map (hk ns n)
theorem Hb_len {ns:List Int} {n m:Nat}:(Hb ns n m).length=m:=by unfold Hb; simp
theorem Hb_i {ns:List Int} {n m:Nat}:(Hb ns n m).map He.i=List.range m:=by
  unfold Hb
  rw [List.map_map]
  exact List.map_id _
theorem Hb_mem {ns:List Int} {n m:Nat} {h:He} (hh:h∈Hb ns n m):h.i < m∧h.w=.u∧h.o=true∧h.q=qk ns n h.i∧h.a=ak ns n h.i:=by
  obtain ⟨k,hk1,rfl⟩:=List.mem_map.mp hh
  exact ⟨List.mem_range.mp hk1,rfl,rfl,rfl,rfl⟩
theorem qk_in {ns:List Int} (hn:ns.length≤63) {ps:List Nat} (hp:0 < ps.length) (k:Nat):In ps (qk ns ps.length k):=by
  obtain ⟨h1,_⟩:=dr_ok hn (z:=101+5*(k:Int)) (m:=(ps.length:Int)) (by omega) (by omega)
  unfold qk
  exact ⟨by omega,by omega⟩
theorem Hb_hs {ns:List Int} (hn:ns.length≤63) {ps:List Nat} (hp:0 < ps.length) {m:Nat} (hm:m≤100):Hs ps (Hb ns ps.length m) where
  un:=fun x hx y hy e=>by
    obtain ⟨k,_,rfl⟩:=List.mem_map.mp hx
    obtain ⟨l,_,rfl⟩:=List.mem_map.mp hy
    have:k=l:=e
    rw [this]
  nd:=List.Pairwise.map _ (fun a b h e=>h (congrArg He.i e)) List.nodup_range
  o:=fun h hh=>(Hb_mem hh).2.2.1
  a:=fun h hh=>by
    rw [(Hb_mem hh).2.2.2.2]
    unfold ak
    split
    · exact .inl rfl
    · exact .inr ⟨_,qk_in hn hp _,rfl⟩
  len:=by rw [Hb_len]; exact hm
theorem dedup_id:∀ (l σ:List Int),(σ++l).Nodup→l.foldl PyProof.Rows.step_dedup σ=σ++l
  | [],σ,_=>by simp
  | x::r,σ,h=>by
    have hx:x∉σ:=fun z=>(List.nodup_append.mp h).2.2 x z x List.mem_cons_self rfl
    have e:PyProof.Rows.step_dedup σ x=σ++[x]:=by
      unfold PyProof.Rows.step_dedup
      rw [if_neg]
      rw [List.any_eq_true]
      rintro ⟨y,hy,z⟩
      exact hx (by rw [← eq_of_beq z]; exact hy)
    rw [List.foldl_cons,e,dedup_id r (σ++[x]) (by rw [List.append_assoc]; exact h),List.append_assoc]; rfl
theorem nodup_tls {H:List He} (nd:H.Nodup) {w:Wo}:∀ {A:List (Nat×Bool)},A.Nodup→(tls H w A).Nodup
  | [],_=>List.nodup_nil
  | x::r,h=>by
    obtain ⟨h1,h2⟩:=List.nodup_cons.mp h
    show (H.filter (mt x.1 w x.2)++tls H w r).Nodup
    rw [List.nodup_append]
    refine ⟨nd.filter _,nodup_tls nd h2,fun a ha b hb e=>?_⟩
    subst e
    obtain ⟨z1,_,z3⟩:=mt_iff.mp (List.mem_filter.mp ha).2
    have:=(tls_mem.mp hb).2.2
    rw [z1,z3] at this
    exact h1 this
noncomputable def both (st:List (Nat×Nat)):List (Nat×Bool):=st.flatMap fun x=>[(x.1,true),(x.1,false)]
theorem both_nodup:∀ {st:List (Nat×Nat)},(st.map (·.1)).Nodup→(both st).Nodup
  | [],_=>List.nodup_nil
  | x::r,h=>by
    rw [List.map_cons] at h
    obtain ⟨h1,h2⟩:=List.nodup_cons.mp h
    have key:∀ b,(x.1,b)∉both r:=fun b z=>by
      obtain ⟨y,hy,z⟩:=List.mem_flatMap.mp z
      refine h1 (List.mem_map.mpr ⟨y,hy,?_⟩)
      simp at z
      rcases z with z | z
      · exact z.1.symm
      · exact z.1.symm
    show ([(x.1,true),(x.1,false)]++both r).Nodup
    rw [List.nodup_append]
    refine ⟨by simp,both_nodup h2,fun a ha b hb e=>?_⟩
    subst e
    simp at ha
    rcases ha with rfl | rfl
    · exact key _ hb
    · exact key _ hb
theorem st_nodup {ps:List Nat}:((stF ps).map (·.1)).Nodup:=by
  unfold stF
  rw [List.map_map]
  exact List.Pairwise.map _ (fun a b h e=>h (by simpa using e)) List.nodup_range
theorem both_perm {ps:List Nat} {H:List He} (nd:H.Nodup) (hw:∀ h∈H,h.w=.u) (hq:∀ h∈H,In ps h.q):(tls H .u (both (stF ps))).Perm H:=by
  rw [List.perm_ext_iff_of_nodup (nodup_tls nd (both_nodup st_nodup)) nd]
  intro h
  refine ⟨fun z=>(tls_mem.mp z).1,fun z=>tls_mem.mpr ⟨z,hw h z,?_⟩⟩
  have:=hq h z
  refine List.mem_flatMap.mpr ⟨(h.q,par ps h.q),mem_st this.1 this.2,?_⟩
  cases h.d <;> simp
theorem only_one {α:Type} {z:α}:∀ {L:List α},L.Nodup→z∈L→(∀ x∈L,x=z)→L=[z]
  | [x],_,_,h=>by rw [h x (by simp)]
  | x::y::r,nd,_,h=>by
    have h1:=h x (by simp)
    have h2:=h y (by simp)
    exact absurd (by rw [h1,h2]; simp) (List.nodup_cons.mp nd).1
theorem q_in_trn {ps:List Nat} (ok:PsOk ps) {q:Nat} (hq:In ps q) (d:Bool):(q,d)∈trn (P ps q):=by
  have hp:q∈P ps q:=by rw [P_succ ok hq.1]; simp
  unfold trn
  cases d
  · exact List.mem_append_right _ (List.mem_map.mpr ⟨q,List.mem_reverse.mpr hp,rfl⟩)
  · exact List.mem_append_left _ (List.mem_map.mpr ⟨q,hp,rfl⟩)
theorem sort_of {ns ms:List Int} (hl:ns.length < 64) (p:ms.Perm ns) (hs:ms.Pairwise (·≤·)):pSort [.list (ns.map PyData.int)]=some (.list (ms.map PyData.int)):=by
  unfold pSort
  dsimp only
  rw [if_pos (by rw [List.length_map]; exact hl)]
  cases ns with
  | nil =>
    have:=p.eq_nil
    subst this
    show some (PyData.list ((srtS []).map PyData.str))=_
    rw [show srtS []=[] by unfold srtS; simp]; rfl
  | cons x r =>
    rw [show asSs ((x::r).map PyData.int)=none from rfl,asIs_ints]
    show some _=some _
    rw [← srtI_uniq p hs]
end K15
namespace K15
open PySem L2 L2.PU
noncomputable abbrev V (ns:List Int) (c:Sc) (m:Nat) (x4 x5 x6 x7 x8 x9 x10 x11:Option D):MEn:=[some (.d (Sd ns)),some (.d c.d),some (.r 0),some (.d (.int (m:Int))),x4,x5,x6,x7,x8,x9,x10,x11]
theorem sh_an0 (b:Bool):SeqAt.shaped (.tuple [.list [],.bool b])=true:=by cases b <;> decide
section
variable {ns:List Int} {c:Sc} {ps:List Nat}
theorem fill_step (hn:ns.length≤63) (tr:Tr c ps) (hp:0 < ps.length) {m k:Nat} (hk0:k < 100) {s:Sto} {x5 x6 x7 x8 x9 x10 x11:Option D} (P:Hl s 0 1 c (Hb ns ps.length k) k) :
    ∃ (s':Sto) (y5 y6:Option D),(mSeq (mSet 5 (mP (l2 pIx (l2 pIx (eV 1) (lA F__law_drawn (aC (eV 0) (aC (l2 pAdd (eC (.int 101)) (l2 pMul (eC (.int 5)) (eV 4))) (aC (lA pLen (aC (eV 1) aN)) aN))))) (eC (.int 0)))))
    (mSeq (mSet 6 (mP (l2 pIx (oE (fun η=>((aC (lA (fun ds=>if ds.length≤sizeLine then some (.tuple ds) else none) aN) (aC (lA (fun ds=>if ds.length≤sizeLine then some (.tuple ds) else none) (aC (lA (fun ds=>if ds.length≤sizeLine then some (.tuple ds) else none) (aC (eC (.str "call")) (aC (eV 5) (aC (eC (.str "u")) aN)))) aN)) aN)) η).bind gL)) (lA F__law_drawn (aC (eV 0) (aC (l2 pAdd (eC (.int 102)) (l2 pMul (eC (.int 5)) (eV 4))) (aC (eC (.int 2)) aN)))))))
    (mIf (mB (mOpL pNe (mMeth 1 "hear" F_Hall__hear (mV 2) (maC (mP (eV 5)) (maC (mP (eC (.str "u"))) (maC (mP (l2 pEq (lA F__law_drawn (aC (eV 0) (aC (l2 pAdd (eC (.int 103)) (l2 pMul (eC (.int 5)) (eV 4))) (aC (eC (.int 2)) aN)))) (eC (.int 0)))) (maC (mP (eV 6)) (maC (mP (eC (.bool true))) maN)))))) (mP (eV 4)))) (mRet (mP (eC (.bool false)))) mNx))) ⟨V ns c m (some (.d (.int (k:Int)))) x5 x6 x7 x8 x9 x10 x11,s⟩=some (.nx ⟨V ns c m (some (.d (.int (k:Int)))) y5 y6 x7 x8 x9 x10 x11,s'⟩)∧Hl s' 0 1 c (Hb ns ps.length (k+1)) (k+1):=by
  obtain ⟨hr1,d1⟩:=dr_ok hn (z:=101+5*(k:Int)) (m:=(ps.length:Int)) (by omega) (by omega)
  obtain ⟨hr2,d2⟩:=dr_ok hn (z:=102+5*(k:Int)) (m:=2) (by omega) (by decide)
  obtain ⟨hr3,d3⟩:=dr_ok hn (z:=103+5*(k:Int)) (m:=2) (by omega) (by decide)
  have hin:=qk_in hn hp (ps:=ps) k
  have hi:∀ x∈Hb ns ps.length k,x.i≠k:=fun x hx=>by have:=(Hb_mem hx).1; omega
  obtain ⟨s2,q1,q2⟩:=F_hear P (by rw [Hb_len]; omega) hi (T_box tr hin) .u (((dr ns (103+5*(k:Int)) 2:Nat):Int)==0) (ak ns ps.length k) true
  have eH:Hb ns ps.length k++[⟨k,qk ns ps.length k,.u,((dr ns (103+5*(k:Int)) 2:Nat):Int)==0,ak ns ps.length k,true⟩]=Hb ns ps.length (k+1):=by
    unfold Hb
    rw [List.range_succ,List.map_append]; rfl
  rw [eH] at q2
  have a1:∀ (z:Int) (x5 x6:Option D),l2 pAdd (eC (.int z)) (l2 pMul (eC (.int 5)) (eV 4)) (vw ⟨V ns c m (some (.d (.int (k:Int)))) x5 x6 x7 x8 x9 x10 x11,s⟩)=some (.int (z+5*(k:Int))):=fun z x5 x6=>l2_of rfl (l2_of rfl rfl (pMul_ok (mulL (by decide) (by decide)))) rfl
  have a2:lA pLen (aC (eV 1) aN) (vw ⟨V ns c m (some (.d (.int (k:Int)))) x5 x6 x7 x8 x9 x10 x11,s⟩)=some (.int (ps.length:Int)):=lA_of (aC_of rfl rfl) (by show some (PyData.int ((c.st.map c.box).length:Int))=_; rw [List.length_map,st_len tr])
  have k5:mSet 5 (mP (l2 pIx (l2 pIx (eV 1) (lA F__law_drawn (aC (eV 0) (aC (l2 pAdd (eC (.int 101)) (l2 pMul (eC (.int 5)) (eV 4))) (aC (lA pLen (aC (eV 1) aN)) aN))))) (eC (.int 0)))) ⟨V ns c m (some (.d (.int (k:Int)))) x5 x6 x7 x8 x9 x10 x11,s⟩=some (.nx ⟨V ns c m (some (.d (.int (k:Int)))) (some (.d (c.s (qk ns ps.length k)))) x6 x7 x8 x9 x10 x11,s⟩):=mSet_of (mP_of (l2_of (l2_of rfl (lA_of (aC_of rfl (aC_of (a1 101 _ _) (aC_of a2 rfl))) d1) (at_d tr (by omega))) rfl rfl))
  have dd:l2 pIx (oE (fun η=>((aC (lA (fun ds=>if ds.length≤sizeLine then some (.tuple ds) else none) aN) (aC (lA (fun ds=>if ds.length≤sizeLine then some (.tuple ds) else none) (aC (lA (fun ds=>if ds.length≤sizeLine then some (.tuple ds) else none) (aC (eC (.str "call")) (aC (eV 5) (aC (eC (.str "u")) aN)))) aN)) aN)) η).bind gL)) (lA F__law_drawn (aC (eV 0) (aC (l2 pAdd (eC (.int 102)) (l2 pMul (eC (.int 5)) (eV 4))) (aC (eC (.int 2)) aN)))) (vw ⟨V ns c m (some (.d (.int (k:Int)))) (some (.d (c.s (qk ns ps.length k)))) x6 x7 x8 x9 x10 x11,s⟩)=some (dsD c (ak ns ps.length k)):=by
    refine l2_of (x:=.list [.tuple [],.tuple [.tuple [.str "call", c.s (qk ns ps.length k),.str "u"]]]) (oE_of (bind_of (aC_of (lA_of (ds:=[]) rfl (tup1_ok (by simp))) (aC_of (lA_of (aC_of (lA_of (aC_of rfl (aC_of rfl (aC_of rfl rfl))) (tup1_ok (by simp))) rfl) (tup1_ok (by simp))) rfl)) (gL_ok (by simp)))) (lA_of (aC_of rfl (aC_of (a1 102 _ _) (aC_of rfl rfl))) d2) ?_
    unfold ak
    rcases (show dr ns (102+5*(k:Int)) 2=0∨dr ns (102+5*(k:Int)) 2=1 by omega) with z | z
    · rw [z]; rfl
    · rw [z]; rfl
  refine ⟨s2,_,_,mSeq_of k5 (mSeq_of (mSet_of (mP_of dd)) (mIfN (mB_of (mOpL_of (z:=.bool false) (mMeth_of rfl P.ob rfl (maC_of (mP_of rfl) (maC_of (mP_of rfl) (maC_of (mP_of (l2_of (lA_of (aC_of rfl (aC_of (a1 103 _ _) (aC_of rfl rfl))) d3) rfl (pEq_int _ _))) (maC_of (mP_of rfl) (maC_of (mP_of rfl) maN_of))))) q1) (mP_of rfl) rfl rfl ?_ rfl)))),q2⟩
  exact (pNe_i k k).trans (by simp)
end
theorem main:∀ ns:List Int,ns.length≤63→∃ s',F_law [.d (.list (ns.map PyData.int))] []=some (.d (.bool true),s'):=fun ns hn=>by
  obtain ⟨d,tn,hd,hnm,hlen,es⟩:=scene_ok hn
  have tr:Tr d.sc d.ps:=⟨Dr.sc_ok hd,rfl,hlen,hd.par⟩
  rw [← Dr.sc_d] at es
  generalize d.sc=c at es tr
  generalize d.ps=ps at tr
  have ok:=tr.ok
  have go:∀ {s'},mSeq lw0 (mSeq lw1 (mSeq lw2 (mSeq lw3 (mSeq lw4 (mSeq lw5 (mSeq lw6 (mSeq lw7 (mSeq lw8 (mSeq lw9 (mSeq lw10 (mSeq lw11 (mSeq lw12 (mSeq lw13 (mSeq lw14 (mSeq lw15 lw16))))))))))))))) ⟨[some (.d (Sd ns)),none,none,none,none,none,none,none,none,none,none,none],[]⟩=some (.rt (.d (.bool true)) s')→F_law [.d (.list (ns.map PyData.int))] []=some (.d (.bool true),s'):=fun e=>mRun_of rfl e
  have k0:lw0 ⟨[some (.d (Sd ns)),none,none,none,none,none,none,none,none,none,none,none],[]⟩=some (.nx ⟨[some (.d (Sd ns)),some (.d c.d),none,none,none,none,none,none,none,none,none,none],[]⟩):=mSet_of (mP_of (lA_of (aC_of rfl (aC_of rfl rfl)) es))
  have e1:l2 pEq (eV 1) (lA (fun ds=>if ds.length≤sizeLine then some (.tuple ds) else none) aN) (vw ⟨[some (.d (Sd ns)),some (.d c.d),none,none,none,none,none,none,none,none,none,none],[]⟩)=some (.bool c.st.isEmpty):=l2_of rfl (lA_of (ds:=[]) rfl (tup1_ok (by simp))) (eq_scene tr.ok)
  by_cases h0:ps.length=0
  · refine ⟨[],go (mSeq_of k0 (mSeq_rt (mIfT (s:=[]) (tPv_of (bT_of (e1.trans ?_))) (mRet_of (mP_of rfl)))))⟩
    have:=st_len tr
    rw [h0] at this
    rw [List.eq_nil_of_length_eq_zero this]; rfl
  have hp:0 < ps.length:=by omega
  have k1:lw1 ⟨[some (.d (Sd ns)),some (.d c.d),none,none,none,none,none,none,none,none,none,none],[]⟩=some (.nx ⟨[some (.d (Sd ns)),some (.d c.d),none,none,none,none,none,none,none,none,none,none],[]⟩):=by
    refine mIfN (tPv_of (bT_of (e1.trans ?_)))
    have:=st_len tr
    cases e:c.st with
    | nil=>rw [e] at this; simp at this; omega
    | cons _ _=>rfl
  have k2:lw2 ⟨[some (.d (Sd ns)),some (.d c.d),none,none,none,none,none,none,none,none,none,none],[]⟩=some (.nx ⟨[some (.d (Sd ns)),some (.d c.d),some (.r 0),none,none,none,none,none,none,none,none,none],[.obj 1 (hf c 1 0),.dct []]⟩):=mSet_of (mMake_of (maC_of (mP_of rfl) maN_of) (F_init (s:=[])))
  obtain ⟨hm,em0⟩:=dr_ok hn (z:=100) (m:=7) (by decide) (by decide)
  generalize dr ns 100 7=m at hm em0
  have k3:lw3 ⟨[some (.d (Sd ns)),some (.d c.d),some (.r 0),none,none,none,none,none,none,none,none,none],[.obj 1 (hf c 1 0),.dct []]⟩=some (.nx ⟨V ns c m none none none none none none none none,[.obj 1 (hf c 1 0),.dct []]⟩):=mSet_of (mP_of (lA_of (aC_of rfl (aC_of rfl (aC_of rfl rfl))) em0))
  have P0:Hl [.obj 1 (hf c 1 0),.dct []] 0 1 c (Hb ns ps.length 0) 0:=⟨rfl,rfl⟩
  obtain ⟨w4,e4,s4,y4,y5,y6,rfl,P4⟩:=rng_go (ks:=[4]) (t:=tgN 4) (body:=_) (fun (k:Nat)=>PyData.int (0+(k:Int))) (fun k w=>∃ (s1:Sto) (y4 y5 y6:Option D),w=⟨V ns c m y4 y5 y6 none none none none none,s1⟩∧Hl s1 0 1 c (Hb ns ps.length k) k) m
    (fun k w hk0 ⟨s1,y4,y5,y6,ew,P⟩=>by
      subst ew
      obtain ⟨s2,z5,z6,e,P2⟩:=fill_step hn tr hp (m:=m) (k:=k) (by omega) (s:=s1) (x5:=y5) (x6:=y6) (x7:=none) (x8:=none) (x9:=none) (x10:=none) (x11:=none) P
      have z0:(0:Int)+(k:Int)=(k:Int):=by omega
      exact ⟨_,_,(by rw [z0]; exact mTg_name (by show 4 < 12; decide)),e,s2,_,_,_,rfl,P2⟩)
    (w:=⟨V ns c m none none none none none none none none,[.obj 1 (hf c 1 0),.dct []]⟩) ⟨_,none,none,none,rfl,P0⟩
  have k4:lw4 ⟨V ns c m none none none none none none none none,[.obj 1 (hf c 1 0),.dct []]⟩=some (.nx ⟨V ns c m y4 y5 y6 none none none none none,s4⟩):=by
    have er:rng1 [.int (m:Int)]=some ((List.range m).map fun (k:Nat)=>PyData.int (0+(k:Int))):=by
      rw [rng1_ok (by omega) (by omega),show (m:Int).toNat=m by omega]; rfl
    exact mFor_of (iPu_of (bind_of (aC_of rfl rfl) er)) e4
  obtain ⟨hr,er⟩:=dr_ok hn (z:=200) (m:=(ps.length:Int)) (by decide) (by omega)
  generalize dr ns 200 (ps.length:Int)=r0 at hr er
  have hq:In ps (r0+1):=⟨by omega,by omega⟩
  have a2:lA pLen (aC (eV 1) aN) (vw ⟨V ns c m y4 y5 y6 none none none none none,s4⟩)=some (.int (ps.length:Int)):=lA_of (aC_of rfl rfl) (by show some (PyData.int ((c.st.map c.box).length:Int))=_; rw [List.length_map,st_len tr])
  have k5:lw5 ⟨V ns c m y4 y5 y6 none none none none none,s4⟩=some (.nx ⟨V ns c m y4 (some (.d (c.s (r0+1)))) y6 none none none none none,s4⟩):=mSet_of (mP_of (l2_of (l2_of rfl (lA_of (aC_of rfl (aC_of rfl (aC_of a2 rfl))) er) (at_d tr (by omega))) rfl rfl))
  generalize r0+1=q at hq k5
  have H:∃ H,H=Hb ns ps.length m:=⟨_,rfl⟩
  obtain ⟨H,eH⟩:=H
  rw [← eH] at P4
  have hs:Hs ps H:=by rw [eH]; exact Hb_hs hn hp (by omega)
  have hH:∀ h∈H,h.i < m∧h.w=.u∧h.o=true∧h.q=qk ns ps.length h.i∧h.a=ak ns ps.length h.i:=fun h hh=>Hb_mem (by rw [← eH]; exact hh)
  obtain ⟨s6,H6,L6,c6,P6,_,_,z6⟩:=F_call tr P4 hs hq .v
  obtain ⟨z61,z62⟩:=z6 fun x _ h hh z=>by
    have:=(mt_iff.mp z).2.1
    rw [(hH h hh).2.1] at this
    cases this
  rw [z61] at P6
  rw [z62] at c6
  have due:∀ (w:Wd),lA (fun ds=>if ds.length≤sizeLine then some (.tuple ds) else none) (aC (oE (fun η=>(aN η).bind gL)) (aC (eC (.bool false)) aN)) (vw w)=some (.tuple [.list [],.bool false]):=fun w=>lA_of (aC_of (oE_of rfl) (aC_of rfl rfl)) (tup1_ok (by simp))
  have k6:lw6 ⟨V ns c m y4 (some (.d (c.s q))) y6 none none none none none,s4⟩=some (.nx ⟨V ns c m y4 (some (.d (c.s q))) y6 none none none none none,s6⟩) :=
    mIfN (mB_of (mOpL_of (z:=.bool false) (mMeth_of rfl P4.ob rfl (maC_of (mP_of rfl) (maC_of (mP_of rfl) maN_of)) c6) (mP_of (due _)) rfl rfl (pNe_self (sh_an0 false)) rfl))
  obtain ⟨s7,H7,L,c7,P7,E7,n7,_⟩:=F_call tr P6 hs hq .u
  have hs7:=hs.sub E7.sub
  have k7:lw7 ⟨V ns c m y4 (some (.d (c.s q))) y6 none none none none none,s6⟩=some (.nx ⟨V ns c m y4 (some (.d (c.s q))) y6 (some (.d (.list (L.map (rwD c))))) (some (.d (.bool false))) none none none,s7⟩):=mUnp_of (mMeth_of rfl P6.ob rfl (maC_of (mP_of rfl) (maC_of (mP_of rfl) maN_of)) c7) rfl
  have lL:L.length+H7.length=m:=by rw [E7.len,eH,Hb_len]
  have iL:∃ iL:List Int,iL=L.map fun h=>(h.i:Int):=⟨_,rfl⟩
  obtain ⟨iL,eiL⟩:=iL
  have eI:L.map (fun h=>PyData.int (h.i:Int))=iL.map PyData.int:=by rw [eiL,List.map_map]; rfl
  have k8:lw8 ⟨V ns c m y4 (some (.d (c.s q))) y6 (some (.d (.list (L.map (rwD c))))) (some (.d (.bool false))) none none none,s7⟩=some (.nx ⟨V ns c m y4 (some (.d (c.s q))) y6 (some (.d (.list (L.map (rwD c))))) (some (.d (.bool false))) (some (.d (.list (iL.map PyData.int)))) none none,s7⟩):=by
    refine mSet_of (mC_of (comp_eq (ds:=L.map (rwD c)) (lI_of rfl rfl) (by rw [List.length_map]; omega) ?_))
    rw [← eI]
    exact cGo_mapT (η:=[.un]) (rwD c) (fun h=>PyData.int (h.i:Int)) L fun x _=>⟨[.val (rwD c x)],rfl,l2_of rfl rfl rfl⟩
  have pI:((L++H7).map fun h=>(h.i:Int)).Perm ((List.range m).map fun k:Nat=>(k:Int)):=by
    have:=E7.perm.map fun h:He=>(h.i:Int)
    refine this.trans ?_
    rw [eH,← Hb_i (ns:=ns) (n:=ps.length) (m:=m),List.map_map]
    exact List.Perm.refl _
  have ndR:((List.range m).map fun k:Nat=>(k:Int)).Nodup:=List.Pairwise.map _ (fun a b h e=>h (Int.ofNat.inj e)) List.nodup_range
  have ndA:((L++H7).map fun h=>(h.i:Int)).Nodup:=pI.nodup_iff.mpr ndR
  have ndL:iL.Nodup:=by
    rw [List.map_append] at ndA
    rw [eiL]
    exact (List.nodup_append.mp ndA).1
  have liL:iL.length=L.length:=by rw [eiL,List.length_map]
  have ls:pLenSet [.list (iL.map PyData.int)]=some (.int (L.length:Int)):=by
    unfold pLenSet
    dsimp only
    rw [if_pos (by rw [List.length_map]; omega),asIs_ints,Option.bind_some,dedup_id iL [] (by simpa using ndL),List.nil_append,liL]
  obtain ⟨s9,H9,L9,c9,P9,_,_,z9⟩:=F_call tr P7 hs7 hq .u
  obtain ⟨z91,z92⟩:=z9 n7
  rw [z91] at P9
  rw [z92] at c9
  have W9:∃ W9:MEn,W9=V ns c m y4 (some (.d (c.s q))) y6 (some (.d (.list (L.map (rwD c))))) (some (.d (.bool false))) (some (.d (.list (iL.map PyData.int)))) none none:=⟨_,rfl⟩
  obtain ⟨W9,eW9⟩:=W9
  have k9:lw9 ⟨W9,s7⟩=some (.nx ⟨W9,s9⟩):=by
    rw [eW9]
    refine mIfN (tmOrS (s1:=s7) (tPv_of (bT_of rfl)) (tmOrS (s1:=s7) (tPv_of (bT_of (l2_of (lA_of (aC_of rfl rfl) ls) (lA_of (aC_of rfl rfl) (show pLen [.list (iL.map PyData.int)]=some (.int (L.length:Int)) by show some (PyData.int ((iL.map PyData.int).length:Int))=_; rw [List.length_map,liL])) ((pNe_i _ _).trans (by simp))))) ?_))
    exact mB_of (mOpL_of (z:=.bool false) (mMeth_of rfl P7.ob rfl (maC_of (mP_of rfl) (maC_of (mP_of rfl) maN_of)) c9) (mP_of (due _)) rfl rfl (pNe_self (sh_an0 false)) rfl)
  rw [eW9] at k9
  have k10:lw10 ⟨V ns c m y4 (some (.d (c.s q))) y6 (some (.d (.list (L.map (rwD c))))) (some (.d (.bool false))) (some (.d (.list (iL.map PyData.int)))) none none,s9⟩=some (.nx ⟨V ns c m y4 (some (.d (c.s q))) y6 (some (.d (.list (L.map (rwD c))))) (some (.d (.bool false))) (some (.d (.list (iL.map PyData.int)))) (some (.d (.list []))) none,s9⟩):=mSet_of (mP_of (oE_of rfl))
  have iN:∃ iN:List (Nat×Nat)→List PyData,iN=fun st=>(tls H7 .u (both st)).map fun h=>PyData.int (h.i:Int):=⟨_,rfl⟩
  obtain ⟨iN,eN⟩:=iN
  have lN:∀ st:List (Nat×Nat),st.length≤12→(iN st).length≤2400:=fun st h=>by
    rw [eN]
    dsimp only
    rw [List.length_map]
    have l1:=tls_len H7 .u (both st)
    have l2:(both st).length≤st.length*2:=flat_len fun _ _=>by simp
    have l3:(both st).length*H7.length≤24*100:=Nat.mul_le_mul (by omega) hs7.len
    omega
  obtain ⟨w11,e11,y11,rfl⟩:=mGo_all (ks:=[11]) (t:=tgN 11) (body:=(mSet 10 (mOp pAdd (mOp pAdd (mP (eV 10)) (mMeth 1 "numbers" F_Hall__numbers (mV 2) (maC (mP (l2 pIx (eV 11) (eC (.int 0)))) (maC (mP (eC (.str "u"))) (maC (mP (eC (.bool true))) maN))))) (mMeth 1 "numbers" F_Hall__numbers (mV 2) (maC (mP (l2 pIx (eV 11) (eC (.int 0)))) (maC (mP (eC (.str "u"))) (maC (mP (eC (.bool false))) maN))))))) c.box (fun done w=>∃ (y11:Option D),w=⟨V ns c m y4 (some (.d (c.s q))) y6 (some (.d (.list (L.map (rwD c))))) (some (.d (.bool false))) (some (.d (.list (iL.map PyData.int)))) (some (.d (.list (iN done)))) y11,s9⟩) c.st
    (fun done x rest w e ⟨y11,ew⟩=>by
      subst ew
      have hl:(done++[x]).length≤12:=by
        have:=ok.len
        rw [e] at this
        simp at this ⊢
        omega
      have n1:=F_numbers P9 ok (Nat.le_trans hs7.len (by decide)) x.1 .u true
      have n2:=F_numbers P9 ok (Nat.le_trans hs7.len (by decide)) x.1 .u false
      have eS:iN (done++[x])=iN done++(H7.filter (mt x.1 .u true)).map (fun h=>PyData.int (h.i:Int))++(H7.filter (mt x.1 .u false)).map (fun h=>PyData.int (h.i:Int)):=by
        have e2:(tls H7 .u (both [x])).map (fun h=>PyData.int (h.i:Int))=(H7.filter (mt x.1 .u true)).map (fun h=>PyData.int (h.i:Int))++(H7.filter (mt x.1 .u false)).map (fun h=>PyData.int (h.i:Int)):=by
          rw [← List.map_append]
          refine congrArg (List.map _) ?_
          show H7.filter (mt x.1 .u true)++(H7.filter (mt x.1 .u false)++[])=_
          rw [List.append_nil]
        have e3:both (done++[x])=both done++both [x]:=by unfold both; rw [List.flatMap_append]
        rw [eN]
        dsimp only
        rw [e3,tls_app,List.map_append,e2,List.append_assoc]
      have lS:=lN (done++[x]) hl
      rw [eS] at lS
      simp only [List.length_append,List.length_map] at lS
      refine ⟨_,⟨V ns c m y4 (some (.d (c.s q))) y6 (some (.d (.list (L.map (rwD c))))) (some (.d (.bool false))) (some (.d (.list (iL.map PyData.int)))) (some (.d (.list (iN (done++[x]))))) (some (.d (c.box x))),s9⟩,mTg_name (by show 11 < 12; decide),?_,_,rfl⟩
      rw [eS]
      refine mSet_of (mOp_of (mOp_of (mP_of rfl) (mMeth_of rfl P9.ob rfl (maC_of (mP_of (l2_of rfl rfl rfl)) (maC_of (mP_of rfl) (maC_of (mP_of rfl) maN_of))) n1) rfl rfl (addL (by rw [List.length_map]; omega))) (mMeth_of rfl P9.ob rfl (maC_of (mP_of (l2_of rfl rfl rfl)) (maC_of (mP_of rfl) (maC_of (mP_of rfl) maN_of))) n2) rfl rfl (addL (by rw [List.length_append,List.length_map,List.length_map]; omega))))
    (w:=⟨V ns c m y4 (some (.d (c.s q))) y6 (some (.d (.list (L.map (rwD c))))) (some (.d (.bool false))) (some (.d (.list (iL.map PyData.int)))) (some (.d (.list []))) none,s9⟩) ⟨none,by rw [eN]; rfl⟩
  have k11:lw11 ⟨V ns c m y4 (some (.d (c.s q))) y6 (some (.d (.list (L.map (rwD c))))) (some (.d (.bool false))) (some (.d (.list (iL.map PyData.int)))) (some (.d (.list []))) none,s9⟩=some (.nx ⟨V ns c m y4 (some (.d (c.s q))) y6 (some (.d (.list (L.map (rwD c))))) (some (.d (.bool false))) (some (.d (.list (iL.map PyData.int)))) (some (.d (.list (iN c.st)))) y11,s9⟩):=mFor_of (iPu_of (lI_of rfl rfl)) e11
  have h7:∀ h∈H7,h∈H:=fun h hh=>E7.sub.subset hh
  have pB:(tls H7 .u (both c.st)).Perm H7:=by
    rw [tr.st]
    refine both_perm hs7.nd (fun h hh=>(hH h (h7 h hh)).2.1) fun h hh=>?_
    rw [(hH h (h7 h hh)).2.2.2.1]
    exact qk_in hn hp _
  have eA:iN c.st++iL.map PyData.int=(((tls H7 .u (both c.st))++L).map fun h=>(h.i:Int)).map PyData.int:=by
    rw [eN,eiL]
    simp only [List.map_append,List.map_map]
    rfl
  have pA:((List.range m).map fun k:Nat=>(k:Int)).Perm (((tls H7 .u (both c.st))++L).map fun h=>(h.i:Int)):=by
    refine (pI.symm.trans ?_)
    exact (List.perm_append_comm.trans (List.Perm.append_right L pB.symm)).map _
  have srt:=sort_of (by have:=pA.length_eq; rw [List.length_map,List.length_range] at this; omega) pA (List.Pairwise.map _ (fun a b h=>Int.ofNat_le.mpr (Nat.le_of_lt h)) List.pairwise_lt_range)
  have k12:lw12 ⟨V ns c m y4 (some (.d (c.s q))) y6 (some (.d (.list (L.map (rwD c))))) (some (.d (.bool false))) (some (.d (.list (iL.map PyData.int)))) (some (.d (.list (iN c.st)))) y11,s9⟩=some (.nx ⟨V ns c m y4 (some (.d (c.s q))) y6 (some (.d (.list (L.map (rwD c))))) (some (.d (.bool false))) (some (.d (.list (iL.map PyData.int)))) (some (.d (.list (iN c.st)))) y11,s9⟩):=by
    have f1:l2 pAdd (eV 10) (eV 9) (vw ⟨V ns c m y4 (some (.d (c.s q))) y6 (some (.d (.list (L.map (rwD c))))) (some (.d (.bool false))) (some (.d (.list (iL.map PyData.int)))) (some (.d (.list (iN c.st)))) y11,s9⟩)=some (.list ((((tls H7 .u (both c.st))++L).map fun h=>(h.i:Int)).map PyData.int)):=by
      refine l2_of rfl rfl ?_
      rw [addL (by have:=lN c.st ok.len; rw [List.length_map]; omega),eA]
    have f2:lrS [.int (m:Int)]=some (((List.range m).map fun k:Nat=>(k:Int)).map PyData.int):=by
      unfold lrS
      dsimp only
      rw [if_pos (by omega),show (m:Int).toNat=m by omega]
      show some ((List.range m).map fun k:Nat=>PyData.int (0+(k:Int)))=_
      rw [List.map_map]
      refine congrArg some (List.map_congr_left fun k _=>?_)
      show PyData.int (0+(k:Int))=PyData.int (k:Int)
      rw [Int.zero_add]
    exact mIfN (tPv_of (bT_of (l2_of (lA_of (aC_of f1 rfl) srt) (oE_of (bind_of (aC_of rfl rfl) f2)) (pNe_ints _))))
  have hi7:∀ x∈H7,x.i≠m:=fun x hx=>by have:=(hH x (h7 x hx)).1; omega
  obtain ⟨s13,c13,P13⟩:=F_hear P9 (Nat.le_trans hs7.len (by decide)) hi7 (T_box tr hq) .u true [] false
  have W:∃ W:MEn,W=V ns c m y4 (some (.d (c.s q))) y6 (some (.d (.list (L.map (rwD c))))) (some (.d (.bool false))) (some (.d (.list (iL.map PyData.int)))) (some (.d (.list (iN c.st)))) y11:=⟨_,rfl⟩
  obtain ⟨W,eW⟩:=W
  have tup0:∀ (w:Wd),lA (fun ds=>if ds.length≤sizeLine then some (.tuple ds) else none) aN (vw w)=some (dsD c []):=fun w=>lA_of (ds:=[]) rfl (tup1_ok (by simp))
  have k13:lw13 ⟨W,s9⟩=some (.nx ⟨W,s13⟩):=by
    rw [eW]
    exact mIfN (mB_of (mOpL_of (z:=.bool false) (mMeth_of rfl P9.ob rfl (maC_of (mP_of rfl) (maC_of (mP_of rfl) (maC_of (mP_of rfl) (maC_of (mP_of (tup0 _)) (maC_of (mP_of rfl) maN_of))))) c13) (mP_of rfl) rfl rfl ((pNe_i m m).trans (by simp)) rfl))
  have uN:Un (H7++[(⟨m,q,.u,true,[],false⟩:He)]):=fun x hx y hy e=>by
    rcases List.mem_append.mp hx with zx | zx <;> rcases List.mem_append.mp hy with zy | zy
    · exact hs7.un x zx y zy e
    · exact absurd (by rw [e,List.mem_singleton.mp zy]) (hi7 x zx)
    · exact absurd (by rw [← e,List.mem_singleton.mp zx]) (hi7 y zy)
    · rw [List.mem_singleton.mp zx,List.mem_singleton.mp zy]
  have c14:=F_unhear P13 (i:=m) (h:=⟨m,q,.u,true,[],false⟩) (by simp) uN rfl
  have eF:(H7++[(⟨m,q,.u,true,[],false⟩:He)]).filter (fun x=>!decide (x.i=m))=H7:=by
    rw [List.filter_append]
    have e1:H7.filter (fun x=>!decide (x.i=m))=H7:=by
      rw [List.filter_eq_self]
      intro x hx
      simpa using hi7 x hx
    rw [e1]
    simp
  rw [eF] at c14
  have S14:∃ s14,s14=s13.set 1 (.dct (kvs c H7)):=⟨_,rfl⟩
  obtain ⟨s14,es14⟩:=S14
  have P14:Hl s14 0 1 c H7 (m+1):=by rw [es14]; exact P13.put H7
  rw [← es14] at c14
  have k14:lw14 ⟨W,s13⟩=some (.nx ⟨W,s14⟩):=by
    rw [eW]
    exact mExp_of (mMeth_of rfl P13.ob rfl (maC_of (mP_of rfl) maN_of) c14)
  obtain ⟨s15,c15,P15⟩:=F_hear P14 (Nat.le_trans hs7.len (by decide)) (fun x hx=>by have:=(hH x (h7 x hx)).1; omega) (T_box tr hq) .w false [] true
  have ad1:∀ (w:Wd),vw w=vw ⟨W,w.s⟩→l2 pAdd (eV 3) (eC (.int 1)) (vw w)=some (.int ((m+1:Nat):Int)):=fun w e=>by
    rw [e,eW]
    exact l2_of rfl rfl rfl
  have k15:lw15 ⟨W,s14⟩=some (.nx ⟨W,s15⟩):=by
    rw [eW]
    exact mIfN (mB_of (mOpL_of (z:=.bool false) (mMeth_of rfl P14.ob rfl (maC_of (mP_of rfl) (maC_of (mP_of rfl) (maC_of (mP_of rfl) (maC_of (mP_of (tup0 _)) (maC_of (mP_of rfl) maN_of))))) c15) (mP_of (l2_of rfl rfl (show pAdd (.int (m:Int)) (.int 1)=some (.int ((m+1:Nat):Int)) from rfl))) rfl rfl ((pNe_i (m+1) (m+1)).trans (by simp)) rfl))
  have zz:∃ z:He,z=⟨m+1,q,.w,false,[],true⟩:=⟨_,rfl⟩
  obtain ⟨z,ez⟩:=zz
  rw [← ez] at P15
  have hz7:∀ x∈H7,x.i≠z.i:=fun x hx=>by have:=(hH x (h7 x hx)).1; rw [ez]; show x.i≠m+1; omega
  have hs15:Hs ps (H7++[z]):=by
    refine ⟨fun x hx y hy e=>?_,?_,fun h hh=>?_,fun h hh=>?_,?_⟩
    · rcases List.mem_append.mp hx with zx | zx <;> rcases List.mem_append.mp hy with zy | zy
      · exact hs7.un x zx y zy e
      · exact absurd (by rw [e,List.mem_singleton.mp zy]) (hz7 x zx)
      · exact absurd (by rw [← e,List.mem_singleton.mp zx]) (hz7 y zy)
      · rw [List.mem_singleton.mp zx,List.mem_singleton.mp zy]
    · rw [List.nodup_append]
      refine ⟨hs7.nd,by simp,fun x hx y hy e=>?_⟩
      rw [List.mem_singleton.mp hy] at e
      exact hz7 x hx (by rw [e])
    · rcases List.mem_append.mp hh with y | y
      · exact hs7.o h y
      · rw [List.mem_singleton.mp y,ez]
    · rcases List.mem_append.mp hh with y | y
      · exact hs7.a h y
      · rw [List.mem_singleton.mp y,ez]; exact .inl rfl
    · rw [List.length_append,List.length_singleton]
      omega
  obtain ⟨s16,H16,L16,c16,P16,E16,n16,_⟩:=F_call tr P15 hs15 hq .w
  have w16:=E16.wd fun h hh hw=>by
    rcases List.mem_append.mp hh with y | y
    · rw [(hH h (h7 h y)).2.1] at hw
      cases hw
    · rw [List.mem_singleton.mp y,ez]
  have zL:z∈L16:=by
    have h1:z∈L16++H16:=E16.perm.mem_iff.mpr (by simp)
    rcases List.mem_append.mp h1 with y | y
    · exact y
    · exact absurd (mt_iff.mpr (by rw [ez]; exact ⟨rfl,rfl,rfl⟩)) (n16 (q,false) (q_in_trn tr.ps hq false) z y)
  have eL:L16=[z]:=by
    refine only_one ?_ zL fun x hx=>?_
    · have:=E16.perm.nodup_iff.mpr hs15.nd
      exact (List.nodup_append.mp this).1
    · have h1:x∈H7++[z]:=E16.perm.mem_iff.mp (List.mem_append_left _ hx)
      rcases List.mem_append.mp h1 with y | y
      · have:=w16 x hx
        rw [(hH x (h7 x y)).2.1] at this
        cases this
      · exact List.mem_singleton.mp y
  subst eL
  have k16:lw16 ⟨W,s15⟩=some (.rt (.d (.bool true)) s16):=by
    rw [eW]
    refine mRet_of (mOpL_of (z:=.bool true) (mOp_of (z:=.list ([z].map (rwD c))) (mMeth_of rfl P15.ob rfl (maC_of (mP_of rfl) (maC_of (mP_of rfl) maN_of)) c16) (mP_of rfl) rfl rfl rfl) (mP_of (oE_of (bind_of (aC_of (lA_of (aC_of (l2_of rfl rfl (show pAdd (.int (m:Int)) (.int 1)=some (.int ((m+1:Nat):Int)) from rfl)) (aC_of rfl (aC_of rfl (aC_of rfl rfl)))) (tup1_ok (by simp))) rfl) (gL_ok (by simp))))) rfl rfl ?_ rfl)
    rw [ez]
    show pEq (.list ([(⟨m+1,q,.w,false,[],true⟩:He)].map (rwD c))) (.list ([(⟨m+1,q,.w,false,[],true⟩:He)].map (rwD c)))=_
    unfold pEq
    rw [if_pos ⟨sh_rows ok _,sh_rows ok _⟩,SeqAt.eqv_refl _ (SeqAt.canLay_of_shaped (sh_rows ok _))]
  rw [← eW] at k12
  rw [← eW] at k11
  exact ⟨s16,go (mSeq_of k0 (mSeq_of k1 (mSeq_of k2 (mSeq_of k3 (mSeq_of k4 (mSeq_of k5 (mSeq_of k6 (mSeq_of k7 (mSeq_of k8 (mSeq_of k9 (mSeq_of k10 (mSeq_of k11 (mSeq_of k12 (mSeq_of k13 (mSeq_of k14 (mSeq_of k15 k16))))))))))))))))⟩
end K15
namespace K15
open PySem L2 L2.PU
set_option maxHeartbeats 4000000 in
theorem all_mk (main:∀ ns:List Int,ns.length≤63→∃ s',F_law [.d (.list (ns.map PyData.int))] []=some (.d (.bool true),s')) {l:PySem.W.OpenLaw} {w:World} {K:PySem.W.Frag} {h:Heap} {mg:Str→Option Value} {fa:Addr} (X:K.In h) (G:h.Ns mainGlobals mg) (hfa:mg "law" = some (.ref fa))
    {C_Course:Addr}
    {C_Hall:Addr}
    {f__law_cell:Addr} {od__law_cell an__law_cell:Option Addr} {sl__law_cell:Array (Option Value)} {oc__law_cell kV__law_cell dc__law_cell pm__law_cell cd__law_cell ct__law_cell:Value}
    {f__law_drawn:Addr} {od__law_drawn an__law_drawn:Option Addr} {sl__law_drawn:Array (Option Value)} {oc__law_drawn kV__law_drawn dc__law_drawn pm__law_drawn cd__law_drawn ct__law_drawn:Value}
    {f__law_scene:Addr} {od__law_scene an__law_scene:Option Addr} {sl__law_scene:Array (Option Value)} {oc__law_scene kV__law_scene dc__law_scene pm__law_scene cd__law_scene ct__law_scene:Value}
    {f_Hall____init__:Addr} {od_Hall____init__ an_Hall____init__:Option Addr} {sl_Hall____init__:Array (Option Value)} {oc_Hall____init__ kV_Hall____init__ dc_Hall____init__ pm_Hall____init__ cd_Hall____init__ ct_Hall____init__:Value}
    {f_box_of:Addr} {od_box_of an_box_of:Option Addr} {sl_box_of:Array (Option Value)} {oc_box_of kV_box_of dc_box_of pm_box_of cd_box_of ct_box_of:Value}
    {f_Hall__hear:Addr} {od_Hall__hear an_Hall__hear:Option Addr} {sl_Hall__hear:Array (Option Value)} {oc_Hall__hear kV_Hall__hear dc_Hall__hear pm_Hall__hear cd_Hall__hear ct_Hall__hear:Value}
    {f_path_of:Addr} {od_path_of an_path_of:Option Addr} {sl_path_of:Array (Option Value)} {oc_path_of kV_path_of dc_path_of pm_path_of cd_path_of ct_path_of:Value}
    {f_has_box:Addr} {od_has_box an_has_box:Option Addr} {sl_has_box:Array (Option Value)} {oc_has_box kV_has_box dc_has_box pm_has_box cd_has_box ct_has_box:Value}
    {f_Hall__numbers:Addr} {od_Hall__numbers an_Hall__numbers:Option Addr} {sl_Hall__numbers:Array (Option Value)} {oc_Hall__numbers kV_Hall__numbers dc_Hall__numbers pm_Hall__numbers cd_Hall__numbers ct_Hall__numbers:Value}
    {f_Hall__unhear:Addr} {od_Hall__unhear an_Hall__unhear:Option Addr} {sl_Hall__unhear:Array (Option Value)} {oc_Hall__unhear kV_Hall__unhear dc_Hall__unhear pm_Hall__unhear cd_Hall__unhear ct_Hall__unhear:Value}
    {f_Hall__unhear_if_there:Addr} {od_Hall__unhear_if_there an_Hall__unhear_if_there:Option Addr} {sl_Hall__unhear_if_there:Array (Option Value)} {oc_Hall__unhear_if_there kV_Hall__unhear_if_there dc_Hall__unhear_if_there pm_Hall__unhear_if_there cd_Hall__unhear_if_there ct_Hall__unhear_if_there:Value}
    {f_Hall__cut:Addr} {od_Hall__cut an_Hall__cut:Option Addr} {sl_Hall__cut:Array (Option Value)} {oc_Hall__cut kV_Hall__cut dc_Hall__cut pm_Hall__cut cd_Hall__cut ct_Hall__cut:Value}
    {f_Course____init__:Addr} {od_Course____init__ an_Course____init__:Option Addr} {sl_Course____init__:Array (Option Value)} {oc_Course____init__ kV_Course____init__ dc_Course____init__ pm_Course____init__ cd_Course____init__ ct_Course____init__:Value}
    {f_Hall__do_deed_on_box:Addr} {od_Hall__do_deed_on_box an_Hall__do_deed_on_box:Option Addr} {sl_Hall__do_deed_on_box:Array (Option Value)} {oc_Hall__do_deed_on_box kV_Hall__do_deed_on_box dc_Hall__do_deed_on_box pm_Hall__do_deed_on_box cd_Hall__do_deed_on_box ct_Hall__do_deed_on_box:Value}
    {f_Hall__do_deed:Addr} {od_Hall__do_deed an_Hall__do_deed:Option Addr} {sl_Hall__do_deed:Array (Option Value)} {oc_Hall__do_deed kV_Hall__do_deed dc_Hall__do_deed pm_Hall__do_deed cd_Hall__do_deed ct_Hall__do_deed:Value}
    {f_Hall__rouse:Addr} {od_Hall__rouse an_Hall__rouse:Option Addr} {sl_Hall__rouse:Array (Option Value)} {oc_Hall__rouse kV_Hall__rouse dc_Hall__rouse pm_Hall__rouse cd_Hall__rouse ct_Hall__rouse:Value}
    {f_Hall__give_turn:Addr} {od_Hall__give_turn an_Hall__give_turn:Option Addr} {sl_Hall__give_turn:Array (Option Value)} {oc_Hall__give_turn kV_Hall__give_turn dc_Hall__give_turn pm_Hall__give_turn cd_Hall__give_turn ct_Hall__give_turn:Value}
    {f_Hall__go_along:Addr} {od_Hall__go_along an_Hall__go_along:Option Addr} {sl_Hall__go_along:Array (Option Value)} {oc_Hall__go_along kV_Hall__go_along dc_Hall__go_along pm_Hall__go_along cd_Hall__go_along ct_Hall__go_along:Value}
    {f_Hall__call:Addr} {od_Hall__call an_Hall__call:Option Addr} {sl_Hall__call:Array (Option Value)} {oc_Hall__call kV_Hall__call dc_Hall__call pm_Hall__call cd_Hall__call ct_Hall__call:Value}
    {f_law:Addr} {od_law an_law:Option Addr} {sl_law:Array (Option Value)} {oc_law kV_law dc_law pm_law cd_law ct_law:Value}
    {t_AROUND:Tok}
    {t_BOX:Tok}
    {t_DEEDS:Tok}
    {t_IS_DOWN:Tok}
    {t_IS_ONCE:Tok}
    {t_MOST_CALLS_WITHIN:Tok}
    {t_NAME:Tok}
    {t_WORD:Tok}
    (aC_Course:PySem.W.nsIn K mainGlobals "Course" = some (some (.ref C_Course)))
    (pg_Course:PySem.W.plainGet K C_Course Str.empty=true)
    (hd_Course:PySem.W.hasDictIn K C_Course=true)
    (po_Course:PySem.W.plainOver K C_Course=true)
    (sa_Course:PySem.W.findIn K (.ref C_Course) "__setattr__" = some (some (.builtin "object.__setattr__")))
    (mk_Course:PySem.W.makesIn K C_Course=true)
    (kc_Course:PySem.W.keepIn K (.ref C_Course)=true)
    (aC_Hall:PySem.W.nsIn K mainGlobals "Hall" = some (some (.ref C_Hall)))
    (pg_Hall:PySem.W.plainGet K C_Hall Str.empty=true)
    (hd_Hall:PySem.W.hasDictIn K C_Hall=true)
    (po_Hall:PySem.W.plainOver K C_Hall=true)
    (sa_Hall:PySem.W.findIn K (.ref C_Hall) "__setattr__" = some (some (.builtin "object.__setattr__")))
    (mk_Hall:PySem.W.makesIn K C_Hall=true)
    (kc_Hall:PySem.W.keepIn K (.ref C_Hall)=true)
    (na_Course_depth:PySem.W.findIn K (.ref C_Course) "depth" = some none)
    (na_Course_is_ended:PySem.W.findIn K (.ref C_Course) "is_ended" = some none)
    (na_Course_is_kept:PySem.W.findIn K (.ref C_Course) "is_kept" = some none)
    (na_Course_is_last_turn:PySem.W.findIn K (.ref C_Course) "is_last_turn" = some none)
    (na_Course_told:PySem.W.findIn K (.ref C_Course) "told" = some none)
    (na_Course_word:PySem.W.findIn K (.ref C_Course) "word" = some none)
    (na_Hall_hearers:PySem.W.findIn K (.ref C_Hall) "hearers" = some none)
    (na_Hall_made:PySem.W.findIn K (.ref C_Hall) "made" = some none)
    (na_Hall_scene:PySem.W.findIn K (.ref C_Hall) "scene" = some none)
    (a__law_cell:PySem.W.nsIn K mainGlobals "_law_cell" = some (some (.ref f__law_cell)))
    (l__law_cell:K.lookup f__law_cell=some ⟨oc__law_cell,od__law_cell,.func (PySem.W.fnOf "_law_cell" "_law_cell" (defArgs s__law_cell) (defBody s__law_cell) (defScope s__law_cell) .none kV__law_cell dc__law_cell pm__law_cell an__law_cell cd__law_cell ct__law_cell),sl__law_cell⟩) (c__law_cell:PySem.W.codeIn K cd__law_cell "_law_cell" = true) (k__law_cell:PySem.W.keepIn K (.ref f__law_cell)=true)
    (a__law_drawn:PySem.W.nsIn K mainGlobals "_law_drawn" = some (some (.ref f__law_drawn)))
    (l__law_drawn:K.lookup f__law_drawn=some ⟨oc__law_drawn,od__law_drawn,.func (PySem.W.fnOf "_law_drawn" "_law_drawn" (defArgs s__law_drawn) (defBody s__law_drawn) (defScope s__law_drawn) .none kV__law_drawn dc__law_drawn pm__law_drawn an__law_drawn cd__law_drawn ct__law_drawn),sl__law_drawn⟩) (c__law_drawn:PySem.W.codeIn K cd__law_drawn "_law_drawn" = true) (k__law_drawn:PySem.W.keepIn K (.ref f__law_drawn)=true)
    (a__law_scene:PySem.W.nsIn K mainGlobals "_law_scene" = some (some (.ref f__law_scene)))
    (l__law_scene:K.lookup f__law_scene=some ⟨oc__law_scene,od__law_scene,.func (PySem.W.fnOf "_law_scene" "_law_scene" (defArgs s__law_scene) (defBody s__law_scene) (defScope s__law_scene) .none kV__law_scene dc__law_scene pm__law_scene an__law_scene cd__law_scene ct__law_scene),sl__law_scene⟩) (c__law_scene:PySem.W.codeIn K cd__law_scene "_law_scene" = true) (k__law_scene:PySem.W.keepIn K (.ref f__law_scene)=true)
    (a_Hall____init__:PySem.W.findIn K (.ref C_Hall) "__init__" = some (some (.ref f_Hall____init__))) (i_Hall____init__:PySem.W.isFn K (.ref f_Hall____init__)=true)
    (l_Hall____init__:K.lookup f_Hall____init__=some ⟨oc_Hall____init__,od_Hall____init__,.func (PySem.W.fnOf "__init__" "Hall.__init__" (defArgs s_Hall____init__) (defBody s_Hall____init__) (defScope s_Hall____init__) .none kV_Hall____init__ dc_Hall____init__ pm_Hall____init__ an_Hall____init__ cd_Hall____init__ ct_Hall____init__),sl_Hall____init__⟩) (c_Hall____init__:PySem.W.codeIn K cd_Hall____init__ "Hall.__init__" = true) (k_Hall____init__:PySem.W.keepIn K (.ref f_Hall____init__)=true)
    (a_box_of:PySem.W.nsIn K mainGlobals "box_of" = some (some (.ref f_box_of)))
    (l_box_of:K.lookup f_box_of=some ⟨oc_box_of,od_box_of,.func (PySem.W.fnOf "box_of" "box_of" (defArgs s_box_of) (defBody s_box_of) (defScope s_box_of) .none kV_box_of dc_box_of pm_box_of an_box_of cd_box_of ct_box_of),sl_box_of⟩) (c_box_of:PySem.W.codeIn K cd_box_of "box_of" = true) (k_box_of:PySem.W.keepIn K (.ref f_box_of)=true)
    (a_Hall__hear:PySem.W.findIn K (.ref C_Hall) "hear" = some (some (.ref f_Hall__hear))) (i_Hall__hear:PySem.W.isFn K (.ref f_Hall__hear)=true)
    (l_Hall__hear:K.lookup f_Hall__hear=some ⟨oc_Hall__hear,od_Hall__hear,.func (PySem.W.fnOf "hear" "Hall.hear" (defArgs s_Hall__hear) (defBody s_Hall__hear) (defScope s_Hall__hear) .none kV_Hall__hear dc_Hall__hear pm_Hall__hear an_Hall__hear cd_Hall__hear ct_Hall__hear),sl_Hall__hear⟩) (c_Hall__hear:PySem.W.codeIn K cd_Hall__hear "Hall.hear" = true) (k_Hall__hear:PySem.W.keepIn K (.ref f_Hall__hear)=true)
    (a_path_of:PySem.W.nsIn K mainGlobals "path_of" = some (some (.ref f_path_of)))
    (l_path_of:K.lookup f_path_of=some ⟨oc_path_of,od_path_of,.func (PySem.W.fnOf "path_of" "path_of" (defArgs s_path_of) (defBody s_path_of) (defScope s_path_of) .none kV_path_of dc_path_of pm_path_of an_path_of cd_path_of ct_path_of),sl_path_of⟩) (c_path_of:PySem.W.codeIn K cd_path_of "path_of" = true) (k_path_of:PySem.W.keepIn K (.ref f_path_of)=true)
    (a_has_box:PySem.W.nsIn K mainGlobals "has_box" = some (some (.ref f_has_box)))
    (l_has_box:K.lookup f_has_box=some ⟨oc_has_box,od_has_box,.func (PySem.W.fnOf "has_box" "has_box" (defArgs s_has_box) (defBody s_has_box) (defScope s_has_box) .none kV_has_box dc_has_box pm_has_box an_has_box cd_has_box ct_has_box),sl_has_box⟩) (c_has_box:PySem.W.codeIn K cd_has_box "has_box" = true) (k_has_box:PySem.W.keepIn K (.ref f_has_box)=true)
    (a_Hall__numbers:PySem.W.findIn K (.ref C_Hall) "numbers" = some (some (.ref f_Hall__numbers))) (i_Hall__numbers:PySem.W.isFn K (.ref f_Hall__numbers)=true)
    (l_Hall__numbers:K.lookup f_Hall__numbers=some ⟨oc_Hall__numbers,od_Hall__numbers,.func (PySem.W.fnOf "numbers" "Hall.numbers" (defArgs s_Hall__numbers) (defBody s_Hall__numbers) (defScope s_Hall__numbers) .none kV_Hall__numbers dc_Hall__numbers pm_Hall__numbers an_Hall__numbers cd_Hall__numbers ct_Hall__numbers),sl_Hall__numbers⟩) (c_Hall__numbers:PySem.W.codeIn K cd_Hall__numbers "Hall.numbers" = true) (k_Hall__numbers:PySem.W.keepIn K (.ref f_Hall__numbers)=true)
    (a_Hall__unhear:PySem.W.findIn K (.ref C_Hall) "unhear" = some (some (.ref f_Hall__unhear))) (i_Hall__unhear:PySem.W.isFn K (.ref f_Hall__unhear)=true)
    (l_Hall__unhear:K.lookup f_Hall__unhear=some ⟨oc_Hall__unhear,od_Hall__unhear,.func (PySem.W.fnOf "unhear" "Hall.unhear" (defArgs s_Hall__unhear) (defBody s_Hall__unhear) (defScope s_Hall__unhear) .none kV_Hall__unhear dc_Hall__unhear pm_Hall__unhear an_Hall__unhear cd_Hall__unhear ct_Hall__unhear),sl_Hall__unhear⟩) (c_Hall__unhear:PySem.W.codeIn K cd_Hall__unhear "Hall.unhear" = true) (k_Hall__unhear:PySem.W.keepIn K (.ref f_Hall__unhear)=true)
    (a_Hall__unhear_if_there:PySem.W.findIn K (.ref C_Hall) "unhear_if_there" = some (some (.ref f_Hall__unhear_if_there))) (i_Hall__unhear_if_there:PySem.W.isFn K (.ref f_Hall__unhear_if_there)=true)
    (l_Hall__unhear_if_there:K.lookup f_Hall__unhear_if_there=some ⟨oc_Hall__unhear_if_there,od_Hall__unhear_if_there,.func (PySem.W.fnOf "unhear_if_there" "Hall.unhear_if_there" (defArgs s_Hall__unhear_if_there) (defBody s_Hall__unhear_if_there) (defScope s_Hall__unhear_if_there) .none kV_Hall__unhear_if_there dc_Hall__unhear_if_there pm_Hall__unhear_if_there an_Hall__unhear_if_there cd_Hall__unhear_if_there ct_Hall__unhear_if_there),sl_Hall__unhear_if_there⟩) (c_Hall__unhear_if_there:PySem.W.codeIn K cd_Hall__unhear_if_there "Hall.unhear_if_there" = true) (k_Hall__unhear_if_there:PySem.W.keepIn K (.ref f_Hall__unhear_if_there)=true)
    (a_Hall__cut:PySem.W.findIn K (.ref C_Hall) "cut" = some (some (.ref f_Hall__cut))) (i_Hall__cut:PySem.W.isFn K (.ref f_Hall__cut)=true)
    (l_Hall__cut:K.lookup f_Hall__cut=some ⟨oc_Hall__cut,od_Hall__cut,.func (PySem.W.fnOf "cut" "Hall.cut" (defArgs s_Hall__cut) (defBody s_Hall__cut) (defScope s_Hall__cut) .none kV_Hall__cut dc_Hall__cut pm_Hall__cut an_Hall__cut cd_Hall__cut ct_Hall__cut),sl_Hall__cut⟩) (c_Hall__cut:PySem.W.codeIn K cd_Hall__cut "Hall.cut" = true) (k_Hall__cut:PySem.W.keepIn K (.ref f_Hall__cut)=true)
    (a_Course____init__:PySem.W.findIn K (.ref C_Course) "__init__" = some (some (.ref f_Course____init__))) (i_Course____init__:PySem.W.isFn K (.ref f_Course____init__)=true)
    (l_Course____init__:K.lookup f_Course____init__=some ⟨oc_Course____init__,od_Course____init__,.func (PySem.W.fnOf "__init__" "Course.__init__" (defArgs s_Course____init__) (defBody s_Course____init__) (defScope s_Course____init__) .none kV_Course____init__ dc_Course____init__ pm_Course____init__ an_Course____init__ cd_Course____init__ ct_Course____init__),sl_Course____init__⟩) (c_Course____init__:PySem.W.codeIn K cd_Course____init__ "Course.__init__" = true) (k_Course____init__:PySem.W.keepIn K (.ref f_Course____init__)=true)
    (a_Hall__do_deed_on_box:PySem.W.findIn K (.ref C_Hall) "do_deed_on_box" = some (some (.ref f_Hall__do_deed_on_box))) (i_Hall__do_deed_on_box:PySem.W.isFn K (.ref f_Hall__do_deed_on_box)=true)
    (l_Hall__do_deed_on_box:K.lookup f_Hall__do_deed_on_box=some ⟨oc_Hall__do_deed_on_box,od_Hall__do_deed_on_box,.func (PySem.W.fnOf "do_deed_on_box" "Hall.do_deed_on_box" (defArgs s_Hall__do_deed_on_box) (defBody s_Hall__do_deed_on_box) (defScope s_Hall__do_deed_on_box) .none kV_Hall__do_deed_on_box dc_Hall__do_deed_on_box pm_Hall__do_deed_on_box an_Hall__do_deed_on_box cd_Hall__do_deed_on_box ct_Hall__do_deed_on_box),sl_Hall__do_deed_on_box⟩) (c_Hall__do_deed_on_box:PySem.W.codeIn K cd_Hall__do_deed_on_box "Hall.do_deed_on_box" = true) (k_Hall__do_deed_on_box:PySem.W.keepIn K (.ref f_Hall__do_deed_on_box)=true)
    (a_Hall__do_deed:PySem.W.findIn K (.ref C_Hall) "do_deed" = some (some (.ref f_Hall__do_deed))) (i_Hall__do_deed:PySem.W.isFn K (.ref f_Hall__do_deed)=true)
    (l_Hall__do_deed:K.lookup f_Hall__do_deed=some ⟨oc_Hall__do_deed,od_Hall__do_deed,.func (PySem.W.fnOf "do_deed" "Hall.do_deed" (defArgs s_Hall__do_deed) (defBody s_Hall__do_deed) (defScope s_Hall__do_deed) .none kV_Hall__do_deed dc_Hall__do_deed pm_Hall__do_deed an_Hall__do_deed cd_Hall__do_deed ct_Hall__do_deed),sl_Hall__do_deed⟩) (c_Hall__do_deed:PySem.W.codeIn K cd_Hall__do_deed "Hall.do_deed" = true) (k_Hall__do_deed:PySem.W.keepIn K (.ref f_Hall__do_deed)=true)
    (a_Hall__rouse:PySem.W.findIn K (.ref C_Hall) "rouse" = some (some (.ref f_Hall__rouse))) (i_Hall__rouse:PySem.W.isFn K (.ref f_Hall__rouse)=true)
    (l_Hall__rouse:K.lookup f_Hall__rouse=some ⟨oc_Hall__rouse,od_Hall__rouse,.func (PySem.W.fnOf "rouse" "Hall.rouse" (defArgs s_Hall__rouse) (defBody s_Hall__rouse) (defScope s_Hall__rouse) .none kV_Hall__rouse dc_Hall__rouse pm_Hall__rouse an_Hall__rouse cd_Hall__rouse ct_Hall__rouse),sl_Hall__rouse⟩) (c_Hall__rouse:PySem.W.codeIn K cd_Hall__rouse "Hall.rouse" = true) (k_Hall__rouse:PySem.W.keepIn K (.ref f_Hall__rouse)=true)
    (a_Hall__give_turn:PySem.W.findIn K (.ref C_Hall) "give_turn" = some (some (.ref f_Hall__give_turn))) (i_Hall__give_turn:PySem.W.isFn K (.ref f_Hall__give_turn)=true)
    (l_Hall__give_turn:K.lookup f_Hall__give_turn=some ⟨oc_Hall__give_turn,od_Hall__give_turn,.func (PySem.W.fnOf "give_turn" "Hall.give_turn" (defArgs s_Hall__give_turn) (defBody s_Hall__give_turn) (defScope s_Hall__give_turn) .none kV_Hall__give_turn dc_Hall__give_turn pm_Hall__give_turn an_Hall__give_turn cd_Hall__give_turn ct_Hall__give_turn),sl_Hall__give_turn⟩) (c_Hall__give_turn:PySem.W.codeIn K cd_Hall__give_turn "Hall.give_turn" = true) (k_Hall__give_turn:PySem.W.keepIn K (.ref f_Hall__give_turn)=true)
    (a_Hall__go_along:PySem.W.findIn K (.ref C_Hall) "go_along" = some (some (.ref f_Hall__go_along))) (i_Hall__go_along:PySem.W.isFn K (.ref f_Hall__go_along)=true)
    (l_Hall__go_along:K.lookup f_Hall__go_along=some ⟨oc_Hall__go_along,od_Hall__go_along,.func (PySem.W.fnOf "go_along" "Hall.go_along" (defArgs s_Hall__go_along) (defBody s_Hall__go_along) (defScope s_Hall__go_along) .none kV_Hall__go_along dc_Hall__go_along pm_Hall__go_along an_Hall__go_along cd_Hall__go_along ct_Hall__go_along),sl_Hall__go_along⟩) (c_Hall__go_along:PySem.W.codeIn K cd_Hall__go_along "Hall.go_along" = true) (k_Hall__go_along:PySem.W.keepIn K (.ref f_Hall__go_along)=true)
    (a_Hall__call:PySem.W.findIn K (.ref C_Hall) "call" = some (some (.ref f_Hall__call))) (i_Hall__call:PySem.W.isFn K (.ref f_Hall__call)=true)
    (l_Hall__call:K.lookup f_Hall__call=some ⟨oc_Hall__call,od_Hall__call,.func (PySem.W.fnOf "call" "Hall.call" (defArgs s_Hall__call) (defBody s_Hall__call) (defScope s_Hall__call) .none kV_Hall__call dc_Hall__call pm_Hall__call an_Hall__call cd_Hall__call ct_Hall__call),sl_Hall__call⟩) (c_Hall__call:PySem.W.codeIn K cd_Hall__call "Hall.call" = true) (k_Hall__call:PySem.W.keepIn K (.ref f_Hall__call)=true)
    (a_law:PySem.W.nsIn K mainGlobals "law" = some (some (.ref f_law)))
    (l_law:K.lookup f_law=some ⟨oc_law,od_law,.func (PySem.W.fnOf "law" "law" (defArgs s_law) (defBody s_law) (defScope s_law) .none kV_law dc_law pm_law an_law cd_law ct_law),sl_law⟩) (c_law:PySem.W.codeIn K cd_law "law" = true) (k_law:PySem.W.keepIn K (.ref f_law)=true)
    (c_AROUND:PySem.W.nsIn K mainGlobals "AROUND" = some (some (.int (1) t_AROUND)))
    (c_BOX:PySem.W.nsIn K mainGlobals "BOX" = some (some (.int (0) t_BOX)))
    (c_DEEDS:PySem.W.nsIn K mainGlobals "DEEDS" = some (some (.int (3) t_DEEDS)))
    (c_IS_DOWN:PySem.W.nsIn K mainGlobals "IS_DOWN" = some (some (.int (2) t_IS_DOWN)))
    (c_IS_ONCE:PySem.W.nsIn K mainGlobals "IS_ONCE" = some (some (.int (4) t_IS_ONCE)))
    (c_MOST_CALLS_WITHIN:PySem.W.nsIn K mainGlobals "MOST_CALLS_WITHIN" = some (some (.int (3) t_MOST_CALLS_WITHIN)))
    (c_NAME:PySem.W.nsIn K mainGlobals "NAME" = some (some (.int (0) t_NAME)))
    (c_WORD:PySem.W.nsIn K mainGlobals "WORD" = some (some (.int (1) t_WORD)))
    (z_any:PySem.W.nsIn K mainGlobals "any" = some none)
    (z_enumerate:PySem.W.nsIn K mainGlobals "enumerate" = some none)
    (z_len:PySem.W.nsIn K mainGlobals "len" = some none)
    (z_list:PySem.W.nsIn K mainGlobals "list" = some none)
    (z_range:PySem.W.nsIn K mainGlobals "range" = some none)
    (z_reversed:PySem.W.nsIn K mainGlobals "reversed" = some none)
    (z_set:PySem.W.nsIn K mainGlobals "set" = some none)
    (z_sorted:PySem.W.nsIn K mainGlobals "sorted" = some none)
    (z_tuple:PySem.W.nsIn K mainGlobals "tuple" = some none)
    : ∃ fd:FuncData,(∀ (s:Shared) (v:Value),BindsTo s fd ⟨[v],[]⟩ [("_law_script", v)])∧∀ base:Heap,K.In base→base.Ns mainGlobals mg→FnOk l.prog w K mg base CX0 62 fa fd ["_law_script"] (spL K):=by
  have e:=hfa.symm.trans (PySem.W.mg_of X G a_law)
  cases e
  have F__law_cell:=fun_mk (st:=s__law_cell) l__law_cell c__law_cell k__law_cell
  have F__law_drawn:=fun_mk (st:=s__law_drawn) l__law_drawn c__law_drawn k__law_drawn
  have F__law_scene:=fun_mk (st:=s__law_scene) l__law_scene c__law_scene k__law_scene
  have F_Hall____init__:=fun_mk (st:=s_Hall____init__) l_Hall____init__ c_Hall____init__ k_Hall____init__
  have F_box_of:=fun_mk (st:=s_box_of) l_box_of c_box_of k_box_of
  have F_Hall__hear:=fun_mk (st:=s_Hall__hear) l_Hall__hear c_Hall__hear k_Hall__hear
  have F_path_of:=fun_mk (st:=s_path_of) l_path_of c_path_of k_path_of
  have F_has_box:=fun_mk (st:=s_has_box) l_has_box c_has_box k_has_box
  have F_Hall__numbers:=fun_mk (st:=s_Hall__numbers) l_Hall__numbers c_Hall__numbers k_Hall__numbers
  have F_Hall__unhear:=fun_mk (st:=s_Hall__unhear) l_Hall__unhear c_Hall__unhear k_Hall__unhear
  have F_Hall__unhear_if_there:=fun_mk (st:=s_Hall__unhear_if_there) l_Hall__unhear_if_there c_Hall__unhear_if_there k_Hall__unhear_if_there
  have F_Hall__cut:=fun_mk (st:=s_Hall__cut) l_Hall__cut c_Hall__cut k_Hall__cut
  have F_Course____init__:=fun_mk (st:=s_Course____init__) l_Course____init__ c_Course____init__ k_Course____init__
  have F_Hall__do_deed_on_box:=fun_mk (st:=s_Hall__do_deed_on_box) l_Hall__do_deed_on_box c_Hall__do_deed_on_box k_Hall__do_deed_on_box
  have F_Hall__do_deed:=fun_mk (st:=s_Hall__do_deed) l_Hall__do_deed c_Hall__do_deed k_Hall__do_deed
  have F_Hall__rouse:=fun_mk (st:=s_Hall__rouse) l_Hall__rouse c_Hall__rouse k_Hall__rouse
  have F_Hall__give_turn:=fun_mk (st:=s_Hall__give_turn) l_Hall__give_turn c_Hall__give_turn k_Hall__give_turn
  have F_Hall__go_along:=fun_mk (st:=s_Hall__go_along) l_Hall__go_along c_Hall__go_along k_Hall__go_along
  have F_Hall__call:=fun_mk (st:=s_Hall__call) l_Hall__call c_Hall__call k_Hall__call
  have F_law:=fun_mk (st:=s_law) l_law c_law k_law
  have b__law_cell:=F__law_cell.binds (ps:=["_law_script", "_law_k"]) fun _ _ _ _ _ _ us hl=>match us,hl with | [_,_],_=>rfl
  have b__law_drawn:=F__law_drawn.binds (ps:=["_law_script", "_law_k", "_law_many"]) fun _ _ _ _ _ _ us hl=>match us,hl with | [_,_,_],_=>rfl
  have b__law_scene:=F__law_scene.binds (ps:=["_law_script", "_law_at"]) fun _ _ _ _ _ _ us hl=>match us,hl with | [_,_],_=>rfl
  have b_Hall____init__:=F_Hall____init__.binds (ps:=["self", "scene"]) fun _ _ _ _ _ _ us hl=>match us,hl with | [_,_],_=>rfl
  have b_box_of:=F_box_of.binds (ps:=["scene", "name"]) fun _ _ _ _ _ _ us hl=>match us,hl with | [_,_],_=>rfl
  have b_Hall__hear:=F_Hall__hear.binds (ps:=["self", "name", "word", "is_down", "deeds", "is_once"]) fun _ _ _ _ _ _ us hl=>match us,hl with | [_,_,_,_,_,_],_=>rfl
  have b_path_of:=F_path_of.binds (ps:=["scene", "name"]) fun _ _ _ _ _ _ us hl=>match us,hl with | [_,_],_=>rfl
  have b_has_box:=F_has_box.binds (ps:=["scene", "name"]) fun _ _ _ _ _ _ us hl=>match us,hl with | [_,_],_=>rfl
  have b_Hall__numbers:=F_Hall__numbers.binds (ps:=["self", "name", "word", "is_down"]) fun _ _ _ _ _ _ us hl=>match us,hl with | [_,_,_,_],_=>rfl
  have b_Hall__unhear:=F_Hall__unhear.binds (ps:=["self", "number"]) fun _ _ _ _ _ _ us hl=>match us,hl with | [_,_],_=>rfl
  have b_Hall__unhear_if_there:=F_Hall__unhear_if_there.binds (ps:=["self", "number"]) fun _ _ _ _ _ _ us hl=>match us,hl with | [_,_],_=>rfl
  have b_Hall__cut:=F_Hall__cut.binds (ps:=["self", "name"]) fun _ _ _ _ _ _ us hl=>match us,hl with | [_,_],_=>rfl
  have b_Course____init__:=F_Course____init__.binds (ps:=["self", "word", "depth", "told"]) fun _ _ _ _ _ _ us hl=>match us,hl with | [_,_,_,_],_=>rfl
  have b_Hall__do_deed_on_box:=F_Hall__do_deed_on_box.binds (ps:=["self", "deed", "course"]) fun _ _ _ _ _ _ us hl=>match us,hl with | [_,_,_],_=>rfl
  have b_Hall__do_deed:=F_Hall__do_deed.binds (ps:=["self", "deed", "course"]) fun _ _ _ _ _ _ us hl=>match us,hl with | [_,_,_],_=>rfl
  have b_Hall__rouse:=F_Hall__rouse.binds (ps:=["self", "number", "course"]) fun _ _ _ _ _ _ us hl=>match us,hl with | [_,_,_],_=>rfl
  have b_Hall__give_turn:=F_Hall__give_turn.binds (ps:=["self", "box", "is_down", "course"]) fun _ _ _ _ _ _ us hl=>match us,hl with | [_,_,_,_],_=>rfl
  have b_Hall__go_along:=F_Hall__go_along.binds (ps:=["self", "name", "course"]) fun _ _ _ _ _ _ us hl=>match us,hl with | [_,_,_],_=>rfl
  have b_Hall__call:=F_Hall__call.binds (ps:=["self", "name", "word"]) fun _ _ _ _ _ _ us hl=>match us,hl with | [_,_,_],_=>rfl
  have b_law:=F_law.binds (ps:=["_law_script"]) fun _ _ _ _ _ _ us hl=>match us,hl with | [_],_=>rfl
  have tx:Tx K mg ⟨C_Course,C_Hall,f__law_cell,_,f__law_drawn,_,f__law_scene,_,f_Hall____init__,_,f_box_of,_,f_Hall__hear,_,f_path_of,_,f_has_box,_,f_Hall__numbers,_,f_Hall__unhear,_,f_Hall__unhear_if_there,_,f_Hall__cut,_,f_Course____init__,_,f_Hall__do_deed_on_box,_,f_Hall__do_deed,_,f_Hall__rouse,_,f_Hall__give_turn,_,f_Hall__go_along,_,f_Hall__call,_,_,_,t_AROUND,t_BOX,t_DEEDS,t_IS_DOWN,t_IS_ONCE,t_MOST_CALLS_WITHIN,t_NAME,t_WORD⟩:=⟨⟨pg_Course,hd_Course,po_Course,sa_Course⟩,⟨mk_Course,a_Course____init__,i_Course____init__,kc_Course⟩,PySem.W.mg_of X G aC_Course,⟨pg_Hall,hd_Hall,po_Hall,sa_Hall⟩,⟨mk_Hall,a_Hall____init__,i_Hall____init__,kc_Hall⟩,PySem.W.mg_of X G aC_Hall,na_Course_depth,na_Course_is_ended,na_Course_is_kept,na_Course_is_last_turn,na_Course_told,na_Course_word,na_Hall_hearers,na_Hall_made,na_Hall_scene,F__law_cell,PySem.W.mg_of X G a__law_cell,b__law_cell,F__law_drawn,PySem.W.mg_of X G a__law_drawn,b__law_drawn,F__law_scene,PySem.W.mg_of X G a__law_scene,b__law_scene,F_Hall____init__,b_Hall____init__,F_box_of,PySem.W.mg_of X G a_box_of,b_box_of,F_Hall__hear,⟨a_Hall__hear,i_Hall__hear,k_Hall__hear⟩,b_Hall__hear,F_path_of,PySem.W.mg_of X G a_path_of,b_path_of,F_has_box,PySem.W.mg_of X G a_has_box,b_has_box,F_Hall__numbers,⟨a_Hall__numbers,i_Hall__numbers,k_Hall__numbers⟩,b_Hall__numbers,F_Hall__unhear,⟨a_Hall__unhear,i_Hall__unhear,k_Hall__unhear⟩,b_Hall__unhear,F_Hall__unhear_if_there,⟨a_Hall__unhear_if_there,i_Hall__unhear_if_there,k_Hall__unhear_if_there⟩,b_Hall__unhear_if_there,F_Hall__cut,⟨a_Hall__cut,i_Hall__cut,k_Hall__cut⟩,b_Hall__cut,F_Course____init__,b_Course____init__,F_Hall__do_deed_on_box,⟨a_Hall__do_deed_on_box,i_Hall__do_deed_on_box,k_Hall__do_deed_on_box⟩,b_Hall__do_deed_on_box,F_Hall__do_deed,⟨a_Hall__do_deed,i_Hall__do_deed,k_Hall__do_deed⟩,b_Hall__do_deed,F_Hall__rouse,⟨a_Hall__rouse,i_Hall__rouse,k_Hall__rouse⟩,b_Hall__rouse,F_Hall__give_turn,⟨a_Hall__give_turn,i_Hall__give_turn,k_Hall__give_turn⟩,b_Hall__give_turn,F_Hall__go_along,⟨a_Hall__go_along,i_Hall__go_along,k_Hall__go_along⟩,b_Hall__go_along,F_Hall__call,⟨a_Hall__call,i_Hall__call,k_Hall__call⟩,b_Hall__call,F_law,PySem.W.mg_of X G a_law,b_law,PySem.W.mg_of X G c_AROUND,PySem.W.mg_of X G c_BOX,PySem.W.mg_of X G c_DEEDS,PySem.W.mg_of X G c_IS_DOWN,PySem.W.mg_of X G c_IS_ONCE,PySem.W.mg_of X G c_MOST_CALLS_WITHIN,PySem.W.mg_of X G c_NAME,PySem.W.mg_of X G c_WORD,PySem.W.mg_none_of X G z_any,PySem.W.mg_none_of X G z_enumerate,PySem.W.mg_none_of X G z_len,PySem.W.mg_none_of X G z_list,PySem.W.mg_none_of X G z_range,PySem.W.mg_none_of X G z_reversed,PySem.W.mg_none_of X G z_set,PySem.W.mg_none_of X G z_sorted,PySem.W.mg_none_of X G z_tuple⟩
  exact ⟨_,fun s v=>.of_eq rfl,fun base _ _=>(G_law tx).imp (spM_law main)⟩
theorem walk {l:PySem.W.OpenLaw} {q:Program} {loose:List Str} {XP:(Str→Option Value)→Heap→Prop} {YP:World→Heap→Prop} {d:DefRec} {K:Params→PySem.W.Frag} (hn:l.most=some 63) (hdf:d.params.defaults=[])
    (hY:∀ (w:World) (h:Heap),YP w h→(K w.params).In h)
    (F:∀ (w:World) (mg:Str→Option Value) (fa:Addr) (h:Heap),(K w.params).In h→h.Ns mainGlobals mg→mg d.name=some (.ref fa) →
      ∃ fd:FuncData,(∀ (s:Shared) (u:Value),BindsTo s fd ⟨[u],[]⟩ [("_law_script", u)])∧∀ base:Heap,(K w.params).In base→base.Ns mainGlobals mg→FnOk l.prog w (K w.params) mg base CX0 62 fa fd ["_law_script"] (spL (K w.params))) :
    PySem.W.WalkO q loose XP YP l.row.toRowW d [] (fun f vs=>PySem.call f vs) :=
  L2.walk_of (n:=63) (k:=62) (x := "_law_script") (CX:=fun _=>CX0) (sp:=fun w=>spL (K w.params)) hn (by decide) hdf ⟨rfl,by decide,by decide⟩ hY F (fun _ _ a ns hl _ hS=>⟨a,ns,rfl,hS,hl,fun _=>rfl⟩) fun _ _ _ _ _ z=>z
end K15
open PySem PySem.W PyProof.Rows
noncomputable def K15.view:Program:={ PySem.Challenge.pw_touchtree_k15_whole_once with main:={ PySem.Challenge.pw_touchtree_k15_whole_once.main with body:=[23,14,4,0].foldl (fun l i=>l.eraseIdx i) PySem.Challenge.pw_touchtree_k15_whole_once.main.body } }
set_option hygiene false in
local macro_rules
  | `(tactic| o_head $H)=>`(tactic| (
      refine holds_open (q:=K15.view) (loose:=["cut_scenes"]) (Xt:=fun s=>xlAt K15.view ["cut_scenes"] s&&recOk (RowW.records (OpenRow.toRowW (OpenLaw.row PySem.Challenge.rw_touchtree_k15_whole_once))) s) (XP:=XL K15.view ["cut_scenes"]) (Yf:=Hook.obs $H) (Ya:=Hook.val $H) (YP:=Hook.says $H) (N:=4024) ?hl (Hook.of $H) (Hook.keeps $H) (fun s e=>xl_of s (Bool.and_eq_true_iff.mp e).1) XL.keeps (by rfl) (by rfl) (by rfl) (fun s e=>recFacts_of (Bool.and_eq_true_iff.mp e).2) (by rfl) (by assumption) (by decide +kernel) ⟨rfl,rfl,rfl,rfl,rfl,by decide +kernel⟩ ?hw ?hc
      (case hl=>(intro w; unfold openEnds fencedOpening topFrom; rewrite [PySem.W.Fast.te10274390034422433532,PySem.W.Fast.te14082659384304107361,PySem.W.Fast.te14364793385576792824,PySem.W.Fast.te14289696077712309145,PySem.W.Fast.te1435165496053646825,PySem.W.Fast.te4187177175401517315,PySem.W.Fast.te16959820192247284554]; kernel_rfl))))
set_option maxRecDepth 100000 in
set_option maxHeartbeats 0 in
theorem PySem.Challenge.cw_touchtree_k15_whole_once_holds : PySem.Challenge.rw_touchtree_k15_whole_once.Holds := by
  w_on; o_law; k_head; (case hw=>w_witness2)
  k_fill
  refine K15.walk (l := PySem.Challenge.rw_touchtree_k15_whole_once) rfl rfl (fun w h Y=>PySem.W.kIn_of Y) ?F
  case F =>
    intro w mg fa h KX G hmg
    refine' K15.all_mk K15.main KX G hmg ?aC_Course ?pg_Course ?hd_Course ?po_Course ?sa_Course ?mk_Course ?kc_Course ?aC_Hall ?pg_Hall ?hd_Hall ?po_Hall ?sa_Hall ?mk_Hall ?kc_Hall ?na_Course_depth ?na_Course_is_ended ?na_Course_is_kept ?na_Course_is_last_turn ?na_Course_told ?na_Course_word ?na_Hall_hearers ?na_Hall_made ?na_Hall_scene ?a__law_cell ?l__law_cell ?c__law_cell ?k__law_cell ?a__law_drawn ?l__law_drawn ?c__law_drawn ?k__law_drawn ?a__law_scene ?l__law_scene ?c__law_scene ?k__law_scene ?a_Hall____init__ ?i_Hall____init__ ?l_Hall____init__ ?c_Hall____init__ ?k_Hall____init__ ?a_box_of ?l_box_of ?c_box_of ?k_box_of ?a_Hall__hear ?i_Hall__hear ?l_Hall__hear ?c_Hall__hear ?k_Hall__hear ?a_path_of ?l_path_of ?c_path_of ?k_path_of ?a_has_box ?l_has_box ?c_has_box ?k_has_box ?a_Hall__numbers ?i_Hall__numbers ?l_Hall__numbers ?c_Hall__numbers ?k_Hall__numbers ?a_Hall__unhear ?i_Hall__unhear ?l_Hall__unhear ?c_Hall__unhear ?k_Hall__unhear ?a_Hall__unhear_if_there ?i_Hall__unhear_if_there ?l_Hall__unhear_if_there ?c_Hall__unhear_if_there ?k_Hall__unhear_if_there ?a_Hall__cut ?i_Hall__cut ?l_Hall__cut ?c_Hall__cut ?k_Hall__cut ?a_Course____init__ ?i_Course____init__ ?l_Course____init__ ?c_Course____init__ ?k_Course____init__ ?a_Hall__do_deed_on_box ?i_Hall__do_deed_on_box ?l_Hall__do_deed_on_box ?c_Hall__do_deed_on_box ?k_Hall__do_deed_on_box ?a_Hall__do_deed ?i_Hall__do_deed ?l_Hall__do_deed ?c_Hall__do_deed ?k_Hall__do_deed ?a_Hall__rouse ?i_Hall__rouse ?l_Hall__rouse ?c_Hall__rouse ?k_Hall__rouse ?a_Hall__give_turn ?i_Hall__give_turn ?l_Hall__give_turn ?c_Hall__give_turn ?k_Hall__give_turn ?a_Hall__go_along ?i_Hall__go_along ?l_Hall__go_along ?c_Hall__go_along ?k_Hall__go_along ?a_Hall__call ?i_Hall__call ?l_Hall__call ?c_Hall__call ?k_Hall__call ?a_law ?l_law ?c_law ?k_law ?c_AROUND ?c_BOX ?c_DEEDS ?c_IS_DOWN ?c_IS_ONCE ?c_MOST_CALLS_WITHIN ?c_NAME ?c_WORD ?z_any ?z_enumerate ?z_len ?z_list ?z_range ?z_reversed ?z_set ?z_sorted ?z_tuple
    (case aC_Course=>k_is)
    (case pg_Course=>k_is)
    (case hd_Course=>k_is)
    (case po_Course=>k_is)
    (case sa_Course=>k_is)
    (case mk_Course=>k_is)
    (case kc_Course=>k_is)
    (case aC_Hall=>k_is)
    (case pg_Hall=>k_is)
    (case hd_Hall=>k_is)
    (case po_Hall=>k_is)
    (case sa_Hall=>k_is)
    (case mk_Hall=>k_is)
    (case kc_Hall=>k_is)
    (case na_Course_depth=>k_is)
    (case na_Course_is_ended=>k_is)
    (case na_Course_is_kept=>k_is)
    (case na_Course_is_last_turn=>k_is)
    (case na_Course_told=>k_is)
    (case na_Course_word=>k_is)
    (case na_Hall_hearers=>k_is)
    (case na_Hall_made=>k_is)
    (case na_Hall_scene=>k_is)
    (case a__law_cell=>k_is)
    (case l__law_cell=>k_is)
    (case c__law_cell=>k_is)
    (case k__law_cell=>k_is)
    (case a__law_drawn=>k_is)
    (case l__law_drawn=>k_is)
    (case c__law_drawn=>k_is)
    (case k__law_drawn=>k_is)
    (case a__law_scene=>k_is)
    (case l__law_scene=>k_is)
    (case c__law_scene=>k_is)
    (case k__law_scene=>k_is)
    (case a_Hall____init__=>k_is)
    (case i_Hall____init__=>k_is)
    (case l_Hall____init__=>k_is)
    (case c_Hall____init__=>k_is)
    (case k_Hall____init__=>k_is)
    (case a_box_of=>k_is)
    (case l_box_of=>k_is)
    (case c_box_of=>k_is)
    (case k_box_of=>k_is)
    (case a_Hall__hear=>k_is)
    (case i_Hall__hear=>k_is)
    (case l_Hall__hear=>k_is)
    (case c_Hall__hear=>k_is)
    (case k_Hall__hear=>k_is)
    (case a_path_of=>k_is)
    (case l_path_of=>k_is)
    (case c_path_of=>k_is)
    (case k_path_of=>k_is)
    (case a_has_box=>k_is)
    (case l_has_box=>k_is)
    (case c_has_box=>k_is)
    (case k_has_box=>k_is)
    (case a_Hall__numbers=>k_is)
    (case i_Hall__numbers=>k_is)
    (case l_Hall__numbers=>k_is)
    (case c_Hall__numbers=>k_is)
    (case k_Hall__numbers=>k_is)
    (case a_Hall__unhear=>k_is)
    (case i_Hall__unhear=>k_is)
    (case l_Hall__unhear=>k_is)
    (case c_Hall__unhear=>k_is)
    (case k_Hall__unhear=>k_is)
    (case a_Hall__unhear_if_there=>k_is)
    (case i_Hall__unhear_if_there=>k_is)
    (case l_Hall__unhear_if_there=>k_is)
    (case c_Hall__unhear_if_there=>k_is)
    (case k_Hall__unhear_if_there=>k_is)
    (case a_Hall__cut=>k_is)
    (case i_Hall__cut=>k_is)
    (case l_Hall__cut=>k_is)
    (case c_Hall__cut=>k_is)
    (case k_Hall__cut=>k_is)
    (case a_Course____init__=>k_is)
    (case i_Course____init__=>k_is)
    (case l_Course____init__=>k_is)
    (case c_Course____init__=>k_is)
    (case k_Course____init__=>k_is)
    (case a_Hall__do_deed_on_box=>k_is)
    (case i_Hall__do_deed_on_box=>k_is)
    (case l_Hall__do_deed_on_box=>k_is)
    (case c_Hall__do_deed_on_box=>k_is)
    (case k_Hall__do_deed_on_box=>k_is)
    (case a_Hall__do_deed=>k_is)
    (case i_Hall__do_deed=>k_is)
    (case l_Hall__do_deed=>k_is)
    (case c_Hall__do_deed=>k_is)
    (case k_Hall__do_deed=>k_is)
    (case a_Hall__rouse=>k_is)
    (case i_Hall__rouse=>k_is)
    (case l_Hall__rouse=>k_is)
    (case c_Hall__rouse=>k_is)
    (case k_Hall__rouse=>k_is)
    (case a_Hall__give_turn=>k_is)
    (case i_Hall__give_turn=>k_is)
    (case l_Hall__give_turn=>k_is)
    (case c_Hall__give_turn=>k_is)
    (case k_Hall__give_turn=>k_is)
    (case a_Hall__go_along=>k_is)
    (case i_Hall__go_along=>k_is)
    (case l_Hall__go_along=>k_is)
    (case c_Hall__go_along=>k_is)
    (case k_Hall__go_along=>k_is)
    (case a_Hall__call=>k_is)
    (case i_Hall__call=>k_is)
    (case l_Hall__call=>k_is)
    (case c_Hall__call=>k_is)
    (case k_Hall__call=>k_is)
    (case a_law=>k_is)
    (case l_law=>k_is)
    (case c_law=>k_is)
    (case k_law=>k_is)
    (case c_AROUND=>k_is)
    (case c_BOX=>k_is)
    (case c_DEEDS=>k_is)
    (case c_IS_DOWN=>k_is)
    (case c_IS_ONCE=>k_is)
    (case c_MOST_CALLS_WITHIN=>k_is)
    (case c_NAME=>k_is)
    (case c_WORD=>k_is)
    (case z_any=>k_is)
    (case z_enumerate=>k_is)
    (case z_len=>k_is)
    (case z_list=>k_is)
    (case z_range=>k_is)
    (case z_reversed=>k_is)
    (case z_set=>k_is)
    (case z_sorted=>k_is)
    (case z_tuple=>k_is)
#print axioms PySem.Challenge.cw_touchtree_k15_whole_once_holds
