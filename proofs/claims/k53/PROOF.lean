import PyProof.Rows.All
import Wide.All
import OpenK.AllK
import Wide.FinOn
import PyProof.EqAt
import PyProof.EqKinds
import PyProof.TupleCall
import PyProof.CompFree
import PyProof.Cells
import KE.KDictList
import KE.KDictLaws
import Lean
import PySem.Challenge.RW_touchtree_k53_plans
noncomputable section
set_option Elab.async false
set_option linter.all false
set_option maxRecDepth 100000
namespace L2
open PySem PySem.Spec PyProof.Rows
abbrev Key:=Sum Int Str
def keyIs:Key→Value→Bool
  | .inl k,v=>Value.isInt k v
  | .inr x,v=>Value.isStrOf x v
def keyH (w:World):Key→Int
  | .inl k=>hashInt k
  | .inr x=>hashStr w x
theorem keyIs_shape:∀ {k:Key} {v:Value},keyIs k v=true→(∃ i t,k=Sum.inl i∧v=Value.int i t)∨(∃ x t,k=Sum.inr x∧v=Value.str x t)
  | .inl i,v,h=>by
    obtain ⟨t,e⟩:=Value.isInt_shape (k:=i) (v:=v) h
    exact .inl ⟨i,t,rfl,e⟩
  | .inr x,v,h=>by
    obtain ⟨t,e⟩:=Value.isStrOf_shape (x:=x) (v:=v) h
    exact .inr ⟨x,t,rfl,e⟩
theorem key_ll (a b:Int):decide ((Sum.inl a:Key)=Sum.inl b)=(a==b):=by
  by_cases e:a=b
  · subst e; simp
  · have h:¬ (Sum.inl a:Key)=Sum.inl b:=fun q=>e (Sum.inl.inj q)
    rw [decide_eq_false h]
    exact (beq_eq_false_iff_ne.mpr e).symm
theorem key_rr (a b:Str):decide ((Sum.inr a:Key)=Sum.inr b)=decide (a=b):=by
  by_cases e:a=b
  · subst e; simp
  · have h:¬ (Sum.inr a:Key)=Sum.inr b:=fun q=>e (Sum.inr.inj q)
    rw [decide_eq_false h,decide_eq_false e]
theorem key_lr (a:Int) (b:Str):decide ((Sum.inl a:Key)=Sum.inr b)=false:=decide_eq_false (fun q=>nomatch q)
theorem key_rl (a:Str) (b:Int):decide ((Sum.inr a:Key)=Sum.inl b)=false:=decide_eq_false (fun q=>nomatch q)
def mixKind (prog:Program) (w:World):PySem.KeyKind prog w Key where
  is:=keyIs
  hash:=keyH w
  inj:=fun v a b ha hb=>by
    rcases keyIs_shape ha with ⟨i,t,rfl,rfl⟩ | ⟨x,t,rfl,rfl⟩
    · rcases keyIs_shape hb with ⟨j,u,rfl,e⟩ | ⟨y,u,rfl,e⟩
      · injection e with e1 _; rw [e1]
      · exact nomatch e
    · rcases keyIs_shape hb with ⟨j,u,rfl,e⟩ | ⟨y,u,rfl,e⟩
      · exact nomatch e
      · injection e with e1 _; rw [e1]
  byValue:=fun k v h=>by
    rcases keyIs_shape h with ⟨i,t,rfl,rfl⟩ | ⟨x,t,rfl,rfl⟩ <;> rfl
  pyHash:=fun hv h=>by
    rcases keyIs_shape hv with ⟨i,t,rfl,rfl⟩ | ⟨x,t,rfl,rfl⟩
    · exact wpAny_pyHash_int h
    · exact wpAny_pyHash_str h
  eqBool:=fun hu hv h=>by
    rcases keyIs_shape hu with ⟨i,t,rfl,rfl⟩ | ⟨x,t,rfl,rfl⟩
    · rcases keyIs_shape hv with ⟨j,u,rfl,rfl⟩ | ⟨y,u,rfl,rfl⟩
      · rw [key_ll] at h; exact wpAny_eqBool_int h
      · rw [key_lr] at h; exact SeqAt.EqAt.int_str i t y u _ _ _ _ h
    · rcases keyIs_shape hv with ⟨j,u,rfl,rfl⟩ | ⟨y,u,rfl,rfl⟩
      · rw [key_rl] at h; exact SeqAt.EqAt.str_int x t j u _ _ _ _ h
      · rw [key_rr] at h; exact wpAny_eqBool_str h
  «strs»:=fun k x t v h=>by
    rcases keyIs_shape h with ⟨i,u,rfl,e⟩ | ⟨y,u,rfl,e⟩
    · exact nomatch e
    · injection e with e1 _
      subst e1
      cases v <;> rfl
end L2
namespace L2
open PySem PySem.Spec PyProof.Rows
inductive V where
  | non | bl (b:Bool) | int (i:Int) | str (x:Str) | byt (b:Array UInt8) | flt (b:UInt64) | ref (a:Addr) | ty (n:String)
  deriving DecidableEq
def RelV:V→Value→Prop
  | .non,u=>u=Value.none
  | .bl b,u=>u=Value.bool b
  | .int i,u=>∃ t,u=Value.int i t
  | .str x,u=>∃ t,u=Value.str x t
  | .byt b,u=>∃ t,u=Value.bytes b t
  | .flt b,u=>∃ t,u=Value.float b t
  | .ref a,u=>u=Value.ref a
  | .ty n,u=>u=Value.type n
abbrev Vals:List V→List Value→Prop:=Paired RelV
theorem Vals.length {xs:List V} {us:List Value} (r:Vals xs us):xs.length=us.length:=Paired.length r
theorem Vals.get:∀ {xs:List V} {us:List Value} {i:Nat} {x:V},Vals xs us→xs[i]?=some x→∃ u,us[i]?=some u∧RelV x u
  | _,_,_,_,.nil,e=>by simp at e
  | _,_,0,_,.cons r _,e=>by simp at e; subst e; exact ⟨_,rfl,r⟩
  | _,_,i+1,x,.cons _ t,e=>by
    obtain ⟨u,h1,h2⟩:=Vals.get (i:=i) (x:=x) t (by simpa using e)
    exact ⟨u,by simpa using h1,h2⟩
theorem Vals.append:∀ {xs ys:List V} {us ws:List Value},Vals xs us→Vals ys ws→Vals (xs++ys) (us++ws)
  | _,_,_,_,.nil,s=>s
  | _,_,_,_,.cons r t,s=>.cons r (Vals.append t s)
theorem Vals.take:∀ {xs:List V} {us:List Value} (n:Nat),Vals xs us→Vals (xs.take n) (us.take n)
  | _,_,0,_=>.nil
  | _,_,_+1,.nil=>.nil
  | _,_,n+1,.cons r t=>.cons r (Vals.take n t)
theorem Vals.drop:∀ {xs:List V} {us:List Value} (n:Nat),Vals xs us→Vals (xs.drop n) (us.drop n)
  | _,_,0,r=>r
  | _,_,_+1,.nil=>.nil
  | _,_,n+1,.cons _ t=>Vals.drop n t
def RelO:Option V→Option Value→Prop
  | some v,some u=>RelV v u
  | none,none=>True
  | _,_=>False
def KV {κ:Type}:List (κ×V)→List (κ×Value)→Prop:=Paired fun (p:κ×V) (q:κ×Value)=>p.1=q.1∧RelV p.2 q.2
def kV:Key→V
  | .inl i=>.int i
  | .inr x=>.str x
inductive HO where
  | lst (xs:List V)
  | tup (xs:List V)
  | dK (kvs:List (Key×V)) | dT (kvs:List (List Key×V))
  | set (S:Int→Bool) (n:Nat)
  | ins (C dx:Addr) (fs:List (Str×V))
  | own (x:Addr)
  | xd (fs:List (Str×V))
  | met (f x:Addr)
  | rng (lo hi:Int)
  | frz (o:Obj) (u:HO)
  | tbl (ps:Array Value)
  | ext (φ:Heap→Prop)
abbrev Hp:=Addr→Option HO
def upd (H:Hp) (a:Addr) (o:HO):Hp:=fun b=>if b=a then some o else H b
theorem upd_same {H:Hp} {a:Addr} {o:HO}:upd H a o a=some o:=by unfold upd; rw [if_pos rfl]
theorem upd_ne {H:Hp} {a b:Addr} {o:HO} (h:b≠a):upd H a o b=H b:=by unfold upd; rw [if_neg h]
theorem ne_of_none {H:Hp} {a b:Addr} {o:HO} (h:H a=some o) (h':H b=none):a≠b:=by
  intro e; subst e; rw [h] at h'; cases h'
section
variable (P:Program) (w:World)
def ObjOk (H:Hp) (h:Heap) (a:Addr):HO→Prop
  | .lst xs=>xs.length≤sizeLine∧∃ (its:List Value) (n:Nat),Vals xs its∧h.get? a=some { cls:=.type "list", data:=.seq its.toArray n }
  | .tup xs=>xs.length≤sizeLine∧∃ its:List Value,Vals xs its∧IsTup h a its.toArray
  | .dK kvs=>kvs.length≤sizeLine∧(a==sysModules)=false∧∃ vs,KV kvs vs∧h.DictOf (mixKind P w) a vs
  | .dT kvs=>kvs.length≤sizeLine∧(a==sysModules)=false∧∃ xs:List (List Key×Addr×Value),
      Paired (fun (p:List Key×V) (q:List Key×Addr×Value)=>p.1=q.1∧H q.2.1=some (.tup (p.1.map kV))∧RelV p.2 q.2.2) kvs xs ∧
      ∃ o es ep,h.get? a=some o∧o.ExactDict∧o.data=.dict es ep∧es.toList=xs.map (entryOfKey (tupleKind (mixKind P w)))∧(xs.map (·.1)).Nodup
  | .set S n=>h.SetOf (intKind P w) a S n
  | .ins C dx fs=>H dx=some (.own a)∧fs.length≤1000∧dx≠a∧h.get? a=some (PySem.W.instObj C dx) ∧
      ∃ mA,h.Ns1 dx mA∧(∀ f,RelO (fs.lookup f) (mA f))∧PySem.Within mA (fs.map (·.1))
  | .own _=>∃ o,h.get? a=some o
  | .xd fs=>∃ mA,h.Ns1 a mA∧∀ f,RelO (fs.lookup f) (mA f)
  | .rng lo hi=>∃ t u v,h.get? a=some { cls:=.type "range", data:=.fields #[.int lo t,.int hi u,.int 1 v] }
  | .frz o u=>h.get? a=some o∧ObjOk H h a u
  | .tbl ps=>h.get? a=some { cls:=.none,data:=.fields ps }
  | .met f x=>h.get? a=some (PySem.W.methodObj (.ref f) (.ref x))
  | .ext φ=>φ h∧(∃ o,h.get? a=some o)∧∀ h1 h2:Heap,φ h1→(∀ o,h1.get? a=some o→h2.get? a=some o)→φ h2
def HOk (H:Hp) (h:Heap):Prop:=∀ a o,H a=some o→ObjOk P w H h a o
end
section
variable {P:Program} {w:World} {H H':Hp} {h h':Heap} {a:Addr} {o:HO}
theorem ObjOk.lt (x:ObjOk P w H h a o):a < h.objs.size:=by
  cases o with
  | lst xs=>obtain ⟨_,_,_,_,e⟩:=x; exact Heap.lt_size e
  | tup xs=>obtain ⟨_,_,_,p⟩:=x; exact p.lt
  | dK kvs=>obtain ⟨_,_,_,_,o,_,_,e,_⟩:=x; exact Heap.lt_size e
  | dT kvs=>obtain ⟨_,_,_,_,o,_,_,e,_⟩:=x; exact Heap.lt_size e
  | set S n=>obtain ⟨o,_,_,_,e,_⟩:=x; exact Heap.lt_size e
  | ins C dx fs=>obtain ⟨_,_,_,e,_⟩:=x; exact Heap.lt_size e
  | own y=>obtain ⟨_,e⟩:=x; exact Heap.lt_size e
  | xd fs=>obtain ⟨_,⟨_,_,_,e,_⟩,_⟩:=x; exact Heap.lt_size e
  | rng lo hi=>obtain ⟨_,_,_,e⟩:=x; exact Heap.lt_size e
  | frz ob u=>obtain ⟨e,_⟩:=x; exact Heap.lt_size e
  | tbl ps=>exact Heap.lt_size (show h.get? a=some _ from x)
  | met f y=>exact Heap.lt_size (show h.get? a=some _ from x)
  | ext φ=>obtain ⟨_,⟨_,e⟩,_⟩:=x; exact Heap.lt_size e
theorem Paired.mapP {α β:Type} {F G:α→β→Prop}:∀ {l₁:List α} {l₂:List β},Paired F l₁ l₂→(∀ a b,F a b→G a b)→Paired G l₁ l₂
  | _,_,.nil,_=>.nil
  | _,_,.cons r t,f=>.cons (f _ _ r) (Paired.mapP t f)
theorem ObjOk.stay (x:ObjOk P w H h a o) (k:∀ b u,(b=a∨H b=some (.own a))→h.get? b=some u→h'.get? b=some u)
    (ho:∀ b,H b=some (.own a)→H' b=some (.own a)) (ht:∀ b xs,H b=some (.tup xs)→H' b=some (.tup xs)):ObjOk P w H' h' a o:=by
  induction o with
  | lst xs=>obtain ⟨z,its,n,r,e⟩:=x; exact ⟨z,its,n,r,k _ _ (.inl rfl) e⟩
  | tup xs=>obtain ⟨z,its,r,ob,e,c⟩:=x; exact ⟨z,its,r,ob,k _ _ (.inl rfl) e,c⟩
  | dK kvs=>obtain ⟨z,y,vs,r,ob,es,ep,e,c⟩:=x; exact ⟨z,y,vs,r,ob,es,ep,k _ _ (.inl rfl) e,c⟩
  | dT kvs =>
    obtain ⟨z,y,xs,r,ob,es,ep,e,c⟩:=x
    exact ⟨z,y,xs,Paired.mapP r fun p q z=>⟨z.1,ht _ _ z.2.1,z.2.2⟩,ob,es,ep,k _ _ (.inl rfl) e,c⟩
  | set S n=>obtain ⟨ob,es,ep,t,e,c⟩:=x; exact ⟨ob,es,ep,t,k _ _ (.inl rfl) e,c⟩
  | ins C dx fs =>
    obtain ⟨d,z,ne,e,mA,⟨od,es,ep,e2,c⟩,r⟩:=x
    exact ⟨ho _ d,z,ne,k _ _ (.inl rfl) e,mA,⟨od,es,ep,k _ _ (.inr d) e2,c⟩,r⟩
  | own y=>obtain ⟨ob,e⟩:=x; exact ⟨ob,k _ _ (.inl rfl) e⟩
  | xd fs=>obtain ⟨mA,⟨od,es,ep,e,c⟩,r⟩:=x; exact ⟨mA,⟨od,es,ep,k _ _ (.inl rfl) e,c⟩,r⟩
  | rng lo hi=>obtain ⟨t,u,v,e⟩:=x; exact ⟨t,u,v,k _ _ (.inl rfl) e⟩
  | frz ob u ih=>obtain ⟨e,q⟩:=x; exact ⟨k _ _ (.inl rfl) e,ih q⟩
  | tbl ps =>
    have e:h.get? a=some { cls:=.none,data:=.fields ps }:=x
    show h'.get? a=some { cls:=.none,data:=.fields ps }
    exact k a _ (.inl rfl) e
  | met f y =>
    have e:h.get? a=some (PySem.W.methodObj (.ref f) (.ref y)):=x
    show h'.get? a=some (PySem.W.methodObj (.ref f) (.ref y))
    exact k a _ (.inl rfl) e
  | ext φ=>obtain ⟨p,⟨o,e⟩,st⟩:=x; exact ⟨st _ _ p fun o q=>k _ _ (.inl rfl) q,⟨o,k _ _ (.inl rfl) e⟩,st⟩
theorem HOk.lt (x:HOk P w H h) (e:H a=some o):a < h.objs.size:=(x a o e).lt
theorem HOk.fresh (x:HOk P w H h) (e:h.objs.size≤a):H a=none:=by
  cases q:H a with
  | none=>rfl
  | some u=>exact absurd (Nat.lt_of_lt_of_le (x.lt q) e) (Nat.lt_irrefl _)
theorem HOk.kept (x:HOk P w H h) (k:∀ b u,h.get? b=some u→h'.get? b=some u):HOk P w H h':=fun a o e =>
  (x a o e).stay (fun b u _ q=>k b u q) (fun _ q=>q) fun _ _ q=>q
theorem HOk.laid (x:HOk P w H h) (k:∀ b u,h.get? b=some u→h'.get? b=some u) (hp:h.objs.size≤a) (new:ObjOk P w (upd H a o) h' a o):HOk P w (upd H a o) h':=fun b u e=>by
  have hn:=x.fresh hp
  by_cases hb:b=a
  · subst hb; rw [upd_same] at e; cases e; exact new
  · rw [upd_ne hb] at e
    exact (x b u e).stay (fun c v _ q=>k c v q) (fun c q=>by rw [upd_ne (ne_of_none q hn)]; exact q) fun c xs q=>by rw [upd_ne (ne_of_none q hn)]; exact q
end
def Rd (H:Hp) (a:Addr) (u:HO):Prop:=H a=some u∨∃ o,H a=some (.frz o u)
theorem Rd.ok {P:Program} {w:World} {H:Hp} {h:Heap} {a:Addr} {u:HO} (r:Rd H a u) (x:HOk P w H h):ObjOk P w H h a u:=by
  rcases r with r | ⟨o,r⟩
  · exact x a u r
  · obtain ⟨_,q⟩:=x a _ r
    exact q
def Mut:Option HO→Prop
  | some (.lst _)=>True
  | some (.dK _)=>True
  | some (.dT _)=>True
  | some (.set _ _)=>True
  | some (.ins _ _ _)=>True
  | some (.ext _)=>True
  | _=>False
section
variable {P:Program} {w:World} {H:Hp} {h h':Heap} {x e:Addr} {o':HO}
theorem HOk.write (ok:HOk P w H h) (mu:Mut (H x)) (he:e=x∨H e=some (.own x)) (k:∀ b u,b≠e→h.get? b=some u→h'.get? b=some u) (heo:∃ u,h'.get? e=some u)
    (new:ObjOk P w (upd H x o') h' x o'):HOk P w (upd H x o') h':=fun b u q=>by
  have nown:∀ c y,H c=some (.own y)→c≠x:=fun c y r z=>by subst z; rw [r] at mu; exact mu
  have ntup:∀ c xs,H c=some (.tup xs)→c≠x:=fun c xs r z=>by subst z; rw [r] at mu; exact mu
  by_cases hb:b=x
  · subst hb; rw [upd_same] at q; cases q; exact new
  · rw [upd_ne hb] at q
    by_cases hbe:b=e
    · have q':H b=some (.own x):=by
        rcases he with z | z
        · exact absurd (hbe.trans z) hb
        · rw [hbe]; exact z
      rw [q] at q'; cases q'
      obtain ⟨v,hv⟩:=heo
      exact ⟨v,by rw [hbe]; exact hv⟩
    · refine (ok b u q).stay (fun c v hc r=>k c v ?_ r) (fun c r=>by rw [upd_ne (nown c b r)]; exact r) fun c xs r=>by rw [upd_ne (ntup c xs r)]; exact r
      rcases hc with rfl | hc
      · exact hbe
      · rintro rfl
        rcases he with z | z
        · exact nown c b hc z
        · rw [hc] at z; cases z; exact hb rfl
end
structure Un (fs ex:List Addr) (H H':Hp) (h h':Heap):Prop where
  keep:∀ b o,h.get? b=some o→H b=none→b∉fs→b∉ex→h'.get? b=some o
  slot:∀ b o,h.get? b=some o→H b=none→b∈fs→b∉ex→∃ sl,h'.get? b=some { o with slots:=sl }
  free:∀ b o,h.get? b=some o→H b=none→b∉ex→H' b=none
  there:∀ b o,h.get? b=some o→b∉ex→∃ o',h'.get? b=some o'
  tups:∀ b xs,H b=some (.tup xs)→H' b=some (.tup xs)
  frzs:∀ b o u,H b=some (.frz o u)→H' b=some (.frz o u)
  tbls:∀ b ps,H b=some (.tbl ps)→∃ more,H' b=some (.tbl (ps++more))
section
variable {fs fs' ex ex':List Addr} {H H1 H2:Hp} {h h1 h2 h':Heap} {a x e:Addr} {o:HO}
theorem Un.any (u:Un fs ex H H1 h h1) {b:Addr} {ob:Obj} (q:h.get? b=some ob) (n:H b=none) (hx:b∉ex):∃ sl,h1.get? b=some { ob with slots:=sl }:=by
  by_cases hb:b∈fs
  · exact u.slot b ob q n hb hx
  · exact ⟨ob.slots,u.keep b ob q n hb hx⟩
theorem Un.kept (k:∀ b u,h.get? b=some u→h'.get? b=some u):Un fs ex H H h h' :=
  ⟨fun b ob q _ _ _=>k b ob q,fun b ob q _ _ _=>⟨ob.slots,k b ob q⟩,fun _ _ _ n _=>n,fun b ob q _=>⟨ob,k b ob q⟩,fun _ _ q=>q,fun _ _ _ q=>q,fun _ ps q=>⟨#[],by rw [q]; simp⟩⟩
theorem Un.refl:Un fs ex H H h h:=Un.kept fun _ _ q=>q
theorem Un.laid (k:∀ b u,h.get? b=some u→h'.get? b=some u) (hp:h.objs.size≤a) (hn:H a=none):Un fs ex H (upd H a o) h h' where
  keep:=fun b u q _ _ _=>k b u q
  slot:=fun b u q _ _ _=>⟨u.slots,k b u q⟩
  free:=fun b u q n _=>by rw [upd_ne (Nat.ne_of_lt (Nat.lt_of_lt_of_le (Heap.lt_size q) hp))]; exact n
  there:=fun b u q _=>⟨u,k b u q⟩
  tups:=fun b xs q=>by rw [upd_ne (ne_of_none q hn)]; exact q
  frzs:=fun b u xs q=>by rw [upd_ne (ne_of_none q hn)]; exact q
  tbls:=fun b ps q=>⟨#[],by rw [upd_ne (ne_of_none q hn),q]; simp⟩
theorem Un.write (mu:Mut (H x)) (he:e=x∨H e=some (.own x)) (k:∀ b u,b≠e→h.get? b=some u→h'.get? b=some u) (heo:∃ u,h'.get? e=some u):Un fs ex H (upd H x o) h h':=by
  have hx:∀ b,H b=none→b≠x:=fun b n z=>by subst z; rw [n] at mu; exact mu
  have hb:∀ b,H b=none→b≠e:=fun b n z=>by
    subst z
    rcases he with r | r
    · exact hx b n r
    · rw [n] at r; cases r
  have hm:∀ b u,H b=some u→¬ Mut (some u)→b≠x:=fun b u q nm z=>by subst z; rw [q] at mu; exact nm mu
  refine ⟨fun b u q n _ _=>k b u (hb b n) q,fun b u q n _ _=>⟨u.slots,k b u (hb b n) q⟩,fun b u q n _=>by rw [upd_ne (hx b n)]; exact n,fun b u q _=>?_,
    fun b xs q=>by rw [upd_ne (hm b _ q fun z=>z)]; exact q,fun b u xs q=>by rw [upd_ne (hm b _ q fun z=>z)]; exact q,fun b ps q=>⟨#[],by rw [upd_ne (hm b _ q fun z=>z),q]; simp⟩⟩
  by_cases hbe:b=e
  · subst hbe; exact heo
  · exact ⟨u,k b u hbe q⟩
end
def trk (h:Heap) (H:Hp):List Addr:=(List.range h.objs.size).filter fun a=>(H a).isSome
def hidT (h:Heap) (H:Hp):Heap:=PySem.W.hideAll h (trk h H)
theorem hidT_size (h:Heap) (H:Hp):(hidT h H).objs.size=h.objs.size:=PySem.W.hideAll_size _ _
theorem hidT_get {h:Heap} {H:Hp} {b:Addr} {o:Obj} (e:h.get? b=some o) (n:H b=none):(hidT h H).get? b=some o :=
  PySem.W.hideAll_get _ e fun hm=>by
    have q:(H b).isSome=true:=(List.mem_filter.mp hm).2
    rw [n] at q; simp at q
theorem of_hidT {h:Heap} {H:Hp} {b:Addr} {o:Obj} (e:(hidT h H).get? b=some o):h.get? b=some o∧H b=none:=by
  have e':h.get? b=some o:=PySem.W.of_hideAll (trk h H) e
  refine ⟨e',?_⟩
  cases q:H b with
  | none=>rfl
  | some x =>
    have hm:b∈trk h H:=List.mem_filter.mpr ⟨List.mem_range.mpr (Heap.lt_size e'),by simp [q]⟩
    have z:(hidT h H).get? b=none:=PySem.W.hideAll_none (trk h H) hm
    rw [z] at e; cases e
def allNews (g h:Heap) (L:Addr):List (Addr×Obj):=(List.range h.objs.size).filterMap fun a=>if a=L∨(g.get? a).isSome=true then none else (h.get? a).map fun o=>(a,o)
def rest (g h:Heap) (L d:Addr):List (Addr×Obj):=(allNews g h L).filter fun p=>decide (p.1≠d)
end L2
namespace L2
open PySem PySem.Spec PyProof.Rows
structure Mod (K:PySem.W.Frag) (mg:Str→Option Value) (base:Heap):Prop where
  kin:K.In base
  glob:base.Ns mainGlobals mg
  blt:∃ mb,base.Ns builtinsNs mb∧∀ x:Str,x ≠ "__name__" → mb x=bootBuiltins x
  nolimit:base.NoLimit
structure Cx where
  prog:Program
  w:World
  K:PySem.W.Frag
  mg:Str→Option Value
  base:Heap
  A:Around
  N:List Str
  s₀:Shared
  H₀:Hp
  env:Env
  outer:List Env
  stack:List Env
  ex:List Addr
  fn:Str→Bool
  calm:Bool
  pn:List (Addr×Obj)
  xe:Value→Shared→Prop
def frs (l:List Env):List Addr:=l.filterMap (·.frame)
abbrev Cx.fs (X:Cx):List Addr:=frs X.outer
def Vis (sc:Scope) (x:Str):Prop:=sc.names.lookup x=some .local∨sc.names.lookup x=some .cell∨sc.names.lookup x=some .free
def Loc (sc:Scope) (x:Str):Prop:=sc.names.lookup x=some .local∨sc.names.lookup x=some .cell
def Look (env:Env) (h:Heap) (m:Str→Option Value) (x:Str) (u:Value):Prop :=
  (env.kindOf x=some .local∧m x=some u)∨((env.kindOf x=some .cell∨env.kindOf x=some .free)∧∃ c,env.cells.lookup x=some c∧h.IsCell c (some u))
structure Cx.Ok (X:Cx):Prop where
  mod:Mod X.K X.mg X.base
  kind:X.env.scope.kind=.function
  glob:X.env.globals=mainGlobals
  blt:X.env.builtins=builtinsNs
  above:X.s₀.heap.objs.size≤X.env.locals
  inj:∀ x y c,X.env.cells.lookup x=some c→X.env.cells.lookup y=some c→x=y
  has:∀ x,(X.env.kindOf x=some .cell∨X.env.kindOf x=some .free)→∃ c,X.env.cells.lookup x=some c
  cab:∀ x c,X.fn x=true→X.env.cells.lookup x=some c→X.s₀.heap.objs.size≤c
  hd:X.calm=true→X.A.handled=none
  frames:X.A.frames=some X.stack
  stk:X.stack=X.outer∨(X.stack=X.env::X.outer∧X.env.frame=some X.env.locals)
  exf:∀ b∈X.ex,b≠X.env.locals∧∀ x c,X.env.cells.lookup x=some c→c≠b
  bs:∀ b o,X.base.get? b=some o→X.s₀.heap.get? b=some o∧X.H₀ b=none
  bsz:X.base.objs.size≤X.s₀.heap.objs.size
  noex:∀ b o,X.base.get? b=some o→b∉X.ex
  exfs:∀ b∈X.ex,b∉X.fs
  funs:X.s₀.heap.FunFrames X.base X.outer
  frf:∀ b∈X.fs,X.H₀ b=none
structure Inv (X:Cx) (pins:List (Addr×Obj)) (σ:List (Option V)) (H:Hp) (s:Shared):Prop where
  ok:X.Ok
  os:s.os=X.s₀.os
  bare:AllBare s.gens
  base:Un X.fs X.ex X.H₀ H X.s₀.heap s.heap
  loc:∃ m,s.heap.Ns X.env.locals m∧∀ (i:Nat) (x:Str) (v:V),X.N[i]?=some x→σ[i]?=some (some v)→Vis X.env.scope x→∃ u,RelV v u∧Look X.env s.heap m x u
  cell:∀ x c,X.env.cells.lookup x=some c→∃ v,s.heap.IsCell c v
  free:H X.env.locals=none
  freeC:∀ x c,X.env.cells.lookup x=some c→H c=none
  pin:∀ p∈X.pn++pins,s.heap.get? p.1=some p.2∧H p.1=none∧p.1≠X.env.locals∧p.1∉X.fs∧∀ v,p.2.data≠.cell v
  hok:HOk X.prog X.w H s.heap
  len:σ.length=X.N.length
section
variable {X:Cx} {pins:List (Addr×Obj)} {σ:List (Option V)} {H H':Hp} {s:Shared} {h':Heap}
theorem Cx.Ok.nofr (ok:X.Ok) {b:Addr} {o:Obj} (e:X.base.get? b=some o):b∉X.fs:=fun hb=>by
  have:=(ok.funs.mem hb).1
  rw [e] at this; cases this
theorem Inv.bs (I:Inv X pins σ H s):∀ b o,X.base.get? b=some o→s.heap.get? b=some o∧H b=none:=fun b o e =>
  ⟨I.base.keep b o (I.ok.bs b o e).1 (I.ok.bs b o e).2 (I.ok.nofr e) (I.ok.noex b o e),I.base.free b o (I.ok.bs b o e).1 (I.ok.bs b o e).2 (I.ok.noex b o e)⟩
theorem Inv.bk (I:Inv X pins σ H s):∀ b o,X.base.get? b=some o→s.heap.get? b=some o:=fun b o e=>(I.bs b o e).1
theorem Inv.mod (I:Inv X pins σ H s):Mod X.K X.mg X.base:=I.ok.mod
theorem Inv.kIn (I:Inv X pins σ H s):X.K.In s.heap:=I.ok.mod.kin.keeps I.bk
theorem Inv.lt (I:Inv X pins σ H s):X.env.locals < s.heap.objs.size:=let ⟨_,hn,_⟩:=I.loc; hn.lt
theorem Inv.sz (I:Inv X pins σ H s):X.s₀.heap.objs.size≤s.heap.objs.size:=Nat.le_trans I.ok.above (Nat.le_of_lt I.lt)
theorem Inv.nofs (I:Inv X pins σ H s) {a:Addr} (h:s.heap.objs.size≤a):a∉X.fs:=fun hb=>by
  obtain ⟨_,o,ho,_⟩:=I.ok.funs.mem hb
  exact absurd (Nat.lt_of_lt_of_le (Heap.lt_size ho) (Nat.le_trans I.sz h)) (Nat.lt_irrefl _)
theorem Inv.cne (I:Inv X pins σ H s):∀ x c,X.env.cells.lookup x=some c→c≠X.env.locals:=fun x c e z=>by
  obtain ⟨v,o,ho,hd⟩:=I.cell x c e
  obtain ⟨m,⟨o',es,ep,ho',hd',_⟩,_⟩:=I.loc
  rw [z,ho'] at ho; cases ho; rw [hd'] at hd; cases hd
theorem Inv.funs (I:Inv X pins σ H s):s.heap.FunFrames X.base X.outer:=by
  have all:∀ (l:List Env),(∀ b∈frs l,b∈X.fs)→X.s₀.heap.FunFrames X.base l→s.heap.FunFrames X.base l:=by
    intro l
    induction l with
    | nil=>intro _ _; trivial
    | cons env r ih =>
      intro hs hl
      obtain ⟨hk,⟨L,o,hf,hn,ho,hd⟩,hr⟩:=hl
      have hL:L∈X.fs:=hs L (by unfold frs; rw [List.filterMap_cons,hf]; exact List.mem_cons_self)
      obtain ⟨sl,e⟩:=I.base.slot L o ho (I.ok.frf L hL) hL fun z=>I.ok.exfs L z hL
      exact ⟨hk,⟨L,_,hf,hn,e,hd⟩,ih (fun b hb=>hs b (by unfold frs; rw [List.filterMap_cons,hf]; exact List.mem_cons_of_mem _ hb)) hr⟩
  exact all X.outer (fun _ hb=>hb) I.ok.funs
theorem Inv.stack (I:Inv X pins σ H s):s.heap.FunFrames X.base X.stack:=by
  rcases I.ok.stk with e | ⟨e,hf⟩
  · rw [e]; exact I.funs
  · rw [e]
    obtain ⟨m,hn,_⟩:=I.loc
    refine .cons (by rw [I.ok.kind]; decide) hf hn ?_ I.funs
    exact Heap.get?_none_of_le (Nat.le_trans I.ok.bsz I.ok.above)
theorem Inv.stkSub (I:Inv X pins σ H s):∀ b∈frs X.stack,b∈X.env.locals::X.fs:=fun b hb=>by
  rcases I.ok.stk with e | ⟨e,hf⟩
  · rw [e] at hb; exact List.mem_cons_of_mem _ hb
  · rw [e] at hb
    unfold frs at hb
    rw [List.filterMap_cons,hf] at hb
    exact hb
theorem Inv.stkFree (I:Inv X pins σ H s):∀ b∈frs X.stack,H b=none:=fun b hb=>by
  rcases List.mem_cons.mp (I.stkSub b hb) with e | hb
  · rw [e]; exact I.free
  · obtain ⟨_,o,ho,_⟩:=I.ok.funs.mem hb
    exact I.base.free b o ho (I.ok.frf b hb) fun z=>I.ok.exfs b z hb
theorem Inv.step {g':Array GenState} {t':Nat} {d':Drawn} {ch:List Addr} (I:Inv X pins σ H s)
    (hch:∀ b∈ch,(b∈X.ex∨X.s₀.heap.objs.size≤b)∧b≠X.env.locals∧(∀ x c,X.env.cells.lookup x=some c→c≠b)∧∀ p∈X.pn++pins,p.1≠b)
    (keep:∀ b o,b≠X.env.locals→b∉X.fs→b∉ch→s.heap.get? b=some o→H b=none→h'.get? b=some o)
    (slot:∀ b o,b≠X.env.locals→b∈X.fs→b∉ch→s.heap.get? b=some o→H b=none→∃ sl,h'.get? b=some { o with slots:=sl }) (free:∀ b o,b∉ch→s.heap.get? b=some o→H b=none→H' b=none)
    (there:∀ b o,b∉ch→s.heap.get? b=some o→∃ o',h'.get? b=some o')
    (tups:∀ b xs,H b=some (.tup xs)→H' b=some (.tup xs)) (frzs:∀ b o u,H b=some (.frz o u)→H' b=some (.frz o u)) (tbls:∀ b ps,H b=some (.tbl ps)→∃ more,H' b=some (.tbl (ps++more)))
    (ns:∀ m,s.heap.Ns X.env.locals m→h'.Ns X.env.locals m) (hok:HOk X.prog X.w H' h') (hg:AllBare g') :
    Inv X pins σ H' { s with heap:=h',gens:=g',drawn:=d',toks:=t' }:=by
  have neL:∀ b o,X.s₀.heap.get? b=some o→b≠X.env.locals:=fun b o e=>Nat.ne_of_lt (Nat.lt_of_lt_of_le (Heap.lt_size e) I.ok.above)
  have neC:∀ b o,X.s₀.heap.get? b=some o→b∉X.ex→b∉ch:=fun b o e hx hb=>by
    rcases (hch b hb).1 with z | z
    · exact hx z
    · exact absurd (Nat.lt_of_lt_of_le (Heap.lt_size e) z) (Nat.lt_irrefl _)
  have cellK:∀ x c,X.env.cells.lookup x=some c→∀ v,s.heap.IsCell c v→h'.IsCell c v:=fun x c e v ⟨o,ho,hd⟩=>by
    have nch:c∉ch:=fun z=>(hch c z).2.2.1 x c e rfl
    by_cases hc:c∈X.fs
    · obtain ⟨sl,q⟩:=slot c o (I.cne x c e) hc nch ho (I.freeC x c e)
      exact ⟨_,q,hd⟩
    · exact ⟨o,keep c o (I.cne x c e) hc nch ho (I.freeC x c e),hd⟩
  refine ⟨I.ok,I.os,hg,⟨fun b o e n hb hx=>?_,fun b o e n hb hx=>?_,fun b o e n hx=>?_,fun b o e hx=>?_,fun b xs e=>tups b xs (I.base.tups b xs e),fun b o xs e=>frzs b o xs (I.base.frzs b o xs e),fun b ps e=>?_⟩,?_,fun x c e=>?_,?_,fun x c e=>?_,fun p hp=>?_,hok,I.len⟩
  · exact keep b o (neL b o e) hb (neC b o e hx) (I.base.keep b o e n hb hx) (I.base.free b o e n hx)
  · obtain ⟨sl,e1⟩:=I.base.slot b o e n hb hx
    obtain ⟨sl',e2⟩:=slot b _ (neL b o e) hb (neC b o e hx) e1 (I.base.free b o e n hx)
    exact ⟨sl',e2⟩
  · obtain ⟨o',e1⟩:=I.base.there b o e hx
    exact free b o' (neC b o e hx) e1 (I.base.free b o e n hx)
  · obtain ⟨o',e1⟩:=I.base.there b o e hx
    exact there b o' (neC b o e hx) e1
  · obtain ⟨m1,e1⟩:=I.base.tbls b ps e
    obtain ⟨m2,e2⟩:=tbls b _ e1
    exact ⟨m1++m2,by rw [e2,Array.append_assoc]⟩
  · obtain ⟨m,hn,hl⟩:=I.loc
    refine ⟨m,ns m hn,fun i x v e1 e2 e3=>?_⟩
    obtain ⟨u,r,l⟩:=hl i x v e1 e2 e3
    refine ⟨u,r,?_⟩
    rcases l with l | ⟨k,c,e,z⟩
    · exact .inl l
    · exact .inr ⟨k,c,e,cellK x c e _ z⟩
  · obtain ⟨v,z⟩:=I.cell x c e
    exact ⟨v,cellK x c e v z⟩
  · obtain ⟨m,⟨o,_,_,ho,_⟩,_⟩:=I.loc
    exact free _ o (fun z=>(hch _ z).2.1 rfl) ho I.free
  · obtain ⟨v,o,ho,hd⟩:=I.cell x c e
    exact free c o (fun z=>(hch c z).2.2.1 x c e rfl) ho (I.freeC x c e)
  · obtain ⟨e,n,ne,nf,d⟩:=I.pin p hp
    have nch:p.1∉ch:=fun z=>(hch p.1 z).2.2.2 p hp rfl
    exact ⟨keep p.1 p.2 ne nf nch e n,free p.1 p.2 nch e n,ne,nf,d⟩
theorem Inv.un {t':Nat} (I:Inv X pins σ H s) (u:Un X.fs [] H H' s.heap h') (hok:HOk X.prog X.w H' h'):Inv X pins σ H' { s with heap:=h',toks:=t' }:=by
  obtain ⟨m,⟨o,es,ep,ho,r⟩,_⟩:=id I.loc
  obtain ⟨sl,hL⟩:=u.any ho I.free (by simp)
  exact I.step (g':=s.gens) (d':=s.drawn) (ch:=[]) (fun _ z=>nomatch z) (fun b o _ hb _ e n=>u.keep b o e n hb (by simp)) (fun b o _ hb _ e n=>u.slot b o e n hb (by simp)) (fun b o _ e n=>u.free b o e n (by simp)) (fun b o _ e=>u.there b o e (by simp)) u.tups u.frzs u.tbls (fun m' hm=>by
    obtain ⟨o',es',ep',ho',r'⟩:=hm
    rw [ho] at ho'; cases ho'
    exact ⟨_,es',ep',hL,r'⟩) hok I.bare
theorem Inv.call {g':Array GenState} {t':Nat} {d':Drawn} {ch:List Addr} (I:Inv X pins σ H s) (u:Un (frs X.stack) ch H H' s.heap h') (hok:HOk X.prog X.w H' h') (hg:AllBare g')
    (hch:∀ b∈ch,(b∈X.ex∨X.s₀.heap.objs.size≤b)∧b≠X.env.locals∧(∀ x c,X.env.cells.lookup x=some c→c≠b)∧∀ p∈X.pn++pins,p.1≠b) :
    Inv X pins σ H' { s with heap:=h',gens:=g',drawn:=d',toks:=t' }:=by
  obtain ⟨m,⟨o,es,ep,ho,r⟩,_⟩:=id I.loc
  obtain ⟨sl,hL⟩:=u.any ho I.free fun z=>(hch _ z).2.1 rfl
  exact I.step (ch:=ch) hch (fun b o hL hb hc e n=>u.keep b o e n (fun z=>(List.mem_cons.mp (I.stkSub b z)).elim hL hb) hc) (fun b o _ _ hc e n=>u.any e n hc) (fun b o hc e n=>u.free b o e n hc) (fun b o hc e=>u.there b o e hc) u.tups u.frzs u.tbls (fun m' hm=>by
    obtain ⟨o',es',ep',ho',r'⟩:=hm
    rw [ho] at ho'; cases ho'
    exact ⟨_,es',ep',hL,r'⟩) hok hg
theorem Inv.turned {t':Nat} {it:Addr} (I:Inv X pins σ H s) (k:∀ b o,b≠it→s.heap.get? b=some o→h'.get? b=some o) (hn:H it=none) (hL:it≠X.env.locals)
    (h1:it∈X.ex∨X.s₀.heap.objs.size≤it) (h2:∀ x c,X.env.cells.lookup x=some c→c≠it) (h3:∀ p∈X.pn++pins,p.1≠it):Inv X pins σ H { s with heap:=h',toks:=t' }:=by
  have nit:∀ b u,H b=some u→b≠it:=fun b u e z=>by rw [z,hn] at e; cases e
  refine I.step (g':=s.gens) (d':=s.drawn) (ch:=[it]) (fun b hb=>?_) (fun b o _ _ hc e _=>k b o (fun z=>hc (by simp [z])) e) (fun b o _ _ hc e _=>⟨o.slots,k b o (fun z=>hc (by simp [z])) e⟩) (fun _ _ _ _ n=>n)
    (fun b o hc e=>⟨o,k b o (fun z=>hc (by simp [z])) e⟩) (fun _ _ e=>e) (fun _ _ _ e=>e) (fun b ps e=>⟨#[],by rw [e]; simp⟩) (fun m hm=>?_) (fun b u e=>?_) I.bare
  · have e:b=it:=by simpa using hb
    subst e
    exact ⟨h1,hL,h2,h3⟩
  · obtain ⟨o,es,ep,ho,r⟩:=hm
    exact ⟨o,es,ep,k _ o (Ne.symm hL) ho,r⟩
  · refine (I.hok b u e).stay (fun c v hc q=>k c v ?_ q) (fun _ q=>q) fun _ _ q=>q
    rcases hc with z | z
    · rw [z]; exact nit b u e
    · exact nit c _ z
theorem Inv.tok (I:Inv X pins σ H s) (t:Nat):Inv X pins σ H { s with toks:=t }:=I.un (h':=s.heap) (t':=t) Un.refl I.hok
theorem Inv.kept {t':Nat} (I:Inv X pins σ H s) (k:∀ b u,s.heap.get? b=some u→h'.get? b=some u):Inv X pins σ H { s with heap:=h',toks:=t' }:=I.un (Un.kept k) (I.hok.kept k)
theorem Inv.laid {a:Addr} {o:HO} {t':Nat} (I:Inv X pins σ H s) (k:∀ b u,s.heap.get? b=some u→h'.get? b=some u) (hp:s.heap.objs.size≤a) (new:ObjOk X.prog X.w (upd H a o) h' a o) :
    Inv X pins σ (upd H a o) { s with heap:=h',toks:=t' }:=I.un (Un.laid k hp (I.hok.fresh hp)) (I.hok.laid k hp new)
theorem Inv.write {x e:Addr} {o:HO} {t':Nat} (I:Inv X pins σ H s) (mu:Mut (H x)) (he:e=x∨H e=some (.own x)) (k:∀ b u,b≠e→s.heap.get? b=some u→h'.get? b=some u) (heo:∃ u,h'.get? e=some u)
    (new:ObjOk X.prog X.w (upd H x o) h' x o):Inv X pins σ (upd H x o) { s with heap:=h',toks:=t' }:=I.un (Un.write mu he k heo) (I.hok.write mu he k heo new)
theorem Inv.weak {σ':List (Option V)} (I:Inv X pins σ H s) (hl:σ'.length=σ.length) (w:∀ (i:Nat) v,σ'[i]?=some (some v)→σ[i]?=some (some v)):Inv X pins σ' H s :=
  ⟨I.ok,I.os,I.bare,I.base,let ⟨m,hn,hl'⟩:=I.loc; ⟨m,hn,fun i x v e1 e2 e3=>hl' i x v e1 (w i v e2) e3⟩,I.cell,I.free,I.freeC,I.pin,I.hok,hl.trans I.len⟩
theorem Inv.pins_of {pins':List (Addr×Obj)} (I:Inv X pins σ H s) (h:∀ p∈pins',s.heap.get? p.1=some p.2∧H p.1=none∧p.1≠X.env.locals∧p.1∉X.fs∧∀ v,p.2.data≠.cell v):Inv X pins' σ H s :=
  ⟨I.ok,I.os,I.bare,I.base,I.loc,I.cell,I.free,I.freeC,fun p hp=>(List.mem_append.mp hp).elim (fun z=>I.pin p (List.mem_append_left _ z)) (h p),I.hok,I.len⟩
theorem nodup_ix {N:List Str} (hN:N.Nodup) {i j:Nat} {x:Str} (a:N[i]?=some x) (b:N[j]?=some x):i=j:=by
  obtain ⟨h1,e1⟩:=List.getElem?_eq_some_iff.mp a
  obtain ⟨h2,e2⟩:=List.getElem?_eq_some_iff.mp b
  exact (List.getElem_inj hN).mp (e1.trans e2.symm)
theorem store_ok2 {M:Model} {A:Around} {E:Value→Shared→Prop} {i:Nat} {x:Str} {v:V} {u:Value} {Q:Unit→Shared→Prop} (I:Inv X pins σ H s) (hN:X.N.Nodup) (hi:X.N[i]?=some x) (hx:Loc X.env.scope x) (r:RelV v u)
    (h:∀ s',Inv X pins (σ.set i (some v)) H s'→(∃ a,Heap.SameBut a s.heap s'.heap∧(a=X.env.locals∨X.env.cells.lookup x=some a))→Q () s') (hf:X.fn x=true∨X.env.scope.names.lookup x=some .local:=by first | exact .inl rfl | exact .inr rfl | assumption):wpAny M A (storeName X.env x u) Q E s:=by
  obtain ⟨m,hn,hl⟩:=id I.loc
  have hcls:(X.env.scope.kind==.class||(X.env.scope.kind==.module&&X.env.locals != X.env.globals))=false:=by rw [I.ok.kind]; rfl
  have hiσ:i < σ.length:=by rw [I.len]; exact (List.getElem?_eq_some_iff.mp hi).1
  have cne:=I.cne
  have tracked:∀ {a:Addr} {h':Heap},(∃ o,s.heap.get? a=some o∧H a=none)→Heap.SameBut a s.heap h'→HOk X.prog X.w H h':=fun {a h'} ha hs b ob e=>by
    obtain ⟨_,_,hfree⟩:=ha
    refine (I.hok b ob e).stay (fun c w' hc q=>(hs.2 c ?_).trans q) (fun _ q=>q) fun _ _ q=>q
    rintro rfl
    rcases hc with rfl | hc
    · rw [hfree] at e; cases e
    · rw [hfree] at hc; cases hc
  rcases hx with hk | hk
  · refine wpAny_storeName_local hk hn (fun h' hn' hs=>?_) hcls
    obtain ⟨oL,_,_,hoL,_⟩:=id hn
    refine h _ ⟨I.ok,I.os,I.bare,⟨fun b o e n hb hx=>?_,fun b o e n hb hx=>?_,I.base.free,fun b o e hx=>?_,I.base.tups,I.base.frzs,I.base.tbls⟩,⟨_,hn',fun j y v' e1 e2 e3=>?_⟩,fun y c e=>?_,I.free,I.freeC,fun p hp=>?_,tracked ⟨oL,hoL,I.free⟩ hs,by simpa using I.len⟩ ⟨_,hs,.inl rfl⟩
    · exact (hs.2 b (Nat.ne_of_lt (Nat.lt_of_lt_of_le (Heap.lt_size e) I.ok.above))).trans (I.base.keep b o e n hb hx)
    · obtain ⟨sl,e1⟩:=I.base.slot b o e n hb hx
      exact ⟨sl,(hs.2 b (Nat.ne_of_lt (Nat.lt_of_lt_of_le (Heap.lt_size e) I.ok.above))).trans e1⟩
    · obtain ⟨o',e1⟩:=I.base.there b o e hx
      exact ⟨o',(hs.2 b (Nat.ne_of_lt (Nat.lt_of_lt_of_le (Heap.lt_size e) I.ok.above))).trans e1⟩
    · by_cases hj:j=i
      · subst hj
        rw [hi] at e1; cases e1
        rw [List.getElem?_set_self hiσ] at e2
        cases e2
        exact ⟨u,r,.inl ⟨hk,by simp⟩⟩
      · rw [List.getElem?_set_ne (Ne.symm hj)] at e2
        obtain ⟨u',r',q⟩:=hl j y v' e1 e2 e3
        refine ⟨u',r',?_⟩
        rcases q with ⟨k,e⟩ | ⟨k,c,e,z⟩
        · refine .inl ⟨k,?_⟩
          have:y≠x:=fun e=>hj (nodup_ix hN e1 (e ▸ hi))
          simp [this,e]
        · exact .inr ⟨k,c,e,z.sameBut hs (cne y c e)⟩
    · obtain ⟨w',z⟩:=I.cell y c e
      exact ⟨w',z.sameBut hs (cne y c e)⟩
    · obtain ⟨e,n,ne,nf,d⟩:=I.pin p hp
      exact ⟨(hs.2 p.1 ne).trans e,n,ne,nf,d⟩
  · have hfn:X.fn x=true:=by
      rcases hf with z | z
      · exact z
      · rw [z] at hk; cases hk
    obtain ⟨c,hc⟩:=I.ok.has x (.inl hk)
    obtain ⟨w',z⟩:=I.cell x c hc
    refine wpAny_storeName_cell I.ok.kind hk hc z (fun h' hc' hs=>?_)
    obtain ⟨oc,hoc,hocd⟩:=id z
    refine h { s with heap:=h' } ⟨I.ok,I.os,I.bare,⟨fun b o e n hb hx=>?_,fun b o e n hb hx=>?_,I.base.free,fun b o e hx=>?_,I.base.tups,I.base.frzs,I.base.tbls⟩,⟨m,hn.sameBut hs (Ne.symm (cne x c hc)),fun j y v' e1 e2 e3=>?_⟩,fun y c' e=>?_,I.free,I.freeC,fun p hp=>?_,tracked ⟨oc,hoc,I.freeC x c hc⟩ hs,by simpa using I.len⟩ ⟨c,hs,.inr hc⟩
    · exact (hs.2 b (Nat.ne_of_lt (Nat.lt_of_lt_of_le (Heap.lt_size e) (I.ok.cab x c hfn hc)))).trans (I.base.keep b o e n hb hx)
    · obtain ⟨sl,e1⟩:=I.base.slot b o e n hb hx
      exact ⟨sl,(hs.2 b (Nat.ne_of_lt (Nat.lt_of_lt_of_le (Heap.lt_size e) (I.ok.cab x c hfn hc)))).trans e1⟩
    · obtain ⟨o',e1⟩:=I.base.there b o e hx
      exact ⟨o',(hs.2 b (Nat.ne_of_lt (Nat.lt_of_lt_of_le (Heap.lt_size e) (I.ok.cab x c hfn hc)))).trans e1⟩
    · by_cases hj:j=i
      · subst hj
        rw [hi] at e1; cases e1
        rw [List.getElem?_set_self hiσ] at e2
        cases e2
        exact ⟨u,r,.inr ⟨.inl hk,c,hc,hc'⟩⟩
      · rw [List.getElem?_set_ne (Ne.symm hj)] at e2
        obtain ⟨u',r',q⟩:=hl j y v' e1 e2 e3
        refine ⟨u',r',?_⟩
        rcases q with q | ⟨k,c',e,z'⟩
        · exact .inl q
        · refine .inr ⟨k,c',e,z'.sameBut hs ?_⟩
          rintro rfl
          exact hj (nodup_ix hN e1 (I.ok.inj _ _ _ e hc ▸ hi))
    · by_cases hcc:c'=c
      · subst hcc; exact ⟨_,hc'⟩
      · obtain ⟨w2,z2⟩:=I.cell y c' e
        exact ⟨w2,z2.sameBut hs hcc⟩
    · obtain ⟨e,n,ne,nf,d⟩:=I.pin p hp
      refine ⟨(hs.2 p.1 ?_).trans e,n,ne,nf,d⟩
      intro q
      rw [q,hoc] at e
      have q':oc=p.2:=Option.some.inj e
      exact d w' (by rw [← q']; exact hocd)
theorem store_ok {M:Model} {A:Around} {E:Value→Shared→Prop} {i:Nat} {x:Str} {v:V} {u:Value} {Q:Unit→Shared→Prop} (I:Inv X pins σ H s) (hN:X.N.Nodup) (hi:X.N[i]?=some x) (hx:Loc X.env.scope x) (r:RelV v u)
    (h:∀ s',Inv X pins (σ.set i (some v)) H s'→Q () s') (hf:X.fn x=true∨X.env.scope.names.lookup x=some .local:=by first | exact .inl rfl | exact .inr rfl | assumption):wpAny M A (storeName X.env x u) Q E s :=
  store_ok2 I hN hi hx r (fun s' I' _=>h s' I') hf
theorem Inv.call' {s':Shared} {ch:List Addr} (I:Inv X pins σ H s) (ho:s'.os=s.os) (u:Un (frs X.stack) ch H H' s.heap s'.heap) (hok:HOk X.prog X.w H' s'.heap) (hg:AllBare s'.gens)
    (hch:∀ b∈ch,(b∈X.ex∨X.s₀.heap.objs.size≤b)∧b≠X.env.locals∧(∀ x c,X.env.cells.lookup x=some c→c≠b)∧∀ p∈X.pn++pins,p.1≠b):Inv X pins σ H' s':=by
  obtain ⟨h',g',d',t',o'⟩:=s'
  have e:o'=s.os:=ho
  subst e
  exact I.call (g':=g') (t':=t') (d':=d') u hok hg hch
end
abbrev XK:=Value→Option Addr→Hp→Prop
abbrev St:=List (Option V)
abbrev VK:=V→Hp→Prop
abbrev TE:=St→Hp→VK→Prop
abbrev TT:=St→Hp→(Bool→Hp→Prop)→Prop
abbrev TA:=St→Hp→(List V→Hp→Prop)→Prop
structure Ends where
  nx:St→Hp→Prop
  rt:VK
  bk:St→Hp→Prop:=fun _ _=>False
  ct:St→Hp→Prop:=fun _ _=>False
abbrev TS:=Ends→St→Hp→Prop
def EP (X:Cx) (pins:List (Addr×Obj)) (σ:St) (Q:VK) (u:Value) (s':Shared):Prop:=∃ v H',Inv X pins σ H' s'∧RelV v u∧Q v H'
def TP (X:Cx) (pins:List (Addr×Obj)) (σ:St) (Q:Bool→Hp→Prop) (b:Bool) (s':Shared):Prop:=∃ H',Inv X pins σ H' s'∧Q b H'
def AP (X:Cx) (pins:List (Addr×Obj)) (σ:St) (Q:List V→Hp→Prop) (us:List Value) (s':Shared):Prop:=∃ vs H',Inv X pins σ H' s'∧Vals vs us∧Q vs H'
def SP (X:Cx) (pins:List (Addr×Obj)) (D:Ends) (f:Flow) (s':Shared):Prop :=
  match f with
  | .next=>∃ σ' H',Inv X pins σ' H' s'∧D.nx σ' H'
  | .brk=>∃ σ' H',Inv X pins σ' H' s'∧D.bk σ' H'
  | .cont=>∃ σ' H',Inv X pins σ' H' s'∧D.ct σ' H'
  | .ret u=>∃ v σ' H',Inv X pins σ' H' s'∧RelV v u∧D.rt v H'
def PE (X:Cx) (e:Expr) (t:TE):Prop :=
  ∀ (pins:List (Addr×Obj)) (s:Shared) (σ:St) (H:Hp) (Q:VK),Inv X pins σ H s→t σ H Q→wpAny (model X.prog X.w) X.A (eval e X.env) (EP X pins σ Q) X.xe s
def PT (X:Cx) (e:Expr) (t:TT):Prop :=
  ∀ (pins:List (Addr×Obj)) (s:Shared) (σ:St) (H:Hp) (Q:Bool→Hp→Prop),Inv X pins σ H s→t σ H Q→wpAny (model X.prog X.w) X.A (isTrue e X.env (eval e X.env)) (TP X pins σ Q) X.xe s
def PW (X:Cx) (e:Expr) (t:TT):Prop :=
  ∀ (whole:Sem Value) (pins:List (Addr×Obj)) (s:Shared) (σ:St) (H:Hp) (Q:Bool→Hp→Prop),Inv X pins σ H s→t σ H Q→wpAny (model X.prog X.w) X.A (isTrue e X.env whole) (TP X pins σ Q) X.xe s
theorem PW.pt {X:Cx} {e:Expr} {t:TT} (h:PW X e t):PT X e t:=h _
def PA (X:Cx) (es:List Expr) (t:TA):Prop :=
  ∀ (pos:Pos) (pins:List (Addr×Obj)) (s:Shared) (σ:St) (H:Hp) (Q:List V→Hp→Prop),Inv X pins σ H s→t σ H Q→wpAny (model X.prog X.w) X.A (spliced (backTo pos (starEach es X.env))) (AP X pins σ Q) X.xe s
def PS (X:Cx) (st:Stmt) (t:TS):Prop :=
  ∀ (pins:List (Addr×Obj)) (s:Shared) (σ:St) (H:Hp) (D:Ends),Inv X pins σ H s→t D σ H→wpAny (model X.prog X.w) X.A (exec st X.env) (SP X pins D) X.xe s
def PSs (X:Cx) (st:List Stmt) (t:TS):Prop :=
  ∀ (pins:List (Addr×Obj)) (s:Shared) (σ:St) (H:Hp) (D:Ends),Inv X pins σ H s→t D σ H→wpAny (model X.prog X.w) X.A (execs st X.env) (SP X pins D) X.xe s
theorem thn {α:Type} {t:Sem α} {Q Q':α→Shared→Prop} {M:Model} {A:Around} {E:Value→Shared→Prop} {s:Shared} (h:wpAny M A t Q E s) (hQ:∀ a s,Q a s→Q' a s):wpAny M A t Q' E s:=wpAny_mono h hQ fun _ _ x=>x
end L2
namespace L2
open PySem PySem.Spec PyProof.Rows
section
variable {X:Cx}
def tVar (i:Nat):TE:=fun σ H Q=>∃ v,σ[i]?=some (some v)∧Q v H
def tC (v:V):TE:=fun _ H Q=>Q v H
theorem pe_var {i:Nat} {x:Str} {pos:Pos} (hN:X.N[i]?=some x) (hv:Vis X.env.scope x) (hd:(x==("__debug__" : Str))=false:=by decide) (hcd:(x==("__classdict__" : Str))=false:=by decide):PE X (.Name x pos) (tVar i):=by
  intro pins s σ H Q I h
  obtain ⟨v,e,h⟩:=h
  obtain ⟨m,hn,hl⟩:=I.loc
  obtain ⟨u,r,l⟩:=hl i x v hN e hv
  have fin:EP X pins σ Q u s:=⟨v,H,I,r,h⟩
  rcases l with ⟨hk,hm⟩ | ⟨hk,c,hc,hcell⟩
  · exact wpAny_Name (wpAny_loadName_local I.ok.kind hk hn hm fin) hd
  · rcases hk with hk | hk
    · exact wpAny_Name (wpAny_loadName_cell I.ok.kind hk hc hcell fin) hd
    · exact wpAny_Name (wpAny_loadName_free I.ok.kind hk hc hcell fin hcd) hd
theorem pe_int {i j pos}:PE X (.Constant (.int i) j pos) (tC (.int i)):=fun _ _ _ H _ I h=>wpAny_Constant_int ⟨.int i,H,I.tok _,⟨_,rfl⟩,h⟩
theorem pe_bl {b j pos}:PE X (.Constant (.bool b) j pos) (tC (.bl b)):=fun _ _ _ H _ I h=>Constant_bool ⟨.bl b,H,I,rfl,h⟩
theorem pe_non {j pos}:PE X (.Constant .none j pos) (tC .non):=fun _ _ _ H _ I h=>Constant_none ⟨.non,H,I,rfl,h⟩
theorem pe_str {x j pos}:PE X (.Constant (.str x) j pos) (tC (.str x)):=fun _ _ _ H _ I h=>Calls.Constant_str ⟨.str x,H,I.tok _,⟨_,rfl⟩,h⟩
def Gl (X:Cx) (x:Str):Prop:=X.env.kindOf x=some .globalImplicit
theorem ld_glob {E:Value→Shared→Prop} {pins:List (Addr×Obj)} {s:Shared} {σ:St} {H:Hp} {x:Str} {u:Value} {pos:Pos} {Q:Value→Shared→Prop} (I:Inv X pins σ H s) (hg:Gl X x) (hm:X.mg x=some u) (h:Q u s)
    (hd:(x==("__debug__" : Str))=false:=by decide):wpAny (model X.prog X.w) X.A (eval (.Name x pos) X.env) Q E s :=
  Calls.Name_function_global I.ok.kind hg (Calls.loadGlobal_global (by rw [I.ok.glob]; exact I.mod.glob.keeps I.bk) hm h) hd
theorem ld_blt {E:Value→Shared→Prop} {pins:List (Addr×Obj)} {s:Shared} {σ:St} {H:Hp} {x:Str} {u:Value} {pos:Pos} {Q:Value→Shared→Prop} (I:Inv X pins σ H s) (hg:Gl X x) (hm:X.mg x=none) (hv:bootBuiltins x=some u) (h:Q u s)
    (hn:x ≠ "__name__" := by decide) (hd:(x==("__debug__" : Str))=false:=by decide):wpAny (model X.prog X.w) X.A (eval (.Name x pos) X.env) Q E s:=by
  obtain ⟨mb,h1,h2⟩:=I.mod.blt
  exact Calls.Name_function_global I.ok.kind hg (Calls.loadGlobal_builtin (by rw [I.ok.glob]; exact I.mod.glob.keeps I.bk) hm (by rw [I.ok.blt]; exact h1.keeps I.bk) ((h2 x hn).trans hv) h) hd
theorem pe_glob {x:Str} {v:V} {u:Value} {pos:Pos} (hg:Gl X x) (hm:X.mg x=some u) (r:RelV v u) (hd:(x==("__debug__" : Str))=false:=by decide):PE X (.Name x pos) (tC v) :=
  fun _ _ _ H _ I h=>ld_glob I hg hm ⟨v,H,I,r,h⟩ hd
theorem pe_bltn {x:Str} {v:V} {u:Value} {pos:Pos} (hg:Gl X x) (hm:X.mg x=none) (hv:bootBuiltins x=some u) (r:RelV v u) (hn:x ≠ "__name__" := by decide) (hd:(x==("__debug__" : Str))=false:=by decide):PE X (.Name x pos) (tC v) :=
  fun _ _ _ H _ I h=>ld_blt I hg hm hv ⟨v,H,I,r,h⟩ hn hd
variable {a b:Expr} {ta tb:TE} {pos:Pos}
def tB (t:TE):TT:=fun σ H Q=>t σ H fun x H1=>∃ c,x=.bl c∧Q c H1
theorem pt_val {e:Expr} {t:TE} (h:PE X e t) (he:∀ whole,isTrue e X.env whole=(do let v ← whole; standAt e.pos; holding [v] (truthy v)):=by intro _; rfl):PT X e (tB t):=by
  intro pins s σ H Q I hw
  refine isTrue_plain (thn (h pins s σ H _ I hw) fun v s1 ⟨x,H1,I1,r1,q1⟩=>?_) (he _)
  obtain ⟨d,rfl,q⟩:=q1
  cases r1
  exact wpAny_truthy_bool ⟨H1,I1,q⟩
variable {tA tB':TT} {rest:List Expr}
def tAnd (t u:TT):TT:=fun σ H Q=>t σ H fun c H1=>if c=true then u σ H1 Q else Q false H1
def tOr (t u:TT):TT:=fun σ H Q=>t σ H fun c H1=>if c=true then Q true H1 else u σ H1 Q
def tNot (t:TT):TT:=fun σ H Q=>t σ H fun c H1=>Q (!c) H1
theorem pw_and1 (ha:PT X a tA):PW X (.BoolOp .And [a] pos) tA:=by
  intro wh pins s σ H Q I h
  refine isTrue_and (thn (ha pins s σ H Q I h) fun c s1 e=>?_)
  cases c with
  | true=>exact isTrue_and_nil e
  | false=>exact e
theorem pw_or1 (ha:PT X a tA):PW X (.BoolOp .Or [a] pos) tA:=by
  intro wh pins s σ H Q I h
  refine isTrue_or (thn (ha pins s σ H Q I h) fun c s1 e=>?_)
  cases c with
  | false=>exact isTrue_or_nil e
  | true=>exact e
theorem pw_and (ha:PT X a tA) (hb:PW X (.BoolOp .And (b::rest) pos) tB'):PW X (.BoolOp .And (a::b::rest) pos) (tAnd tA tB'):=by
  intro wh pins s σ H Q I h
  refine isTrue_and (thn (ha pins s σ H _ I h) fun c s1 ⟨H1,I1,q1⟩=>?_)
  cases c with
  | true=>exact hb wh pins s1 σ H1 Q I1 q1
  | false=>exact ⟨H1,I1,q1⟩
theorem pw_or (ha:PT X a tA) (hb:PW X (.BoolOp .Or (b::rest) pos) tB'):PW X (.BoolOp .Or (a::b::rest) pos) (tOr tA tB'):=by
  intro wh pins s σ H Q I h
  refine isTrue_or (thn (ha pins s σ H _ I h) fun c s1 ⟨H1,I1,q1⟩=>?_)
  cases c with
  | true=>exact ⟨H1,I1,q1⟩
  | false=>exact hb wh pins s1 σ H1 Q I1 q1
theorem pt_not (ha:PT X a tA):PT X (.UnaryOp .Not a pos) (tNot tA):=by
  intro pins s σ H Q I h
  exact isTrue_not (ha pins s σ H (fun c H1=>Q (!c) H1) I h)
def tIf (t:TT) (ta tb:TE):TE:=fun σ H Q=>t σ H fun c H1=>if c=true then ta σ H1 Q else tb σ H1 Q
theorem pe_ifExp {c:Expr} (hc:PT X c tA) (ha:PE X a ta) (hb:PE X b tb):PE X (.IfExp c a b pos) (tIf tA ta tb):=by
  intro pins s σ H Q I h
  refine wpAny_IfExp (thn (hc pins s σ H _ I h) fun d s1 ⟨H1,I1,q1⟩=>?_)
  cases d with
  | true=>exact ha pins s1 σ H1 Q I1 q1
  | false=>exact hb pins s1 σ H1 Q I1 q1
end
end L2
namespace L2
open PySem PySem.Spec PyProof.Rows
def SqL (K:PySem.W.Frag) (H:Hp) (a:Addr) (xs:List V):Prop :=
  Rd H a (.lst xs) ∨
    ∃ (o:Obj) (its:Array Value) (n:Nat),K.lookup a=some o∧o.cls=.type "list" ∧ o.dict=none∧o.data=.seq its n∧its.size≤sizeLine∧Vals xs its.toList
def SqT (K:PySem.W.Frag) (H:Hp) (a:Addr) (xs:List V):Prop :=
  Rd H a (.tup xs) ∨
    ∃ (o:Obj) (its:Array Value) (n:Nat),K.lookup a=some o∧o.cls=.type "tuple" ∧ o.data=.seq its n∧its.size≤sizeLine∧Vals xs its.toList
def absV:Value→Option V
  | .none=>some .non
  | .bool b=>some (.bl b)
  | .int i _=>some (.int i)
  | .str x _=>some (.str x)
  | .bytes b _=>some (.byt b)
  | .float b _=>some (.flt b)
  | .ref a=>some (.ref a)
  | .type n=>some (.ty n)
  | _=>none
theorem RelV.abs {x:V} {u:Value} (r:RelV x u):absV u=some x:=by
  cases x with
  | non=>cases r; rfl
  | bl _=>cases r; rfl
  | int _=>obtain ⟨t,rfl⟩:=r; rfl
  | str _=>obtain ⟨t,rfl⟩:=r; rfl
  | byt _=>obtain ⟨t,rfl⟩:=r; rfl
  | flt _=>obtain ⟨t,rfl⟩:=r; rfl
  | ref _=>cases r; rfl
  | ty _=>cases r; rfl
theorem RelV.inj {x y:V} {u:Value} (r:RelV x u) (q:RelV y u):x=y:=Option.some.inj (r.abs.symm.trans q.abs)
theorem Vals.inj:∀ {xs ys:List V} {us:List Value},Vals xs us→Vals ys us→xs=ys
  | _,_,_,.nil,.nil=>rfl
  | _,_,_,.cons r t,.cons r' t'=>by rw [r.inj r',Vals.inj t t']
section
variable {X:Cx} {pins:List (Addr×Obj)} {σ:St} {H:Hp} {s:Shared} {a:Addr} {xs ys:List V}
theorem SqL.of {K:PySem.W.Frag} (h:H a=some (.lst xs)):SqL K H a xs:=.inl (.inl h)
theorem SqT.of {K:PySem.W.Frag} (h:H a=some (.tup xs)):SqT K H a xs:=.inl (.inl h)
theorem Inv.list (I:Inv X pins σ H s) (h:SqL X.K H a xs):∃ its:List Value,Vals xs its∧PlainL s.heap a its.toArray∧xs.length≤sizeLine:=by
  rcases h with h | ⟨o,its,n,hk,hc,hd,hs,hz,r⟩
  · obtain ⟨z,its,n,r,e⟩:=h.ok I.hok
    exact ⟨its,r,⟨_,n,e,rfl,rfl,rfl⟩,z⟩
  · refine ⟨its.toList,r,⟨o,n,I.kIn a o hk,hc,hd,by simpa using hs⟩,?_⟩
    have e:=r.length
    simp only [Array.length_toList] at e
    omega
theorem Inv.tuple (I:Inv X pins σ H s) (h:SqT X.K H a xs):∃ its:List Value,Vals xs its∧IsTup s.heap a its.toArray∧xs.length≤sizeLine:=by
  rcases h with h | ⟨o,its,n,hk,hc,hs,hz,r⟩
  · obtain ⟨z,its,r,p⟩:=h.ok I.hok
    exact ⟨its,r,p,z⟩
  · refine ⟨its.toList,r,⟨o,I.kIn a o hk,hc,n,by simpa using hs⟩,?_⟩
    have e:=r.length
    simp only [Array.length_toList] at e
    omega
theorem Inv.list_inj (I:Inv X pins σ H s) (h:SqL X.K H a xs) (h':SqL X.K H a ys):xs=ys:=by
  obtain ⟨its,r,⟨o,n,e,_,_,d⟩,_⟩:=I.list h
  obtain ⟨its',r',⟨o',n',e',_,_,d'⟩,_⟩:=I.list h'
  rw [e] at e'; cases e'
  rw [d] at d'
  injection d' with d1 _
  have:its=its':=by simpa using congrArg Array.toList d1
  subst this
  exact r.inj r'
theorem Inv.tuple_inj (I:Inv X pins σ H s) (h:SqT X.K H a xs) (h':SqT X.K H a ys):xs=ys:=by
  obtain ⟨its,r,⟨o,e,_,n,d⟩,_⟩:=I.tuple h
  obtain ⟨its',r',⟨o',e',_,n',d'⟩,_⟩:=I.tuple h'
  rw [e] at e'; cases e'
  rw [d] at d'
  injection d' with d1 _
  have:its=its':=by simpa using congrArg Array.toList d1
  subst this
  exact r.inj r'
end
abbrev Cx.wish (X:Cx) (E:Value→Shared→Prop):Cx:={ X with xe:=E }
abbrev Cx.nox (X:Cx):Cx:=X.wish fun _ _=>False
theorem Cx.Ok.wish {X:Cx} (ok:X.Ok) (E:Value→Shared→Prop):(X.wish E).Ok :=
  ⟨ok.mod,ok.kind,ok.glob,ok.blt,ok.above,ok.inj,ok.has,ok.cab,ok.hd,ok.frames,ok.stk,ok.exf,ok.bs,ok.bsz,ok.noex,ok.exfs,ok.funs,ok.frf⟩
theorem Cx.Ok.unwish {X:Cx} {E:Value→Shared→Prop} (ok:(X.wish E).Ok):X.Ok :=
  ⟨ok.mod,ok.kind,ok.glob,ok.blt,ok.above,ok.inj,ok.has,ok.cab,ok.hd,ok.frames,ok.stk,ok.exf,ok.bs,ok.bsz,ok.noex,ok.exfs,ok.funs,ok.frf⟩
section
variable {X:Cx} {pins:List (Addr×Obj)} {σ:St} {H:Hp} {s:Shared} {E:Value→Shared→Prop}
theorem Inv.wish (I:Inv X pins σ H s) (E:Value→Shared→Prop):Inv (X.wish E) pins σ H s:=⟨I.ok.wish E,I.os,I.bare,I.base,I.loc,I.cell,I.free,I.freeC,I.pin,I.hok,I.len⟩
theorem Inv.unwish (I:Inv (X.wish E) pins σ H s):Inv X pins σ H s:=⟨I.ok.unwish,I.os,I.bare,I.base,I.loc,I.cell,I.free,I.freeC,I.pin,I.hok,I.len⟩
theorem SP.unwish {D:Ends} {f:Flow} {s':Shared} (h:SP (X.wish E) pins D f s'):SP X pins D f s':=by
  cases f with
  | next=>obtain ⟨σ',H',I,q⟩:=h; exact ⟨σ',H',I.unwish,q⟩
  | brk=>obtain ⟨σ',H',I,q⟩:=h; exact ⟨σ',H',I.unwish,q⟩
  | cont=>obtain ⟨σ',H',I,q⟩:=h; exact ⟨σ',H',I.unwish,q⟩
  | ret u=>obtain ⟨v,σ',H',I,r,q⟩:=h; exact ⟨v,σ',H',I.unwish,r,q⟩
theorem PSs.nox {st:List Stmt} {t:TS} (h:PSs X.nox st t):PSs X st t:=fun pins s σ H D I hw =>
  wpAny_mono (h pins s σ H D (I.wish _) hw) (fun _ _ q=>q.unwish) fun _ _ z=>False.elim z
end
section
variable {X:Cx} {st:Stmt} {rest:List Stmt} {t u:TS} {e:Expr} {te:TE} {pos:Pos}
def tNext:TS:=fun D σ H=>D.nx σ H
def tSeq (t u:TS):TS:=fun D σ H=>t { D with nx:=u D } σ H
theorem pss_nil:PSs X [] tNext:=fun _ _ σ H _ I h=>wpAny_execs_nil ⟨σ,H,I,h⟩
theorem pss_cons (h1:PS X st t) (h2:PSs X rest u):PSs X (st::rest) (tSeq t u):=by
  intro pins s σ H D I h
  refine wpAny_execs_cons (thn (h1 pins s σ H { D with nx:=u D } I h) fun f s1 q=>?_)
  cases f with
  | next =>
    obtain ⟨σ',H',I',q⟩:=q
    exact h2 pins s1 σ' H' D I' q
  | ret v=>exact q
  | brk=>exact q
  | cont=>exact q
theorem pss_one (h1:PS X st t):PSs X [st] t:=by
  intro pins s σ H D I h
  refine wpAny_execs_cons (thn (h1 pins s σ H D I h) fun f s1 q=>?_)
  cases f with
  | next=>exact wpAny_execs_nil q
  | ret v=>exact q
  | brk=>exact q
  | cont=>exact q
theorem Inv.quiet {pins:List (Addr×Obj)} {σ:St} {H:Hp} {s:Shared} (I:Inv X pins σ H s):interactive X.env=false:=by simp [interactive,I.ok.kind]
def tDrop (te:TE):TS:=fun D σ H=>te σ H fun _ H1=>D.nx σ H1
theorem ps_expr (he:PE X e te) (hs:swapsWith e none pos.line X.env=pure false:=by rfl):PS X (.Expr e pos) (tDrop te):=by
  intro pins s σ H D I h
  exact wpAny_Expr_any (thn (he pins s σ H _ I h) fun v s1 ⟨x,H1,I1,r1,q1⟩=>⟨σ,H1,I1,q1⟩) I.quiet hs
def tRet (te:TE):TS:=fun D σ H=>te σ H D.rt
theorem ps_ret (he:PE X e te):PS X (.Return (some e) pos) (tRet te):=by
  intro pins s σ H D I h
  exact wpAny_Return_some (thn (he pins s σ H _ I h) fun v s1 ⟨x,H1,I1,r1,q1⟩=>⟨x,σ,H1,I1,r1,q1⟩)
def tIfS (c:TT) (t u:TS):TS:=fun D σ H=>c σ H fun b H1=>if b=true then t D σ H1 else u D σ H1
theorem ps_if {c:Expr} {a b:List Stmt} {tc:TT} (hc:PT X c tc) (ha:PSs X a t) (hb:PSs X b u):PS X (.If c a b pos) (tIfS tc t u):=by
  intro pins s σ H D I h
  refine wpAny_If (thn (hc pins s σ H _ I h) fun d s1 ⟨H1,I1,q1⟩=>?_)
  cases d with
  | true=>exact ha pins s1 σ H1 D I1 q1
  | false=>exact hb pins s1 σ H1 D I1 q1
def tNever:TS:=fun _ _ _=>False
theorem ps_never:PS X st tNever:=fun _ _ _ _ _ _ h=>h.elim
end
abbrev TG:=V→St→Hp→(St→Hp→Prop)→Prop
abbrev TGs:=List V→St→Hp→(St→Hp→Prop)→Prop
def PG (X:Cx) (target:Expr) (t:TG):Prop :=
  ∀ (pins:List (Addr×Obj)) (s:Shared) (σ:St) (H:Hp) (v:V) (u:Value) (Q:St→Hp→Prop),Inv X pins σ H s→RelV v u→t v σ H Q →
    wpAny (model X.prog X.w) X.A (assign target X.env u) (fun _ s'=>∃ σ' H',Inv X pins σ' H' s'∧Q σ' H') X.xe s
def PGs (X:Cx) (ts:List Expr) (t:TGs):Prop :=
  ∀ (pins:List (Addr×Obj)) (s:Shared) (σ:St) (H:Hp) (vs:List V) (us:List Value) (Q:St→Hp→Prop),Inv X pins σ H s→Vals vs us→t vs σ H Q →
    wpAny (model X.prog X.w) X.A (assignInOrder ((assignEach ts X.env).map (·.2)) us) (fun _ s'=>∃ σ' H',Inv X pins σ' H' s'∧Q σ' H') X.xe s
section
variable {X:Cx} {pos:Pos}
def gName (i:Nat):TG:=fun v σ H Q=>Q (σ.set i (some v)) H
theorem pg_name {i:Nat} {x:Str} (hN:X.N.Nodup) (hi:X.N[i]?=some x) (hx:Loc X.env.scope x) (hf:X.fn x=true∨X.env.scope.names.lookup x=some .local:=by first | exact .inl rfl | exact .inr rfl | assumption):PG X (.Name x pos) (gName i):=by
  intro pins s σ H v u Q I r h
  exact wpAny_assign_Name (store_ok I hN hi hx r (fun s' I'=>⟨_,H,I',h⟩) hf)
def gNil:TGs:=fun vs σ H Q=>vs=[]∧Q σ H
def gCons (t:TG) (u:TGs):TGs:=fun vs σ H Q=>∃ v r,vs=v::r∧t v σ H fun σ' H'=>u r σ' H' Q
theorem pgs_nil:PGs X [] gNil:=by
  intro pins s σ H vs us Q I r h
  obtain ⟨e,h⟩:=h
  subst e
  cases r
  exact assignInOrder_nil ⟨σ,H,I,h⟩
theorem pgs_cons {e:Expr} {es:List Expr} {t:TG} {u:TGs} (h1:PG X e t) (h2:PGs X es u)
    (hs:(assignEach (e::es) X.env).map (·.2)=assign e X.env::(assignEach es X.env).map (·.2):=by rfl):PGs X (e::es) (gCons t u):=by
  intro pins s σ H vs us Q I r h
  obtain ⟨v,vr,e1,h⟩:=h
  subst e1
  cases r with
  | cons r rr =>
    rw [hs]
    refine assignInOrder_cons (thn (h1 pins s σ H _ _ _ I r h) fun _ s1 ⟨σ1,H1,I1,q1⟩=>?_)
    exact h2 pins s1 σ1 H1 _ _ Q I1 rr q1
def gTup (K:PySem.W.Frag) (n:Nat) (t:TGs):TG:=fun v σ H Q=>∃ a xs,v=.ref a∧SqT K H a xs∧xs.length=n∧t xs σ H Q
theorem pg_tup {es:List Expr} {k:Nat} {t:TGs} {n:Nat} (hc:X.calm=true) (h:PGs X es t)
    (hn:(assignEach es X.env).length=n:=by rfl) (hst:(assignEach es X.env).findIdx? (·.1)=none:=by rfl):PG X (.Tuple es k pos) (gTup X.K n t):=by
  intro pins s σ H v u Q I r hw
  obtain ⟨a,xs,e1,hq,hl,hw⟩:=hw
  subst e1
  cases r
  obtain ⟨its,rv,ht,hz⟩:=I.tuple hq
  refine assign_Tuple_tuple (I.ok.hd hc) ht (by simp [hn,← hl,rv.length]) hst fun h' hx=>?_
  have I1:Inv X pins σ H { s with heap:=h' }:=I.kept (t':=s.toks) fun b o e=>hx b o (Nat.ne_of_lt (Heap.lt_size e)) e
  exact h pins _ σ H xs _ Q I1 (by simpa using rv) hw
def tAsg (te:TE) (g:TG):TS:=fun D σ H=>te σ H fun x H1=>g x σ H1 D.nx
theorem ps_asg {tg e:Expr} {te:TE} {g:TG} (he:PE X e te) (hg:PG X tg g) (hs:swapsWithSole [tg] e pos.line X.env=pure false:=by rfl) (hw:swappedStores [tg] e X.env=pure none:=by rfl)
    (h1:(assignEach [tg] X.env).map (·.2)=[assign tg X.env]:=by rfl):PS X (.Assign [tg] e pos) (tAsg te g):=by
  intro pins s σ H D I h
  refine wpAny_Assign_stores (thn (he pins s σ H _ I h) fun v s1 ⟨x,H1,I1,r1,q1⟩=>?_) hs hw
  rw [h1]
  exact thn (hg pins s1 σ H1 x v _ I1 r1 q1) fun _ s2 q=>q
theorem ps_set {i:Nat} {x:Str} {e:Expr} {te:TE} {pos':Pos} (hN:X.N.Nodup) (hi:X.N[i]?=some x) (hx:Loc X.env.scope x) (he:PE X e te) (hs:swapsWith e (some (.Name x pos')) pos.line X.env=pure false:=by rfl) (hf:X.fn x=true∨X.env.scope.names.lookup x=some .local:=by first | exact .inl rfl | exact .inr rfl | assumption) :
    PS X (.Assign [.Name x pos'] e pos) (tAsg te (gName i)):=by
  intro pins s σ H D I h
  refine wpAny_Assign_Name (thn (he pins s σ H _ I h) fun v s1 ⟨y,H1,I1,r1,q1⟩=>?_) hs
  exact store_ok I1 hN hi hx r1 (fun s2 I2=>⟨_,H1,I2,q1⟩) hf
end
section
variable {X:Cx} {pos:Pos}
def tWhile (c:TT) (tb:TS):TS:=fun D σ H=>∃ W:Nat→St→Hp→Prop,(∃ m,W m σ H)∧∀ m σ H,W m σ H →
  c σ H fun b H1=>if b=true then ∃ N:St→Hp→Prop,(∀ σ' H',N σ' H'→∃ m',m' < m∧W m' σ' H')∧tb { D with nx:=N,ct:=N,bk:=D.nx } σ H1 else D.nx σ H1
theorem ps_while {c:Expr} {body:List Stmt} {tc:TT} {tb:TS} (hp:PassesOwn (model X.prog X.w) X.A X.env X.xe) (hc:PT X c tc) (hb:PSs X body tb):PS X (.While c body [] pos) (tWhile tc tb):=by
  intro pins s σ H D I h
  obtain ⟨W,⟨m0,w0⟩,turn⟩:=h
  refine wpAny_While (codeAny_whileLoop (fun n s'=>∃ σ' H',Inv X pins σ' H' s'∧W n σ' H') ?_ m0 ⟨σ,H,I,w0⟩)
  rintro n s1 ⟨σ1,H1,I1,w1⟩
  refine wpAny_passesOwn hp (thn (hc pins s1 σ1 H1 _ I1 (turn n σ1 H1 w1)) fun b s2 ⟨H2,I2,q2⟩=>?_)
  cases b with
  | true =>
    obtain ⟨N,hN,q2⟩:=q2
    rw [if_pos rfl]
    refine wpAny_passesOwn hp (thn (hb pins s2 σ1 H2 _ I2 q2) fun f s3 q3=>?_)
    cases f with
    | next =>
      obtain ⟨σ3,H3,I3,n3⟩:=q3
      obtain ⟨m',hm,w3⟩:=hN σ3 H3 n3
      exact ⟨m',hm,σ3,H3,I3,w3⟩
    | cont =>
      obtain ⟨σ3,H3,I3,n3⟩:=q3
      obtain ⟨m',hm,w3⟩:=hN σ3 H3 n3
      exact ⟨m',hm,σ3,H3,I3,w3⟩
    | brk=>exact q3
    | ret v=>exact q3
  | false =>
    rw [if_neg Bool.false_ne_true]
    exact wpAny_execs_nil ⟨σ1,H2,I2,q2⟩
end
structure It where
  go:Nat→Hp→Prop
  yld:Nat→Hp→V→Hp→Prop
  stop:Nat→Hp→Prop
def FpOk (X:Cx) (pins:List (Addr×Obj)) (H:Hp) (b:Addr):Prop :=
  H b=none∧b≠X.env.locals∧b∉X.fs∧(b∈X.ex∨X.s₀.heap.objs.size≤b)∧(∀ x c,X.env.cells.lookup x=some c→c≠b)∧∀ p∈X.pn++pins,p.1≠b
theorem Inv.fpOk {X:Cx} {pins:List (Addr×Obj)} {σ:St} {H H':Hp} {s:Shared} {b:Addr} (I:Inv X pins σ H s) (hb:s.heap.objs.size≤b) (hn:H' b=none):FpOk X pins H' b:=by
  refine ⟨hn,Nat.ne_of_gt (Nat.lt_of_lt_of_le I.lt hb),I.nofs hb,.inr (Nat.le_trans I.sz hb),fun x c e z=>?_,fun p hp z=>?_⟩
  · obtain ⟨v,q⟩:=I.cell x c e
    exact absurd (Nat.lt_of_lt_of_le q.lt (by rw [z]; exact hb)) (Nat.lt_irrefl _)
  · exact absurd (Nat.lt_of_lt_of_le (Heap.lt_size (I.pin p hp).1) (by rw [z]; exact hb)) (Nat.lt_irrefl _)
structure Turn (P:Program) (w:World) (K:PySem.W.Frag) (tg:Expr) (J:It) (fp:List Addr) (it:Addr) (tn:Nat→Heap→Prop):Prop where
  mem:it∈fp
  obj:∀ i h,tn i h→∀ b∈fp,∃ o,h.get? b=some o∧∀ v,o.data≠.cell v
  keep:∀ i h h',tn i h→(∀ b∈fp,∀ o,h.get? b=some o→h'.get? b=some o)→tn i h'
  item:∀ (X:Cx),X.prog=P→X.w=w→X.K=K→X.calm=true→∀ (i:Nat) (pins:List (Addr×Obj)) (s:Shared) (σ:St) (H:Hp) (E:Value→Shared→Prop),Inv X pins σ H s→(∀ b∈fp,FpOk X pins H b)→tn i s.heap→J.go i H →
    wpAny (model P w) X.A (pyNext (.ref it)) (fun r s1=>∃ u,r=some u ∧
      wpAny (model P w) X.A (letOwnedTupleGo tg (.ref it) u) (fun _ s2=>∃ x H',Inv X pins σ H' s2∧RelV x u∧J.yld i H x H'∧tn (i+1) s2.heap∧∀ b∈fp,H' b=none) E s1) E s
  done:∀ (X:Cx),X.prog=P→X.w=w→X.K=K→X.calm=true→∀ (i:Nat) (pins:List (Addr×Obj)) (s:Shared) (σ:St) (H:Hp) (E:Value→Shared→Prop),Inv X pins σ H s→(∀ b∈fp,FpOk X pins H b)→tn i s.heap→J.stop i H →
    wpAny (model P w) X.A (pyNext (.ref it)) (fun r s1=>r=none∧Inv X pins σ H s1) E s
  self:∀ (A:Around) (i:Nat) (s:Shared) (Q:Value→Shared→Prop) (E:Value→Shared→Prop),tn i s.heap→Q (.ref it) s→wpAny (model P w) A (pyIter (.ref it)) Q E s
abbrev TI:=St→Hp→(It→Hp→Prop)→Prop
def PIE (X:Cx) (pins:List (Addr×Obj)) (σ:St) (tg:Expr) (R:It→Hp→Prop) (itv:Value) (s2:Shared):Prop :=
  ∃ (it:Addr) (fp:List Addr) (tn:Nat→Heap→Prop) (J:It) (H':Hp),itv=.ref it∧Inv X pins σ H' s2∧Turn X.prog X.w X.K tg J fp it tn∧tn 0 s2.heap∧(∀ b∈fp,FpOk X pins H' b)∧R J H'
def PI (X:Cx) (tg iter:Expr) (wi:TI):Prop :=
  ∀ (pins:List (Addr×Obj)) (s:Shared) (σ:St) (H:Hp) (R:It→Hp→Prop),Inv X pins σ H s→wi σ H R →
    wpAny (model X.prog X.w) X.A (eval iter X.env) (fun v s1=>wpAny (model X.prog X.w) X.A (pyIter v) (PIE X pins σ tg R) X.xe s1) X.xe s
theorem go_of {M:Model} {A:Around} {E:Value→Shared→Prop} {s:Shared} {tg:Expr} {it:Addr} {u:Value} {o:Obj} {n:String} {vs:Array Value} {Q:Unit→Shared→Prop} (ho:s.heap.get? it=some o) (hc:o.cls=.type n) (hd:o.data=.fields vs)
    (hn:["enumerate", "zip", "dict_itemiterator", "dict_reverseitemiterator", "odict_iterator", "itertools.zip_longest", "itertools.pairwise"].contains n=false) (hQ:Q () s):wpAny M A (letOwnedTupleGo tg (.ref it) u) Q E s:=by
  unfold letOwnedTupleGo
  cases tg <;> first
    | exact wpAny_pure hQ
    | (cases u <;> first
        | exact wpAny_pure hQ
        | (refine wpAny_bind (wpAny_load ho ?_)
           rw [hc,hd]
           show wpAny M A (if (["enumerate", "zip", "dict_itemiterator", "dict_reverseitemiterator", "odict_iterator", "itertools.zip_longest", "itertools.pairwise"].contains n&&vs[0]?==some (rawInt _))=true then _ else _) Q E s
           rw [if_neg (by intro h; rw [hn,Bool.false_and] at h; cases h)]
           exact wpAny_pure hQ))
def Itl (K:PySem.W.Frag) (a:Addr):It :=
  ⟨fun i H=>∃ xs x,SqL K H a xs∧xs[i]?=some x,fun i H x H'=>H'=H∧∀ xs,SqL K H a xs→xs[i]?=some x,fun i H=>∃ xs,SqL K H a xs∧xs.length≤i⟩
def Itt (K:PySem.W.Frag) (a:Addr):It :=
  ⟨fun i H=>∃ xs x,SqT K H a xs∧xs[i]?=some x,fun i H x H'=>H'=H∧∀ xs,SqT K H a xs→xs[i]?=some x,fun i H=>∃ xs,SqT K H a xs∧xs.length≤i⟩
def Itr (lo:Int) (n:Nat):It:=⟨fun i _=>i < n,fun i H x H'=>H'=H∧x=.int (lo+i),fun i _=>n≤i⟩
theorem turn_list {P:Program} {w:World} {K:PySem.W.Frag} {tg:Expr} (a it:Addr):Turn P w K tg (Itl K a) [it] it (fun i h=>h.IsListIter it a i) where
  mem:=by simp
  obj:=fun i h st b hb=>by
    have e:b=it:=by simpa using hb
    subst e
    obtain ⟨o,e,c,d⟩:=st
    exact ⟨o,e,fun v z=>by rw [d] at z; cases z⟩
  keep:=fun i h h' st k=>st.at fun o e=>k it (by simp) o e
  item:=by
    intro X hP hw hK hc i pins s σ H E I hf st hg
    subst hP hw hK
    obtain ⟨xs,x,hq,hx⟩:=hg
    obtain ⟨its,rv,p,hz⟩:=I.list hq
    obtain ⟨u,hu,ru⟩:=rv.get hx
    obtain ⟨f0,f1,f2,f3,f4,f5⟩:=hf it (by simp)
    refine wpAny_pyNext_list_item st p.isList (x:=u) (by simpa using hu) fun h' st' sb=>?_
    have I1:Inv X pins σ H { s with heap:=h' }:=I.turned (t':=s.toks) (fun b o hb e=>(sb.2 b hb).trans e) f0 f1 f3 f4 f5
    obtain ⟨o,e,c,d⟩:=id st'
    exact ⟨u,rfl,go_of (s:={ s with heap:=h' }) e c d (by decide) ⟨x,H,I1,ru,⟨rfl,fun ys hy=>by rw [I.list_inj hy hq]; exact hx⟩,st',fun b hb=>(hf b hb).1⟩⟩
  done:=by
    intro X hP hw hK hc i pins s σ H E I hf st hg
    subst hP hw hK
    obtain ⟨xs,hq,hx⟩:=hg
    obtain ⟨its,rv,p,hz⟩:=I.list hq
    obtain ⟨f0,f1,f2,f3,f4,f5⟩:=hf it (by simp)
    have hl:=rv.length
    exact wpAny_pyNext_list_end (I.ok.hd hc) st p.isList (by simp; omega) fun h' eb=>⟨rfl,I.turned (t':=s.toks) (fun b o hb e=>eb b o hb e) f0 f1 f3 f4 f5⟩
  self:=fun _ _ _ _ _ st h=>wpAny_pyIter_listiter st h
theorem turn_tuple {P:Program} {w:World} {K:PySem.W.Frag} {tg:Expr} (a it:Addr):Turn P w K tg (Itt K a) [it] it (fun i h=>h.IsTupleIter it a i) where
  mem:=by simp
  obj:=fun i h st b hb=>by
    have e:b=it:=by simpa using hb
    subst e
    obtain ⟨o,e,c,d⟩:=st
    exact ⟨o,e,fun v z=>by rw [d] at z; cases z⟩
  keep:=fun i h h' st k=>st.at fun o e=>k it (by simp) o e
  item:=by
    intro X hP hw hK hc i pins s σ H E I hf st hg
    subst hP hw hK
    obtain ⟨xs,x,hq,hx⟩:=hg
    obtain ⟨its,rv,p,hz⟩:=I.tuple hq
    obtain ⟨u,hu,ru⟩:=rv.get hx
    obtain ⟨f0,f1,f2,f3,f4,f5⟩:=hf it (by simp)
    refine wpAny_pyNext_tuple_item st (show s.heap.IsTuple a its.toArray from p) (x:=u) (by simpa using hu) fun h' st' sb=>?_
    have I1:Inv X pins σ H { s with heap:=h' }:=I.turned (t':=s.toks) (fun b o hb e=>(sb.2 b hb).trans e) f0 f1 f3 f4 f5
    obtain ⟨o,e,c,d⟩:=id st'
    exact ⟨u,rfl,go_of (s:={ s with heap:=h' }) e c d (by decide) ⟨x,H,I1,ru,⟨rfl,fun ys hy=>by rw [I.tuple_inj hy hq]; exact hx⟩,st',fun b hb=>(hf b hb).1⟩⟩
  done:=by
    intro X hP hw hK hc i pins s σ H E I hf st hg
    subst hP hw hK
    obtain ⟨xs,hq,hx⟩:=hg
    obtain ⟨its,rv,p,hz⟩:=I.tuple hq
    obtain ⟨f0,f1,f2,f3,f4,f5⟩:=hf it (by simp)
    have hl:=rv.length
    exact wpAny_pyNext_tuple_end (I.ok.hd hc) st (show s.heap.IsTuple a its.toArray from p) (by simp; omega) fun h' eb=>⟨rfl,I.turned (t':=s.toks) (fun b o hb e=>eb b o hb e) f0 f1 f3 f4 f5⟩
  self:=fun _ _ _ _ _ st h=>wpAny_pyIter_tupleiter st h
theorem turn_range {P:Program} {w:World} {K:PySem.W.Frag} {tg:Expr} (it:Addr) (lo:Int) (n:Nat):Turn P w K tg (Itr lo n) [it] it (fun i h=>IsRangeIter h it (lo+(i:Nat)*1) ((n:Int) - (i:Nat)) 1) where
  mem:=by simp
  obj:=fun i h st b hb=>by
    have e:b=it:=by simpa using hb
    subst e
    exact ⟨_,st,fun v z=>by
      have z':Data.fields _=Data.cell v:=z
      cases z'⟩
  keep:=fun i h h' st k=>k it (by simp) _ st
  item:=by
    intro X hP hw hK hc i pins s σ H E I hf st hg
    subst hP hw hK
    obtain ⟨f0,f1,f2,f3,f4,f5⟩:=hf it (by simp)
    have W:=Walks.range (prog:=X.prog) (w:=X.w) (I.ok.hd hc) it lo 1 n
    refine W.item i s _ _ hg st fun v h' tk hv st' kk=>?_
    obtain ⟨t,rfl⟩:=hv
    have I1:Inv X pins σ H { s with heap:=h',toks:=tk }:=I.turned (fun b o hb e=>kk b o (by simpa using hb) e) f0 f1 f3 f4 f5
    refine ⟨_,rfl,go_of (s:={ s with heap:=h',toks:=tk }) (n := "range_iterator") st' rfl rfl (by decide) ⟨.int (lo+i),H,I1,⟨t,?_⟩,⟨rfl,rfl⟩,st',fun b hb=>(hf b hb).1⟩⟩
    rw [Int.mul_one]
  done:=by
    intro X hP hw hK hc i pins s σ H E I hf st hg
    subst hP hw hK
    obtain ⟨f0,f1,f2,f3,f4,f5⟩:=hf it (by simp)
    exact wpAny_pyNext_range_end (I.ok.hd hc) st (by have:n≤i:=hg; omega) fun h' eb=>⟨rfl,I.turned (t':=s.toks) (fun b o hb e=>eb b o hb e) f0 f1 f3 f4 f5⟩
  self:=fun _ _ _ _ _ st h=>wpAny_pyIter_rangeiter st h
end L2
namespace L2
open PySem PySem.Spec PyProof.Rows
section
variable {X:Cx} {tg:Expr}
def iList (K:PySem.W.Frag) (tl:TE):TI:=fun σ H R=>tl σ H fun x H1=>∃ a,x=.ref a∧(∃ xs,SqL K H1 a xs)∧R (Itl K a) H1
def iTup (K:PySem.W.Frag) (tl:TE):TI:=fun σ H R=>tl σ H fun x H1=>∃ a,x=.ref a∧(∃ xs,SqT K H1 a xs)∧R (Itt K a) H1
theorem pi_list {l:Expr} {tl:TE} (hl:PE X l tl):PI X tg l (iList X.K tl):=by
  intro pins s σ H R I h
  refine thn (hl pins s σ H _ I h) fun v s1 ⟨x,H1,I1,r1,q1⟩=>?_
  obtain ⟨a,e,⟨xs,hq⟩,q⟩:=q1
  subst e
  cases r1
  obtain ⟨its,rv,p,hz⟩:=I1.list hq
  refine wpAny_pyIter_list p.isList ?_
  refine ⟨s1.heap.objs.size,[s1.heap.objs.size],_,_,H1,rfl,I1.kept (t':=s1.toks) fun b o e=>Heap.get?_push_of_some _ e,turn_list a _,⟨_,Heap.get?_push_size _ rfl,rfl,rfl⟩,fun b hb=>?_,q⟩
  have e:b=s1.heap.objs.size:=by simpa using hb
  subst e
  exact I1.fpOk (Nat.le_refl _) (I1.hok.fresh (Nat.le_refl _))
theorem pi_tup {l:Expr} {tl:TE} (hl:PE X l tl):PI X tg l (iTup X.K tl):=by
  intro pins s σ H R I h
  refine thn (hl pins s σ H _ I h) fun v s1 ⟨x,H1,I1,r1,q1⟩=>?_
  obtain ⟨a,e,⟨xs,hq⟩,q⟩:=q1
  subst e
  cases r1
  obtain ⟨its,rv,p,hz⟩:=I1.tuple hq
  refine wpAny_pyIter_tuple (show s1.heap.IsTuple a its.toArray from p) ?_
  refine ⟨s1.heap.objs.size,[s1.heap.objs.size],_,_,H1,rfl,I1.kept (t':=s1.toks) fun b o e=>Heap.get?_push_of_some _ e,turn_tuple a _,⟨_,Heap.get?_push_size _ rfl,rfl,rfl⟩,fun b hb=>?_,q⟩
  have e:b=s1.heap.objs.size:=by simpa using hb
  subst e
  exact I1.fpOk (Nat.le_refl _) (I1.hok.fresh (Nat.le_refl _))
theorem range_it {pins:List (Addr×Obj)} {σ:St} {H:Hp} {s:Shared} {R:It→Hp→Prop} {E:Value→Shared→Prop} {lo hi:Int} {t u v:Tok} {tk:Nat} (I:Inv X pins σ H s) (h1:-(2 ^ 62)≤lo) (h2:lo < 2 ^ 62) (h3:-(2 ^ 62)≤hi) (h4:hi < 2 ^ 62)
    (q:R (Itr lo (hi - lo).toNat) H):wpAny (model X.prog X.w) X.A (pyIter (.ref s.heap.objs.size)) (PIE X pins σ tg R) E { s with heap:=s.heap.push { cls:=.type "range", data:=.fields #[.int lo t,.int hi u,.int 1 v] },toks:=tk }:=by
  refine wpAny_pyIter_range (IsRange.new ..) (small_one h1 h2 h3 h4) ?_
  have I1:Inv X pins σ H { s with heap:=s.heap.push { cls:=.type "range", data:=.fields #[.int lo t,.int hi u,.int 1 v] },toks:=tk }:=I.kept fun b o e=>Heap.get?_push_of_some _ e
  refine ⟨(s.heap.push { cls:=.type "range", data:=.fields #[.int lo t,.int hi u,.int 1 v] }).objs.size,[(s.heap.push { cls:=.type "range", data:=.fields #[.int lo t,.int hi u,.int 1 v] }).objs.size],_,_,H,rfl,
    I1.kept (t':=tk) fun b o e=>Heap.get?_push_of_some _ e,turn_range _ lo (hi - lo).toNat,?_,fun b hb=>?_,q⟩
  · have e1:lo+((0:Nat):Int)*1=lo:=by simp
    have e2:(((hi - lo).toNat:Nat):Int) - ((0:Nat):Int)=Builtin.Range.rangeSize lo hi 1:=by rw [rangeSize_one]; split <;> omega
    show IsRangeIter _ _ (lo+((0:Nat):Int)*1) ((((hi - lo).toNat:Nat):Int) - ((0:Nat):Int)) 1
    rw [e1,e2]
    exact Heap.get?_push_size _ rfl
  · have e:b=(s.heap.push { cls:=.type "range", data:=.fields #[.int lo t,.int hi u,.int 1 v] }).objs.size:=by simpa using hb
    subst e
    exact I1.fpOk (Nat.le_refl _) (I1.hok.fresh (Nat.le_refl _))
def iRng1 (ta:TA):TI:=fun σ H R=>ta σ H fun vs H1=>∃ j:Int,vs=[.int j]∧-(2 ^ 62)≤j∧j < 2 ^ 62∧R (Itr 0 j.toNat) H1
theorem pi_range1 {a:Expr} {ta:TA} {p pos:Pos} (hg:Gl X "range") (hm:X.mg "range" = none) (ha:PA X [a] ta) (hs:starEach [a] X.env=[(false,eval a X.env)]:=by rfl):PI X tg (.Call (.Name "range" p) [a] [] pos) (iRng1 ta):=by
  intro pins s σ H R I h
  refine Call_ (ld_blt I hg hm boot_range (PyProof.Rows.callWith_type1 (thn (ha pos pins s σ H _ I h) fun us s1 ⟨vs,H1,I1,r1,q1⟩=>?_) hs rfl))
  obtain ⟨j,e,q1,q2,q⟩:=q1
  subst e
  cases r1 with
  | cons r rr =>
    cases rr
    obtain ⟨t,rfl⟩:=r
    exact call_range_1 (range_it I1 (by omega) (by omega) q1 q2 (by simpa using q))
def tFor (wi:TI) (g:TG) (tb:TS):TS:=fun D σ H=>wi σ H fun J H1=>∃ W:Nat→Nat→St→Hp→Prop,(∃ m,W 0 m σ H1)∧∀ i m σ H,W i m σ H →
  (J.stop i H∧D.nx σ H)∨(J.go i H∧∃ N:St→Hp→Prop,(∀ σ' H',N σ' H'→∃ m',m' < m∧W (i+1) m' σ' H')∧∀ x H',J.yld i H x H'→g x σ H' fun σ2 H2=>tb { D with nx:=N,ct:=N,bk:=D.nx } σ2 H2)
def pinsAt (fp:List Addr) (h:Heap):List (Addr×Obj):=fp.filterMap fun b=>(h.get? b).map fun o=>(b,o)
theorem mem_pinsAt {fp:List Addr} {h:Heap} {b:Addr} {o:Obj} (hb:b∈fp) (e:h.get? b=some o):(b,o)∈pinsAt fp h:=List.mem_filterMap.mpr ⟨b,hb,by rw [e]; rfl⟩
theorem of_pinsAt {fp:List Addr} {h:Heap} {p:Addr×Obj} (hp:p∈pinsAt fp h):p.1∈fp∧h.get? p.1=some p.2:=by
  obtain ⟨b,hb,e⟩:=List.mem_filterMap.mp hp
  cases q:h.get? b with
  | none=>rw [q] at e; cases e
  | some o =>
    rw [q] at e
    have e':(b,o)=p:=Option.some.inj e
    subst e'
    exact ⟨hb,q⟩
theorem Inv.pinned {pins:List (Addr×Obj)} {σ:St} {H:Hp} {s:Shared} {fp:List Addr} (I:Inv X pins σ H s) (hf:∀ b∈fp,FpOk X pins H b) (ho:∀ b∈fp,∃ o,s.heap.get? b=some o∧∀ v,o.data≠.cell v):Inv X (pins++pinsAt fp s.heap) σ H s :=
  I.pins_of fun p hp=>(List.mem_append.mp hp).elim (fun z=>I.pin p (List.mem_append_right _ z)) fun z=>by
    obtain ⟨hb,e⟩:=of_pinsAt z
    obtain ⟨f0,f1,f2,_⟩:=hf p.1 hb
    obtain ⟨o,e',d⟩:=ho p.1 hb
    rw [e] at e'; cases e'
    exact ⟨e,f0,f1,f2,d⟩
theorem Inv.unpinned {pins pl:List (Addr×Obj)} {σ:St} {H:Hp} {s:Shared} (I:Inv X (pins++pl) σ H s):Inv X pins σ H s:=I.pins_of fun p hp=>I.pin p (List.mem_append_right _ (List.mem_append_left _ hp))
theorem ps_for {iter:Expr} {body:List Stmt} {wi:TI} {g:TG} {tb:TS} {pos:Pos} (hp:PassesOwn (model X.prog X.w) X.A X.env X.xe) (hc:X.calm=true) (hi:PI X tg iter wi) (hg:PG X tg g) (hb:PSs X body tb)
    (hs:∀ x,foldedSetIterable iter X.env x=pure x:=by intro _; rfl):PS X (.For tg iter body [] pos) (tFor wi g tb):=by
  intro pins s σ H D I h
  refine wpAny_For (thn (hi pins s σ H _ I h) fun v s1 h1=>thn h1 fun itv s2 h2=>?_) hs
  obtain ⟨it,fp,tn,J,H2,e,I2,T,st2,f2,W,⟨m0,w0⟩,turn⟩:=h2
  subst e
  have stat:∀ {H':Hp},(∀ b∈fp,H' b=none)→∀ b∈fp,FpOk X pins H' b:=fun hn b hb=>⟨hn b hb,(f2 b hb).2⟩
  refine codeAny_forLoop_any (fun n s'=>∃ i σ' H',Inv X pins σ' H' s'∧tn i s'.heap∧(∀ b∈fp,H' b=none)∧W i n σ' H') ?_ m0 ⟨0,σ,H2,I2,st2,fun b hb=>(f2 b hb).1,w0⟩
  rintro n s3 ⟨i,σ3,H3,I3,st3,fr3,w3⟩
  rcases turn i n σ3 H3 w3 with ⟨stop,qn⟩ | ⟨go,N,hN,step⟩
  · refine wpAny_passesOwn hp (thn (T.done X rfl rfl rfl hc i pins s3 σ3 H3 X.xe I3 (stat fr3) st3 stop) fun r s4 ⟨hr,I4⟩=>?_)
    subst hr
    exact wpAny_execs_nil ⟨σ3,H3,I4,qn⟩
  · refine wpAny_passesOwn hp (thn (T.item X rfl rfl rfl hc i pins s3 σ3 H3 X.xe I3 (stat fr3) st3 go) fun r s4 ⟨u,hr,h4⟩=>?_)
    subst hr
    refine wpAny_passesOwn hp (thn h4 fun _ s5 ⟨x,H5,I5,r5,y5,st5,fr5⟩=>?_)
    have I5':=I5.pinned (stat fr5) (T.obj _ _ st5)
    refine wpAny_passesOwn hp (thn (hg _ s5 σ3 H5 x u _ I5' r5 (step x H5 y5)) fun _ s6 ⟨σ6,H6,I6,q6⟩=>?_)
    refine wpAny_passesOwn hp (thn (hb _ s6 σ6 H6 _ I6 q6) fun f s7 q7=>?_)
    have again:∀ {σ7:St} {H7:Hp},Inv X (pins++pinsAt fp s5.heap) σ7 H7 s7→N σ7 H7→∃ m,m < n∧∃ i σ' H',Inv X pins σ' H' s7∧tn i s7.heap∧(∀ b∈fp,H' b=none)∧W i m σ' H':=fun {σ7 H7} I7 n7=>by
      obtain ⟨m',hm,w7⟩:=hN σ7 H7 n7
      refine ⟨m',hm,i+1,σ7,H7,I7.unpinned,T.keep _ _ _ st5 fun b hb o e=>(I7.pin (b,o) (List.mem_append_right _ (List.mem_append_right _ (mem_pinsAt hb e)))).1,fun b hb=>?_,w7⟩
      obtain ⟨o,e,d⟩:=T.obj _ _ st5 b hb
      exact (I7.pin (b,o) (List.mem_append_right _ (List.mem_append_right _ (mem_pinsAt hb e)))).2.1
    cases f with
    | next=>obtain ⟨σ7,H7,I7,n7⟩:=q7; exact again I7 n7
    | cont=>obtain ⟨σ7,H7,I7,n7⟩:=q7; exact again I7 n7
    | brk=>obtain ⟨σ7,H7,I7,q7⟩:=q7; exact ⟨σ7,H7,I7.unpinned,q7⟩
    | ret v=>obtain ⟨x7,σ7,H7,I7,r7,q7⟩:=q7; exact ⟨x7,σ7,H7,I7.unpinned,r7,q7⟩
end
end L2
namespace L2
open PySem PySem.Spec PyProof.Rows
abbrev R2:=V→V→Hp→VK→Prop
def OpR (X:Cx) (f:Value→Value→Sem Value) (r:R2):Prop :=
  ∀ (pins:List (Addr×Obj)) (s:Shared) (σ:St) (H:Hp) (x y:V) (v u:Value) (Q:VK),Inv X pins σ H s→RelV x v→RelV y u→r x y H Q →
    wpAny (model X.prog X.w) X.A (f v u) (EP X pins σ Q) X.xe s
def UnR (X:Cx) (f:Value→Sem Value) (r:V→Hp→VK→Prop):Prop :=
  ∀ (pins:List (Addr×Obj)) (s:Shared) (σ:St) (H:Hp) (x:V) (v:Value) (Q:VK),Inv X pins σ H s→RelV x v→r x H Q →
    wpAny (model X.prog X.w) X.A (f v) (EP X pins σ Q) X.xe s
def CallR (X:Cx) (f:Value) (r:List V→Hp→VK→Prop):Prop :=
  ∀ (pins:List (Addr×Obj)) (s:Shared) (σ:St) (H:Hp) (xs:List V) (us:List Value) (Q:VK),Inv X pins σ H s→Vals xs us→r xs H Q →
    wpAny (model X.prog X.w) X.A (call f us) (EP X pins σ Q) X.xe s
def TruR (X:Cx) (r:V→Hp→(Bool→Hp→Prop)→Prop):Prop :=
  ∀ (pins:List (Addr×Obj)) (s:Shared) (σ:St) (H:Hp) (x:V) (v:Value) (Q:Bool→Hp→Prop),Inv X pins σ H s→RelV x v→r x H Q →
    wpAny (model X.prog X.w) X.A (truthy v) (TP X pins σ Q) X.xe s
def tOp (r:R2) (ta tb:TE):TE:=fun σ H Q=>ta σ H fun x H1=>tb σ H1 fun y H2=>r x y H2 Q
def tUn (r:V→Hp→VK→Prop) (ta:TE):TE:=fun σ H Q=>ta σ H fun x H1=>r x H1 Q
def rI (C:Int→Int→Prop) (g:Int→Int→V):R2:=fun x y H Q=>∃ i j,x=.int i∧y=.int j∧C i j∧Q (g i j) H
def rI0 (g:Int→Int→V):R2:=fun x y H Q=>∃ i j,x=.int i∧y=.int j∧Q (g i j) H
def rU (g:Int→V):V→Hp→VK→Prop:=fun x H Q=>∃ i,x=.int i∧Q (g i) H
section
variable {X:Cx} {a b c:Expr} {ta tb tc:TE} {pos:Pos}
theorem binT (ha:PE X a ta) (hb:PE X b tb) {pins:List (Addr×Obj)} {s:Shared} {σ:St} {H:Hp} {R:V→V→Hp→Prop} (I:Inv X pins σ H s)
    (h:ta σ H fun x H1=>tb σ H1 fun y H2=>R x y H2) {Q:Value→Shared→Prop} {f:Value→Value→Sem Value}
    (hf:∀ v u s2 x y H2,Inv X pins σ H2 s2→RelV x v→RelV y u→R x y H2→wpAny (model X.prog X.w) X.A (f v u) Q X.xe s2) :
    wpAny (model X.prog X.w) X.A (eval a X.env) (fun v s₁=>wpAny (model X.prog X.w) X.A (eval b X.env) (fun u s₂=>wpAny (model X.prog X.w) X.A (f v u) Q X.xe s₂) X.xe s₁) X.xe s:=by
  refine thn (ha pins s σ H _ I h) fun v s1 ⟨x,H1,I1,r1,q1⟩=>?_
  refine thn (hb pins s1 σ H1 _ I1 q1) fun u s2 ⟨y,H2,I2,r2,q2⟩=>?_
  exact hf v u s2 x y H2 I2 r1 r2 q2
theorem pe_op {op:Operator} {r:R2} (ho:OpR X (binaryOp op) r) (ha:PE X a ta) (hb:PE X b tb):PE X (.BinOp a op b pos) (tOp r ta tb):=by
  intro pins s σ H Q I h
  exact wpAny_BinOp (binT ha hb I h fun v u s2 x y H2 I2 rx ry q=>ho pins s2 σ H2 x y v u Q I2 rx ry q)
theorem pe_un {op:UnaryOp} {r:V→Hp→VK→Prop} (ho:UnR X (unaryOp op) r) (ha:PE X a ta):PE X (.UnaryOp op a pos) (tUn r ta):=by
  intro pins s σ H Q I h
  exact UnaryOp_ (thn (ha pins s σ H _ I h) fun v s1 ⟨x,H1,I1,r1,q1⟩=>ho pins s1 σ H1 x v Q I1 r1 q1)
theorem opI {f:Value→Value→Sem Value} {C:Int→Int→Prop} {g:Int→Int→Int}
    (rule:∀ (i j:Int) (t u:Tok) (s:Shared) (Q:Value→Shared→Prop) (E:Value→Shared→Prop),C i j→Q (.int (g i j) s.toks) { s with toks:=s.toks+1 }→wpAny (model X.prog X.w) X.A (f (.int i t) (.int j u)) Q E s) :
    OpR X f (rI C fun i j=>.int (g i j)):=by
  intro pins s σ H x y v u Q I rx ry h
  obtain ⟨i,j,rfl,rfl,hc,q⟩:=h
  obtain ⟨t,rfl⟩:=rx
  obtain ⟨t',rfl⟩:=ry
  exact rule i j t t' s _ _ hc ⟨.int (g i j),H,I.tok _,⟨_,rfl⟩,q⟩
theorem opI0 {f:Value→Value→Sem Value} {g:Int→Int→Int}
    (rule:∀ (i j:Int) (t u:Tok) (s:Shared) (Q:Value→Shared→Prop) (E:Value→Shared→Prop),Q (.int (g i j) s.toks) { s with toks:=s.toks+1 }→wpAny (model X.prog X.w) X.A (f (.int i t) (.int j u)) Q E s) :
    OpR X f (rI0 fun i j=>.int (g i j)):=by
  intro pins s σ H x y v u Q I rx ry h
  obtain ⟨i,j,rfl,rfl,q⟩:=h
  obtain ⟨t,rfl⟩:=rx
  obtain ⟨t',rfl⟩:=ry
  exact rule i j t t' s _ _ ⟨.int (g i j),H,I.tok _,⟨_,rfl⟩,q⟩
theorem opB0 {f:Value→Value→Sem Value} {g:Int→Int→Bool}
    (rule:∀ (i j:Int) (t u:Tok) (s:Shared) (Q:Value→Shared→Prop) (E:Value→Shared→Prop),Q (.bool (g i j)) s→wpAny (model X.prog X.w) X.A (f (.int i t) (.int j u)) Q E s) :
    OpR X f (rI0 fun i j=>.bl (g i j)):=by
  intro pins s σ H x y v u Q I rx ry h
  obtain ⟨i,j,rfl,rfl,q⟩:=h
  obtain ⟨t,rfl⟩:=rx
  obtain ⟨t',rfl⟩:=ry
  exact rule i j t t' s _ _ ⟨.bl (g i j),H,I,rfl,q⟩
def CDiv (i j:Int):Prop:=0 < j∧j < 1073741824
def CMul (i j:Int):Prop:=(-(2 ^ 64) < i∧i < 2 ^ 64)∨(-(2 ^ 64) < j∧j < 2 ^ 64)
theorem CMul.ok {i j:Int} (h:CMul i j):IntMulOk i j:=by
  rcases h with ⟨h1,h2⟩ | ⟨h1,h2⟩
  · exact .of_left (intBits_le_64 h1 h2)
  · exact .of_right (intBits_le_64 h1 h2)
theorem op_add:OpR X (binaryOp .Add) (rI0 fun i j=>.int (i+j)):=opI0 fun _ _ _ _ _ _ _ q=>add_int q
theorem op_sub:OpR X (binaryOp .Sub) (rI0 fun i j=>.int (i - j)):=opI0 fun _ _ _ _ _ _ _ q=>sub_int q
theorem op_mul:OpR X (binaryOp .Mult) (rI CMul fun i j=>.int (i*j)):=opI fun _ _ _ _ _ _ _ hc q=>mul_int q hc.ok
theorem op_fdiv:OpR X (binaryOp .FloorDiv) (rI CDiv fun i j=>.int (i / j)):=opI fun i j _ _ _ _ _ hc q=>by
  have h1:(0:Int) < j:=hc.1
  have h2:j < 1073741824:=hc.2
  exact floordiv_int (by omega) (by rw [Int.fdiv_eq_ediv_of_nonneg i (by omega)]; exact q) (.inl (PyProof.noPylong_small (by omega)))
theorem op_mod:OpR X (binaryOp .Mod) (rI (fun _ j=>0 < j) fun i j=>.int (i % j)):=opI fun i j _ _ _ _ _ hc q=>by
  have h1:(0:Int) < j:=hc
  exact mod_int' (by omega) (by rw [Int.fmod_eq_emod_of_nonneg i (by omega)]; exact q)
theorem unI {f:Value→Sem Value} {g:Int→Int}
    (rule:∀ (i:Int) (t:Tok) (s:Shared) (Q:Value→Shared→Prop) (E:Value→Shared→Prop),Q (.int (g i) s.toks) { s with toks:=s.toks+1 }→wpAny (model X.prog X.w) X.A (f (.int i t)) Q E s) :
    UnR X f (rU fun i=>.int (g i)):=by
  intro pins s σ H x v Q I rx h
  obtain ⟨i,rfl,q⟩:=h
  obtain ⟨t,rfl⟩:=rx
  exact rule i t s _ _ ⟨.int (g i),H,I.tok _,⟨_,rfl⟩,q⟩
theorem un_neg:UnR X (unaryOp .USub) (rU fun i=>.int (-i)):=unI fun _ _ _ _ _ q=>neg_int q
end
def scal:V→V→Bool
  | .non,.non=>true | .non,.int _=>true | .int _,.non=>true | .non,.bl _=>true | .bl _,.non=>true | .non,.str _=>true | .str _,.non=>true
  | .int _,.int _=>true | .bl _,.bl _=>true | .str _,.str _=>true | .byt _,.byt _=>true
  | .int _,.str _=>true | .str _,.int _=>true | .bl _,.str _=>true | .str _,.bl _=>true
  | _,_=>false
def rNe:R2:=fun x y H Q=>scal x y=true∧Q (.bl (!decide (x=y))) H
theorem dec_int {i j:Int}:decide (V.int i=V.int j)=(i==j):=by
  rw [Bool.eq_iff_iff]
  simp
theorem dec_bl {i j:Bool}:decide (V.bl i=V.bl j)=(i==j):=by
  rw [Bool.eq_iff_iff]
  simp
theorem dec_str {i j:Str}:decide (V.str i=V.str j)=(i==j):=by
  rw [Bool.eq_iff_iff]
  simp
theorem dec_byt {i j:Array UInt8}:decide (V.byt i=V.byt j)=(i.toList==j.toList):=by
  rw [Bool.eq_iff_iff]
  cases i
  cases j
  simp
section
variable {X:Cx} {a b c:Expr} {ta tb tc:TE} {pos:Pos}
theorem fin_bl {pins:List (Addr×Obj)} {σ:St} {H:Hp} {s:Shared} {Q:VK} {k k':Bool} (I:Inv X pins σ H s) (q:Q (.bl k) H) (e:k=k'):EP X pins σ Q (.bool k') s:=by
  subst e
  exact ⟨.bl k,H,I,rfl,q⟩
theorem op_ne:OpR X (compareOp .NotEq) rNe:=by
  intro pins s σ H x y v u Q I rx ry h
  obtain ⟨hs,q⟩:=h
  cases x with
  | non =>
    cases rx
    cases y with
    | non=>cases ry; exact PySem.EqNone.ne_none_none (fin_bl I q (by simp))
    | bl j=>cases ry; exact PySem.EqNone.ne_none_bool (fin_bl I q (by simp))
    | int j=>obtain ⟨t',rfl⟩:=ry; exact PySem.EqNone.ne_none_int (fin_bl I q (by simp))
    | str j=>obtain ⟨t',rfl⟩:=ry; exact PySem.EqNone.ne_none_str (fin_bl I q (by simp))
    | _=>exact absurd (show false=true from hs) Bool.false_ne_true
  | bl i =>
    cases rx
    cases y with
    | non=>cases ry; exact PySem.EqNone.ne_bool_none (fin_bl I q (by simp))
    | bl j=>cases ry; exact ne_bool (fin_bl I q (congrArg not dec_bl))
    | str j=>obtain ⟨t',rfl⟩:=ry; exact PySem.EqMixed.ne_bool_str (fin_bl I q (by simp))
    | _=>exact absurd (show false=true from hs) Bool.false_ne_true
  | int i =>
    obtain ⟨t,rfl⟩:=rx
    cases y with
    | non=>cases ry; exact PySem.EqNone.ne_int_none (fin_bl I q (by simp))
    | int j=>obtain ⟨t',rfl⟩:=ry; exact ne_int (fin_bl I q (congrArg not dec_int))
    | str j=>obtain ⟨t',rfl⟩:=ry; exact PySem.EqMixed.ne_int_str (fin_bl I q (by simp))
    | _=>exact absurd (show false=true from hs) Bool.false_ne_true
  | str i =>
    obtain ⟨t,rfl⟩:=rx
    cases y with
    | non=>cases ry; exact PySem.EqNone.ne_str_none (fin_bl I q (by simp))
    | bl j=>cases ry; exact PySem.EqMixed.ne_str_bool (fin_bl I q (by simp))
    | int j=>obtain ⟨t',rfl⟩:=ry; exact PySem.EqMixed.ne_str_int (fin_bl I q (by simp))
    | str j=>obtain ⟨t',rfl⟩:=ry; exact ne_str (fin_bl I q (congrArg not dec_str))
    | _=>exact absurd (show false=true from hs) Bool.false_ne_true
  | byt i =>
    obtain ⟨t,rfl⟩:=rx
    cases y with
    | byt j=>obtain ⟨t',rfl⟩:=ry; exact PySem.W.ne_bytes (fin_bl I q (congrArg not dec_byt))
    | _=>exact absurd (show false=true from hs) Bool.false_ne_true
  | _=>cases y <;> exact absurd (show false=true from hs) Bool.false_ne_true
theorem op_lt:OpR X (compareOp .Lt) (rI0 fun i j=>.bl (decide (i < j))):=opB0 fun _ _ _ _ _ _ _ q=>lt_int q
theorem op_le:OpR X (compareOp .LtE) (rI0 fun i j=>.bl (decide (i≤j))):=opB0 fun _ _ _ _ _ _ _ q=>le_int q
theorem op_gt:OpR X (compareOp .Gt) (rI0 fun i j=>.bl (decide (j < i))):=opB0 fun _ _ _ _ _ _ _ q=>gt_int q
theorem op_ge:OpR X (compareOp .GtE) (rI0 fun i j=>.bl (decide (j≤i))):=opB0 fun _ _ _ _ _ _ _ q=>ge_int q
theorem op_in_str:OpR X (compareOp .In) (fun x y H Q=>∃ i j,x=.str i∧y=.str j∧Q (.bl (!(Builtin.Str.occurrences j i 0 j.length 1).isEmpty)) H):=by
  intro pins s σ H x y v u Q I rx ry h
  obtain ⟨i,j,rfl,rfl,q⟩:=h
  obtain ⟨t,rfl⟩:=rx
  obtain ⟨t',rfl⟩:=ry
  exact in_str (fin_bl I q rfl)
theorem op_notN:OpR X (compareOp .IsNot) (fun x y H Q=>y=.non∧Q (.bl (!decide (x=.non))) H):=by
  intro pins s σ H x y v u Q I rx ry h
  obtain ⟨rfl,q⟩:=h
  cases ry
  refine isnot_none_gen (fin_bl I q ?_)
  cases x <;> first
    | (cases rx; rfl)
    | (obtain ⟨t,rfl⟩:=rx; rfl)
theorem OpR.or {f:Value→Value→Sem Value} {r r':R2} (h:OpR X f r) (h':OpR X f r'):OpR X f (fun x y H Q=>r x y H Q∨r' x y H Q):=by
  intro pins s σ H x y v u Q I rx ry q
  rcases q with q | q
  · exact h pins s σ H x y v u Q I rx ry q
  · exact h' pins s σ H x y v u Q I rx ry q
theorem nomark (b:Expr) {op:CmpOp} (h:op≠.In:=by decide) (h2:op≠.NotIn:=by decide):behindInMarks op b=false:=by
  have e1:(op==CmpOp.In)=false:=by cases op <;> first | rfl | exact absurd rfl h
  have e2:(op==CmpOp.NotIn)=false:=by cases op <;> first | rfl | exact absurd rfl h2
  cases b <;> simp [behindInMarks,e1,e2]
theorem pe_cmpR {op:CmpOp} {r:R2} (ho:OpR X (compareOp op) r) (ha:PE X a ta) (hb:PE X b tb) (hm:behindInMarks op b=false):PE X (.Compare a [op] [b] pos) (tOp r ta tb):=by
  intro pins s σ H Q I h
  exact wpAny_Compare1 (binT ha hb I h fun v u s2 x y H2 I2 rx ry q=>ho pins s2 σ H2 x y v u Q I2 rx ry q) hm
def tTest (t:TE):TT:=fun σ H Q=>t σ H fun x H'=>∃ k,x=.bl k∧Q k H'
theorem pt_cmpR {op:CmpOp} {r:R2} (ho:OpR X (compareOp op) r) (ha:PE X a ta) (hb:PE X b tb) (hm:behindInMarks op b=false):PT X (.Compare a [op] [b] pos) (tTest (tOp r ta tb)):=by
  intro pins s σ H Q I h
  refine wpAny_isTrue_Compare1 (thn (ha pins s σ H _ I h) fun v s1 ⟨x,H1,I1,r1,q1⟩=>thn (hb pins s1 σ H1 _ I1 q1) fun u s2 ⟨y,H2,I2,r2,q2⟩ =>
    thn (ho pins s2 σ H2 x y v u _ I2 r1 r2 q2) fun c s3 ⟨z,H3,I3,r3,k,e,q3⟩=>?_) hm
  subst e
  cases r3
  exact wpAny_truthy_bool ⟨H3,I3,q3⟩
def tChain (r r':R2) (ta tb tc:TE):TE:=fun σ H Q=>ta σ H fun x H1=>tb σ H1 fun y H2=>r x y H2 fun z H3=>∃ k,z=.bl k ∧
  (if k=true then tc σ H3 fun w' H4=>r' y w' H4 Q else Q (.bl false) H3)
theorem pt_chain {op op':CmpOp} {r r':R2} (ho:OpR X (compareOp op) r) (ho':OpR X (compareOp op') r') (ha:PE X a ta) (hb:PE X b tb) (hc:PE X c tc)
    (hm:lastMarks [op,op'] [b,c]=false:=by with_unfolding_all rfl):PT X (.Compare a [op,op'] [b,c] pos) (tTest (tChain r r' ta tb tc)):=by
  intro pins s σ H Q I h
  refine isTrue_chain (thn (ha pins s σ H _ I h) fun v s1 ⟨x,H1,I1,r1,q1⟩=>test_link (thn (hb pins s1 σ H1 _ I1 q1) fun u s2 ⟨y,H2,I2,r2,q2⟩ =>
    thn (ho pins s2 σ H2 x y v u _ I2 r1 r2 q2) fun d s3 ⟨z,H3,I3,r3,k,e,q3⟩=>?_)) hm
  subst e
  cases r3
  refine wpAny_truthy_bool ?_
  cases k with
  | false =>
    obtain ⟨k',e',q'⟩:=q3
    cases e'
    exact ite_ff ⟨H3,I3,q'⟩
  | true =>
    refine ite_tt (test_last (thn (hc pins s3 σ H3 _ I3 q3) fun w' s4 ⟨z',H4,I4,r4,q4⟩=>thn (ho' pins s4 σ H4 y z' u w' _ I4 r2 r4 q4) fun d' s5 ⟨z2,H5,I5,r5,k2,e2,q5⟩=>?_))
    subst e2
    cases r5
    exact wpAny_truthy_bool ⟨H5,I5,q5⟩
def TruV (K:PySem.W.Frag) (x:V) (H:Hp) (k:Bool):Prop :=
  match x with
  | .non=>k=false
  | .bl b=>k=b
  | .int i=>k=(i != 0)
  | .str y=>y.length≤sizeLine∧k=((y.length:Int) != 0)
  | .byt y=>y.size≤sizeLine∧k=((y.size:Int) != 0)
  | .ref p=>(∃ xs,SqL K H p xs∧k=!xs.isEmpty)∨(∃ xs,SqT K H p xs∧k=!xs.isEmpty)∨∃ kvs,H p=some (.dK kvs)∧k=!kvs.isEmpty
  | _=>False
theorem isEmpty_kv {κ:Type} {kvs:List (κ×V)} {vs:List (κ×Value)} (r:KV kvs vs):(!vs.isEmpty)=!kvs.isEmpty:=by
  cases r <;> rfl
theorem isEmpty_of {xs:List V} {its:List Value} (r:Vals xs its):(!its.toArray.isEmpty)=!xs.isEmpty:=by
  cases r <;> simp
theorem line63:(sizeLine:Nat) < 2 ^ 63:=by rw [sizeLine_eq]; decide
theorem tru_ok:TruR X (fun x H Q=>∃ k,TruV X.K x H k∧Q k H):=by
  intro pins s σ H x v Q I rx h
  obtain ⟨k,e,q⟩:=h
  have hl:=line63
  have hs:sizeLine=16777216:=sizeLine_eq
  cases x with
  | non =>
    cases rx
    have e':k=false:=e
    subst e'
    exact truthy_none ⟨H,I,q⟩
  | bl b =>
    cases rx
    have e':k=b:=e
    subst e'
    exact wpAny_truthy_bool ⟨H,I,q⟩
  | int i =>
    obtain ⟨t,rfl⟩:=rx
    have e':k=(i != 0):=e
    subst e'
    exact PySem.P.truthy_int ⟨H,I,q⟩
  | str y =>
    obtain ⟨t,rfl⟩:=rx
    obtain ⟨hy,e'⟩:y.length≤sizeLine∧k=((y.length:Int) != 0):=e
    subst e'
    exact PySem.P.truthy_str (by omega) ⟨H,I.tok _,q⟩
  | byt y =>
    obtain ⟨t,rfl⟩:=rx
    obtain ⟨hy,e'⟩:y.size≤sizeLine∧k=((y.size:Int) != 0):=e
    subst e'
    exact PySem.W.truthy_bytes (by omega) ⟨H,I.tok _,q⟩
  | ref p =>
    cases rx
    have e':(∃ xs,SqL X.K H p xs∧k=!xs.isEmpty)∨(∃ xs,SqT X.K H p xs∧k=!xs.isEmpty)∨∃ kvs,H p=some (.dK kvs)∧k=!kvs.isEmpty:=e
    rcases e' with ⟨xs,hx,e'⟩ | ⟨xs,hx,e'⟩ | ⟨kvs,hx,e'⟩
    · subst e'
      obtain ⟨its,r,pl,hz⟩:=I.list hx
      have hlen:=r.length
      exact wpAny_truthy_list pl.isList (by simp only [List.size_toArray]; omega) ⟨H,I.tok _,by rw [isEmpty_of r]; exact q⟩
    · subst e'
      obtain ⟨its,r,pl,hz⟩:=I.tuple hx
      have hlen:=r.length
      exact truthy_tuple pl (by simp only [List.size_toArray]; omega) ⟨H,I.tok _,by rw [isEmpty_of r]; exact q⟩
    · subst e'
      obtain ⟨hz,hS,vs,r,m⟩:kvs.length≤sizeLine∧(p==sysModules)=false∧∃ vs,KV kvs vs∧s.heap.DictOf (mixKind X.prog X.w) p vs:=I.hok p _ hx
      have hlen:kvs.length=vs.length:=Paired.length r
      exact wpAny_truthy_dict hS m (by omega) ⟨H,I.tok _,by rw [isEmpty_kv r]; exact q⟩
  | _=>exact (show False from e).elim
theorem pt_truth (ha:PE X a ta) (he:∀ whole,isTrue a X.env whole=(do let v ← whole; standAt a.pos; holding [v] (truthy v))) :
    PT X a (fun σ H Q=>ta σ H fun x H'=>∃ k,TruV X.K x H' k∧Q k H'):=by
  intro pins s σ H Q I h
  exact isTrue_plain (thn (ha pins s σ H _ I h) fun v s1 ⟨x,H1,I1,r1,q1⟩=>tru_ok pins s1 σ H1 x v Q I1 r1 q1) (he _)
theorem op_add_str:OpR X (binaryOp .Add) (fun x y H Q=>∃ i j,x=.str i∧y=.str j∧i.length+j.length≤sizeLine∧Q (.str (i++j)) H):=by
  intro pins s σ H x y v u Q I rx ry h
  obtain ⟨i,j,rfl,rfl,hz,q⟩:=h
  obtain ⟨t,rfl⟩:=rx
  obtain ⟨t',rfl⟩:=ry
  exact add_str (fun t' tk=>⟨.str (i++j),H,I.tok _,⟨_,rfl⟩,q⟩) hz
theorem vals1 {x:V} {us:List Value} (r:Vals [x] us):∃ u,us=[u]∧RelV x u:=by
  cases r with
  | cons r1 r2=>cases r2; exact ⟨_,rfl,r1⟩
theorem vals2 {x y:V} {us:List Value} (r:Vals [x,y] us):∃ u w',us=[u,w']∧RelV x u∧RelV y w':=by
  cases r with
  | cons r1 r2 =>
    cases r2 with
    | cons r3 r4=>cases r4; exact ⟨_,_,rfl,r1,r3⟩
theorem call_max2 (hc:X.calm=true):CallR X (.builtin "max") (fun xs H Q=>∃ i j,xs=[.int i,.int j]∧Q (.int (if j > i then j else i)) H):=by
  intro pins s σ H xs us Q I r h
  obtain ⟨i,j,rfl,q⟩:=h
  obtain ⟨u,w',rfl,⟨t,rfl⟩,⟨t',rfl⟩⟩:=vals2 r
  refine max_two_ints (I.ok.hd hc) fun h' tk k=>⟨_,H,I.kept k,?_,q⟩
  by_cases hj:j > i
  · rw [if_pos hj,if_pos hj]; exact ⟨_,rfl⟩
  · rw [if_neg hj,if_neg hj]; exact ⟨_,rfl⟩
theorem call_min2 (hc:X.calm=true):CallR X (.builtin "min") (fun xs H Q=>∃ i j,xs=[.int i,.int j]∧Q (.int (if j < i then j else i)) H):=by
  intro pins s σ H xs us Q I r h
  obtain ⟨i,j,rfl,q⟩:=h
  obtain ⟨u,w',rfl,⟨t,rfl⟩,⟨t',rfl⟩⟩:=vals2 r
  refine min_two_ints (I.ok.hd hc) fun h' tk k=>⟨_,H,I.kept k,?_,q⟩
  by_cases hj:j < i
  · rw [if_pos hj,if_pos hj]; exact ⟨_,rfl⟩
  · rw [if_neg hj,if_neg hj]; exact ⟨_,rfl⟩
end
end L2
namespace L2
open PySem PySem.Spec PyProof.Rows
structure ObjM (h:Heap) (x dx C:Addr) (mA:Str→Option Value):Prop where
  obj:h.get? x=some (PySem.W.instObj C dx)
  ns:h.Ns1 dx mA
  ne:dx≠x
theorem lookIn_ns {h:Heap} {dx:Addr} {mA:Str→Option Value} (n:h.Ns1 dx mA):∃ od,h.get? dx=some od∧∀ name,PySem.W.lookIn name od=some (mA name):=by
  obtain ⟨o,es,ep,ho,hd,hk,_,hm⟩:=n
  refine ⟨o,ho,fun name=>?_⟩
  have e:=hm name
  unfold nsFind findBy at e
  rw [← Array.find?_toList] at e
  unfold PySem.W.lookIn
  rw [hd]
  dsimp only
  split
  · rename_i y q
    rw [q] at e
    exact congrArg some e
  · rename_i q
    rw [q] at e
    have a:es.toList.any (·.refKey)=false:=by
      rw [List.any_eq_false]
      intro y hy
      obtain ⟨z,t,hkey⟩:=hk y (Array.mem_toList_iff.mp hy)
      simp [DictEntry.refKey,hkey]
    have a':¬ es.toList.any (·.refKey)=true:=by rw [a]; exact Bool.false_ne_true
    rw [if_neg a']
    exact congrArg some e
theorem ObjM.look {h:Heap} {x dx C:Addr} {mA:Str→Option Value} (I:ObjM h x dx C mA):∃ od,PySem.W.InstAt h x (PySem.W.instObj C dx) C (some od)∧∀ name,PySem.W.lookIn name od=some (mA name) :=
  let ⟨od,ho,hl⟩:=lookIn_ns I.ns
  ⟨od,⟨I.obj,rfl,rfl,ho⟩,hl⟩
section
variable {prog:Program} {w:World} {A:Around} {E:Value→Shared→Prop} {s:Shared} {K:PySem.W.Frag} {x dx C f:Addr} {mA:Str→Option Value} {name:Str} {v:Value}
theorem get_map {expr:Bool} {Q:Value→Shared→Prop} (X:K.In s.heap) (I:ObjM s.heap x dx C mA) (hg:PySem.W.plainGet K C name=true) (hh:PySem.W.hasDictIn K C=true)
    (ha:PySem.W.findIn K (.ref C) name=some none) (hv:mA name=some v) (hv':PySem.W.handedIn v=true) (h:Q v { s with toks:=s.toks+1 }) :
    wpAny (model prog w) A (getAttr (.ref x) name expr) Q E s:=by
  obtain ⟨od,J,hl⟩:=I.look
  exact PySem.W.get_value X J (PySem.W.plainGet_of hg).1 (PySem.W.findObj_own hh ha rfl (by rw [hl,hv])) hv' h
theorem get_meth {pl:Sem Bool} {Q:Value×List Value→Shared→Prop} (X:K.In s.heap) (I:ObjM s.heap x dx C mA) (hg:PySem.W.plainGet K C name=true)
    (hf:PySem.W.findIn K (.ref C) name=some (some (.ref f))) (ht:PySem.W.isFn K (.ref f)=true) (hv:mA name=none) (h:Q (.ref f,[.ref x]) s) :
    wpAny (model prog w) A (getMethod (.ref x) name pl) Q E s:=by
  obtain ⟨od,J,hl⟩:=I.look
  exact PySem.W.method_fn X J (PySem.W.plainGet_of hg).1 (PySem.W.plainGet_of hg).2 hf (beq_iff_eq.mp ht) (by show (PySem.W.lookIn name od).map (·.isSome)=some false; rw [hl,hv]; rfl) h
theorem set_map {ns:List Str} {Q:Unit→Shared→Prop} (X:K.In s.heap) (I:ObjM s.heap x dx C mA)
    (hs:PySem.W.findIn K (.ref C) "__setattr__" = some (some (.builtin "object.__setattr__"))) (hp:PySem.W.plainOver K C=true) (ht:PySem.W.takerIn K C name=some none) (hh:PySem.W.hasDictIn K C=true)
    (hw:PySem.Within mA ns) (hsz:ns.length≤sizeLine)
    (h:∀ h',ObjM h' x dx C (fun y=>if y=name then some v else mA y)→Heap.SameBut dx s.heap h'→Q () { s with heap:=h',toks:=s.toks+2 }) :
    wpAny (model prog w) A (setAttr (.ref x) name v) Q E s:=by
  obtain ⟨od,J,hl⟩:=I.look
  refine PySem.W.set_plain X J hs (PySem.W.osa_open (s:={ s with toks:=s.toks+1 }) (r:=none) X J hp ht fun b=>?_)
  obtain ⟨cd,hc,hd'⟩:=PySem.W.any_some hh
  have hx:s.heap.get? x=some ⟨.ref C,some dx,.plain,#[]⟩:=I.obj
  refine wpAny_bind (wpAny_pure (wpAny_bind (wpAny_bind (wpAny_loadPart hx (wpAny_bind (PySem.W.Looks.here (s:={ s with toks:=s.toks+1 }) (PySem.W.looks_clsIn X hc) ?_))))))
  rw [hd']
  refine wpAny_pure (a:=some dx) (wpAny_bind (wpAny_pure (wpAny_bind ?_)))
  refine wpAny_nsSet1 (s:={ s with toks:=s.toks+1 }) I.ns fun h' hn2 hs2=>?_
  obtain ⟨oD,esD,epD,hoD,hdD,hcD⟩:=hn2.count (PySem.Within.cons name v hw)
  refine wpAny_bind (wpAny_lookBehind hoD (by rw [hdD]; exact pastItsLine_dict (Nat.le_trans hcD (by rw [List.length_cons]; omega))) ?_)
  exact wpAny_pure (h _ ⟨(hs2.2 _ (Ne.symm I.ne)).trans I.obj,hn2,I.ne⟩ hs2)
theorem make_map {R:Result→Shared→Prop} {vs:List Value} {kw:List (Str×Value)} (X:K.In s.heap) (hm:PySem.W.makesIn K C=true)
    (hi:PySem.W.findIn K (.ref C) "__init__" = some (some (.ref f))) (hf:PySem.W.typeIn K (.ref f)=some (.type "function"))
    (h:codeAny (model prog w) (A.under (.builtin "type.__call__" ⟨.ref C::vs,kw⟩)) (.call (.ref f) ⟨.ref (s.heap.objs.size+1)::vs,kw⟩) (PySem.W.InitBack (s.heap.objs.size+1) R)
      { s with heap:=(s.heap.push PySem.W.emptyDict).push (PySem.W.instObj C s.heap.objs.size) }) :
    codeAny (model prog w) A (.call (.ref C) ⟨vs,kw⟩) R s:=by
  obtain ⟨hh,g,d,t,os⟩:=s
  exact PySem.W.make_core (PySem.W.makes_of X hm) (PySem.W.looks_findIn X hi) (fun self=>PySem.W.bind_fn X self hf) (.inl rfl) h
end
def putF (f:Str) (v:V):List (Str×V)→List (Str×V)
  | []=>[(f,v)]
  | (g,x)::r=>if g=f then (g,v)::r else (g,x)::putF f v r
theorem lookup_putF (f g:Str) (v:V):∀ fs:List (Str×V),(putF f v fs).lookup g=if g=f then some v else fs.lookup g
  | []=>by
    show List.lookup g [(f,v)]=_
    by_cases h:g=f
    · have hb:(g==f)=true:=beq_iff_eq.mpr h
      simp only [List.lookup,hb,if_pos h]
    · have hb:(g==f)=false:=beq_eq_false_iff_ne.mpr h
      simp only [List.lookup,hb,if_neg h]
  | (k,x)::r=>by
    have ih:=lookup_putF f g v r
    rw [show putF f v ((k,x)::r)=(if k=f then (k,v)::r else (k,x)::putF f v r) from rfl]
    by_cases hk:k=f
    · rw [if_pos hk]
      by_cases h:g=k
      · have hb:(g==k)=true:=beq_iff_eq.mpr h
        simp only [List.lookup,hb,if_pos (h.trans hk)]
      · have hb:(g==k)=false:=beq_eq_false_iff_ne.mpr h
        simp only [List.lookup,hb,if_neg (fun e:g=f=>h (e.trans hk.symm))]
    · rw [if_neg hk]
      by_cases h:g=k
      · have hb:(g==k)=true:=beq_iff_eq.mpr h
        simp only [List.lookup,hb,if_neg (fun e:g=f=>hk (h.symm.trans e))]
      · have hb:(g==k)=false:=beq_eq_false_iff_ne.mpr h
        simp only [List.lookup,hb]
        exact ih
theorem keys_putF (f:Str) (v:V):∀ fs:List (Str×V),f∈(putF f v fs).map (·.1)∧∀ g,g∈fs.map (·.1)→g∈(putF f v fs).map (·.1)
  | []=>⟨by simp [putF],fun g h=>by simp at h⟩
  | (k,x)::r=>by
    obtain ⟨i1,i2⟩:=keys_putF f v r
    rw [show putF f v ((k,x)::r)=(if k=f then (k,v)::r else (k,x)::putF f v r) from rfl]
    by_cases hk:k=f
    · rw [if_pos hk]
      subst hk
      exact ⟨by simp,fun g h=>by simpa using h⟩
    · rw [if_neg hk]
      refine ⟨?_,fun g h=>?_⟩
      · rw [List.map_cons]
        exact List.mem_cons_of_mem _ i1
      · rw [List.map_cons] at h ⊢
        rcases List.mem_cons.mp h with e | e
        · exact List.mem_cons.mpr (.inl e)
        · exact List.mem_cons_of_mem _ (i2 g e)
theorem length_putF (f:Str) (v:V):∀ fs:List (Str×V),(putF f v fs).length≤fs.length+1
  | []=>by simp [putF]
  | (k,x)::r=>by
    have ih:=length_putF f v r
    rw [show putF f v ((k,x)::r)=(if k=f then (k,v)::r else (k,x)::putF f v r) from rfl]
    by_cases hk:k=f
    · rw [if_pos hk,List.length_cons,List.length_cons]; omega
    · rw [if_neg hk,List.length_cons,List.length_cons]; omega
theorem RelO.some_of {v:V} {o:Option Value} (r:RelO (some v) o):∃ u,o=some u∧RelV v u:=by
  cases o with
  | none=>exact (show False from r).elim
  | some u=>exact ⟨u,rfl,r⟩
theorem RelO.none_of {o:Option Value} (r:RelO none o):o=none:=by
  cases o with
  | none=>rfl
  | some u=>exact (show False from r).elim
theorem handed_of {v:V} {u:Value} (r:RelV v u):PySem.W.handedIn u=true:=by
  cases v with
  | non=>cases (show u=Value.none from r); rfl
  | bl b=>cases (show u=Value.bool b from r); rfl
  | int i=>obtain ⟨t,e⟩:=(show ∃ t,u=Value.int i t from r); cases e; rfl
  | str x=>obtain ⟨t,e⟩:=(show ∃ t,u=Value.str x t from r); cases e; rfl
  | byt b=>obtain ⟨t,e⟩:=(show ∃ t,u=Value.bytes b t from r); cases e; rfl
  | flt b=>obtain ⟨t,e⟩:=(show ∃ t,u=Value.float b t from r); cases e; rfl
  | ref a=>cases (show u=Value.ref a from r); rfl
  | ty n=>cases (show u=Value.type n from r); rfl
section
variable {P:Program} {w:World} {H H':Hp} {h h':Heap} {a C dx:Addr} {fs fs':List (Str×V)}
theorem ins_get (hok:HOk P w H h) (e:H a=some (.ins C dx fs)):∃ mA,ObjM h a dx C mA∧(∀ f,RelO (fs.lookup f) (mA f))∧PySem.Within mA (fs.map (·.1))∧fs.length≤1000∧H dx=some (.own a):=by
  obtain ⟨d,z,ne,ob,mA,n,r,q⟩:=(show ObjOk P w H h a (.ins C dx fs) from hok a _ e)
  exact ⟨mA,⟨ob,n,ne⟩,r,q,z,d⟩
end
structure Cls (K:PySem.W.Frag) (C:Addr):Prop where
  pg:PySem.W.plainGet K C Str.empty=true
  hd:PySem.W.hasDictIn K C=true
  po:PySem.W.plainOver K C=true
  sa:PySem.W.findIn K (.ref C) "__setattr__" = some (some (.builtin "object.__setattr__"))
theorem Cls.get {K:PySem.W.Frag} {C:Addr} (c:Cls K C) (f:Str):PySem.W.plainGet K C f=true:=c.pg
def NoAttr (K:PySem.W.Frag) (C:Addr) (f:Str):Prop:=PySem.W.findIn K (.ref C) f=some none
theorem NoAttr.taker {K:PySem.W.Frag} {C:Addr} {f:Str} (n:NoAttr K C f):PySem.W.takerIn K C f=some none:=by
  unfold PySem.W.takerIn
  rw [show PySem.W.findIn K (.ref C) f=some none from n]
  rfl
structure Con (K:PySem.W.Frag) (C:Addr) (f:Str) (v:V) (u:Value):Prop where
  at_:PySem.W.findIn K (.ref C) f=some (some u)
  rel:RelV v u
  get:PySem.W.specialIn K u "__get__" = some none
  cp:PySem.W.copiedNames.contains f=false
structure Meth (K:PySem.W.Frag) (C:Addr) (m:Str) (f:Addr):Prop where
  at_:PySem.W.findIn K (.ref C) m=some (some (.ref f))
  fn:PySem.W.isFn K (.ref f)=true
  kp:PySem.W.keepIn K (.ref f)=true
section
variable {X:Cx} {pins:List (Addr×Obj)} {σ:St} {H:Hp} {s:Shared} {a C dx:Addr} {fs:List (Str×V)} {f:Str} {v:V} {A:Around} {E:Value→Shared→Prop}
theorem getattr_ok {b:Bool} {Q:Value→Shared→Prop} (I:Inv X pins σ H s) (e:H a=some (.ins C dx fs)) (c:Cls X.K C) (n:NoAttr X.K C f) (l:fs.lookup f=some v)
    (h:∀ u s',Inv X pins σ H s'→RelV v u→Q u s'):wpAny (model X.prog X.w) A (getAttr (.ref a) f b) Q E s:=by
  obtain ⟨mA,O,r,_,_,_⟩:=ins_get I.hok e
  obtain ⟨u,hu,ru⟩:=RelO.some_of (v:=v) (o:=mA f) (by rw [← l]; exact r f)
  exact get_map I.kIn O (c.get f) c.hd n hu (handed_of ru) (h u _ (I.tok _) ru)
theorem getmeth_ok {m:Str} {g:Addr} {pl:Sem Bool} {Q:Value×List Value→Shared→Prop} (I:Inv X pins σ H s) (e:H a=some (.ins C dx fs)) (c:Cls X.K C) (k:Meth X.K C m g) (l:fs.lookup m=none)
    (h:Q (.ref g,[.ref a]) s):wpAny (model X.prog X.w) A (getMethod (.ref a) m pl) Q E s:=by
  obtain ⟨mA,O,r,_,_,_⟩:=ins_get I.hok e
  have hn:mA m=none:=RelO.none_of (by rw [← l]; exact r m)
  exact get_meth I.kIn O (c.get m) k.at_ k.fn hn h
theorem setattr_ok {y:V} {u:Value} {Q:Unit→Shared→Prop} (I:Inv X pins σ H s) (e:H a=some (.ins C dx fs)) (c:Cls X.K C) (n:NoAttr X.K C f) (hl:fs.length < 1000) (ry:RelV y u)
    (h:∀ s',Inv X pins σ (upd H a (.ins C dx (putF f y fs))) s'→Q () s'):wpAny (model X.prog X.w) A (setAttr (.ref a) f u) Q E s:=by
  obtain ⟨mA,O,r,wi,_,ho⟩:=ins_get I.hok e
  have hz:(fs.map (·.1)).length≤sizeLine:=by rw [List.length_map,sizeLine_eq]; omega
  refine set_map I.kIn O c.sa c.po n.taker c.hd wi hz fun h' O' sb=>h _ ?_
  have hd:∃ o,h'.get? dx=some o:=let ⟨o,_,_,e',_⟩:=O'.ns; ⟨o,e'⟩
  refine I.write (x:=a) (e:=dx) (by rw [e]; exact True.intro) (.inr ho) (fun b q hb z=>(sb.2 b hb).trans z) hd ?_
  refine ⟨by rw [upd_ne O.ne]; exact ho,?_,O.ne,O'.obj,_,O'.ns,fun g=>?_,fun g hg=>?_⟩
  · have:=length_putF f y fs; omega
  · show RelO ((putF f y fs).lookup g) (if g=f then some u else mA g)
    rw [lookup_putF]
    by_cases q:g=f
    · rw [if_pos q,if_pos q]; exact ry
    · rw [if_neg q,if_neg q]; exact r g
  · by_cases q:g=f
    · rw [q]; exact (keys_putF f y fs).1
    · refine (keys_putF f y fs).2 g (wi g fun z=>hg ?_)
      show (if g=f then some u else mA g)=none
      rw [if_neg q]; exact z
theorem Inv.made (I:Inv X pins σ H s):Inv X pins σ (upd (upd H s.heap.objs.size (.own (s.heap.objs.size+1))) (s.heap.objs.size+1) (.ins C s.heap.objs.size []))
    { s with heap:=(s.heap.push PySem.W.emptyDict).push (PySem.W.instObj C s.heap.objs.size) }:=by
  have e1:(s.heap.push PySem.W.emptyDict).get? s.heap.objs.size=some PySem.W.emptyDict:=Heap.get?_push_size s.heap rfl
  have e2:((s.heap.push PySem.W.emptyDict).push (PySem.W.instObj C s.heap.objs.size)).get? (s.heap.objs.size+1)=some (PySem.W.instObj C s.heap.objs.size):=by
    have:=Heap.get?_push_size (s.heap.push PySem.W.emptyDict) (o:=PySem.W.instObj C s.heap.objs.size) rfl
    rwa [Heap.size_push] at this
  have e3:(s.heap.push PySem.W.emptyDict).Ns s.heap.objs.size (fun _=>none):=⟨PySem.W.emptyDict,#[],_,e1,rfl,(fun e he=>absurd he (by simp)),fun _=>rfl⟩
  have I1:=I.laid (a:=s.heap.objs.size) (o:=.own (s.heap.objs.size+1)) (h':=s.heap.push PySem.W.emptyDict) (t':=s.toks) (fun b u q=>Heap.get?_push_of_some _ q) (Nat.le_refl _) ⟨_,e1⟩
  refine I1.laid (a:=s.heap.objs.size+1) (o:=.ins C s.heap.objs.size []) (t':=s.toks) (fun b u q=>Heap.get?_push_of_some _ q) (Nat.le_of_eq (Heap.size_push _ _)) ?_
  have ne:s.heap.objs.size≠s.heap.objs.size+1:=Nat.ne_of_lt (Nat.lt_succ_self _)
  refine ⟨by rw [upd_ne ne,upd_same],Nat.zero_le _,ne,e2,fun _=>none,(Heap.Ns1.of_empty e3).at fun o q=>Heap.get?_push_of_some _ q,fun _=>True.intro,fun y hy=>absurd rfl hy⟩
theorem attr_of {prog:Program} {w:World} {env:Env} {e:Expr} {f:Str} {pos:Pos} {s:Shared} {Q:Value→Shared→Prop} (hb:attributeBase e f env (eval e env)=eval e env)
    (h:wpAny (model prog w) A (eval e env) (fun o s₁=>wpAny (model prog w) A (getAttr o f true) Q E s₁) E s):wpAny (model prog w) A (eval (.Attribute e f pos) env) Q E s :=
  Attribute_any_ h (by rw [arm_eval_Attribute,hb])
end
def tFld (K:PySem.W.Frag) (ta:TE) (f:Str):TE:=fun σ H Q=>ta σ H fun x H1=>∃ a C dx fs v,x=.ref a∧H1 a=some (.ins C dx fs)∧Cls K C∧NoAttr K C f∧fs.lookup f=some v∧Q v H1
def sFld (K:PySem.W.Frag) (ta tv:TE) (f:Str):TS:=fun D σ H=>tv σ H fun y H1=>ta σ H1 fun x H2=>∃ a C dx fs,x=.ref a∧H2 a=some (.ins C dx fs)∧Cls K C∧NoAttr K C f∧fs.length < 1000 ∧
  D.nx σ (upd H2 a (.ins C dx (putF f y fs)))
section
variable {X:Cx} {o e value:Expr} {f:Str} {pos pos' tpos:Pos} {ta tv:TE}
theorem pe_fld (he:PE X e ta) (hb:attributeBase e f X.env (eval e X.env)=eval e X.env):PE X (.Attribute e f pos) (tFld X.K ta f):=by
  intro pins s σ H Q I h
  refine attr_of hb (thn (he pins s σ H _ I h) fun u s1 ⟨x,H1,I1,rx,a,C,dx,fs,v,ex,ea,c,n,l,q⟩=>?_)
  subst ex
  obtain rfl:u=Value.ref a:=rx
  exact getattr_ok I1 ea c n l fun u' s2 I2 ru=>⟨v,H1,I2,ru,q⟩
theorem ps_fld (ha:PE X o ta) (hv:PE X value tv) (hs:swapsWith value (some (.Attribute o f pos')) pos.line X.env=pure false):PS X (.Assign [.Attribute o f pos'] value pos) (sFld X.K ta tv f):=by
  intro pins s σ H D I h
  refine plainObj_wpAny_Assign_Attribute (thn (hv pins s σ H _ I h) fun u s1 ⟨y,H1,I1,ry,q⟩=>thn (ha pins s1 σ H1 _ I1 q) fun ov s2 ⟨x,H2,I2,rx,a,C,dx,fs,ex,ea,c,n,l,q2⟩=>?_) hs
  subst ex
  obtain rfl:ov=Value.ref a:=rx
  exact setattr_ok I2 ea c n l ry fun s3 I3=>⟨σ,_,I3,q2⟩
end
section
variable {X:Cx} {pins:List (Addr×Obj)} {σ:St} {H:Hp} {s:Shared} {A:Around} {E:Value→Shared→Prop} {Q:Value→Shared→Prop} {c:Value} {b:Bool}
inductive TyOf (K:PySem.W.Frag) (H:Hp):V→Value→Prop where
  | non:TyOf K H .non (.type "NoneType")
  | bl (x:Bool):TyOf K H (.bl x) (.type "bool")
  | int (i:Int):TyOf K H (.int i) (.type "int")
  | str (x:Str):TyOf K H (.str x) (.type "str")
  | flt (x:UInt64):TyOf K H (.flt x) (.type "float")
  | lst {a:Addr} {xs:List V} (e:H a=some (.lst xs)):TyOf K H (.ref a) (.type "list")
  | frz {a:Addr} {o:Obj} {xs:List V} (e:H a=some (.frz o (.lst xs))):TyOf K H (.ref a) (.type "list")
  | tup {a:Addr} {xs:List V} (e:H a=some (.tup xs)):TyOf K H (.ref a) (.type "tuple")
  | dK {a:Addr} {kvs:List (Key×V)} (e:H a=some (.dK kvs)):TyOf K H (.ref a) (.type "dict")
  | dT {a:Addr} {kvs:List (List Key×V)} (e:H a=some (.dT kvs)):TyOf K H (.ref a) (.type "dict")
  | ins {a C dx:Addr} {fs:List (Str×V)} (e:H a=some (.ins C dx fs)) (cl:Cls K C) (ha:PySem.W.findIn K (.ref C) "__class__" = some (some (.builtin "object.__class__")))
      (hn:PySem.W.specialIn K (.builtin "object.__class__") "__get__" = some (some (.builtin "getset_descriptor.__get__"))) (htk:PySem.W.takesIn K (.builtin "object.__class__")=some true)
      (hm:PySem.W.mroIn K C (.type "object")=some true):TyOf K H (.ref a) (.ref C)
end
end L2
namespace L2
open PySem PySem.Spec PyProof.Rows
structure Room (k:Nat) (A:Around):Prop where
  hd:A.handled=none
  dp:A.depth+3*k+5 < recursionLimit
  un:A.units+16*k+200 < cLine
theorem Room.mono {j k:Nat} {A:Around} (r:Room k A) (h:j≤k):Room j A:=⟨r.hd,by have:=r.dp; omega,by have:=r.un; omega⟩
theorem Room.deeper {k:Nat} {A:Around} (r:Room (k+1) A) (env:Env):Room k (A.deeper env) :=
  ⟨r.hd,by have:=r.dp; show A.depth+1+3*k+5 < _; omega,by have:=r.un; show A.units+3+16*k+200 < _; omega⟩
theorem make_depth {A:Around} {C:Addr} {us:List Value} {kw:List (Str×Value)}:(A.under (.builtin "type.__call__" ⟨.ref C::us,kw⟩)).depth=A.depth+1:=by
  first | rfl | simp [Around.under,Code.weight,Code.isCreation,Code.isGuard,Code.isCaller,Code.frames,Code.isFrame,guardIds]
theorem make_units {A:Around} {C:Addr} {us:List Value} {kw:List (Str×Value)}:(A.under (.builtin "type.__call__" ⟨.ref C::us,kw⟩)).units=A.units+1:=by
  first | rfl | simp [Around.under,Code.cUnits,Code.frames,Code.isFrame]
theorem Room.make {k:Nat} {A:Around} (r:Room (k+1) A) (C:Addr) (us:List Value) (kw:List (Str×Value)):Room k (A.under (.builtin "type.__call__" ⟨.ref C::us,kw⟩)) :=
  ⟨r.hd,by have:=r.dp; rw [make_depth]; omega,by have:=r.un; rw [make_units]; omega⟩
theorem Room.depth {k:Nat} {A:Around} (r:Room k A):A.depth < recursionLimit:=by have:=r.dp; omega
theorem Room.units {k:Nat} {A:Around} (r:Room k A):A.units+64 < cLine:=by have:=r.un; omega
def tNil:TA:=fun _ H Q=>Q [] H
def tCons (ta:TE) (tr:TA):TA:=fun σ H Q=>ta σ H fun x H1=>tr σ H1 fun xs H2=>Q (x::xs) H2
section
variable {X:Cx} {e:Expr} {es:List Expr} {te:TE} {t:TA} {pos:Pos}
theorem pa_nil:PA X [] tNil:=fun _ _ _ _ H Q I h=>Calls.spliced_nil ⟨[],H,I,.nil,h⟩
theorem pa_cons (ha:PE X e te) (hr:PA X es t) (hs:starEach (e::es) X.env=(false,eval e X.env)::starEach es X.env:=by rfl):PA X (e::es) (tCons te t):=by
  intro pos pins s σ H Q I h
  rw [hs]
  show wpAny _ _ (spliced ((false,eval e X.env)::backTo pos (starEach es X.env))) _ _ s
  refine Calls.spliced_cons (thn (ha pins s σ H _ I h) fun u s1 ⟨x,H1,I1,r1,q1⟩=>?_)
  exact thn (hr pos pins s1 σ H1 _ I1 q1) fun us s2 ⟨xs,H2,I2,r2,q2⟩=>⟨x::xs,H2,I2,.cons r1 r2,q2⟩
def tTup (t:TA):TE:=fun σ H Q=>t σ H fun xs H1=>xs.length≤sizeLine∧∀ p,H1 p=none→Q (.ref p) (upd H1 p (.tup xs))
def tLst (t:TA):TE:=fun σ H Q=>t σ H fun xs H1=>xs.length≤sizeLine∧∀ p,H1 p=none→Q (.ref p) (upd H1 p (.lst xs))
theorem pe_tup {x1} (h:PA X es t):PE X (.Tuple es x1 pos) (tTup t):=by
  intro pins s σ H Q I hq
  refine wpAny_Tuple_spliced (thn (h pos pins s σ H _ I hq) fun us s1 ⟨xs,H1,I1,r,z,q⟩=>⟨by rw [← r.length]; exact z,?_⟩)
  have hf:H1 s1.heap.objs.size=none:=I1.hok.fresh (Nat.le_refl _)
  refine ⟨.ref s1.heap.objs.size,upd H1 s1.heap.objs.size (.tup xs),I1.laid (t':=s1.toks) (fun b u e=>Heap.get?_push_of_some _ e) (Nat.le_refl _) ?_,rfl,q _ hf⟩
  exact ⟨z,us,r,⟨_,Heap.get?_push_size _ rfl,rfl,_,rfl⟩⟩
theorem pe_lst (h:PA X es t):PE X (.List es pos) (tLst t):=by
  intro pins s σ H Q I hq
  refine wpAny_List_spliced (thn (h pos pins s σ H _ I hq) fun us s1 ⟨xs,H1,I1,r,z,q⟩=>⟨by rw [← r.length]; exact z,?_⟩)
  have hf:H1 s1.heap.objs.size=none:=I1.hok.fresh (Nat.le_refl _)
  refine ⟨.ref s1.heap.objs.size,upd H1 s1.heap.objs.size (.lst xs),I1.laid (t':=s1.toks) (fun b u e=>Heap.get?_push_of_some _ e) (Nat.le_refl _) ?_,rfl,q _ hf⟩
  exact ⟨z,us,0,r,Heap.get?_push_size _ rfl⟩
end
abbrev Sp:=List V→Hp→VK→XK→Prop
abbrev CXT:=List Env→Hp→Shared→XK→Value→Shared→Prop
structure Env0 (P:Program) (w:World) (K:PySem.W.Frag) (mg:Str→Option Value) (base:Heap) (A:Around) (outer:List Env) (s:Shared) (H:Hp):Prop where
  frames:A.frames=some outer
  mod:Mod K mg base
  bs:∀ b o,base.get? b=some o→s.heap.get? b=some o∧H b=none
  bsz:base.objs.size≤s.heap.objs.size
  funs:s.heap.FunFrames base outer
  frf:∀ b∈frs outer,H b=none
  hok:HOk P w H s.heap
  bare:AllBare s.gens
def CE (outer:List Env) (P:Program) (w:World) (H:Hp) (s:Shared) (Q:VK) (u:Value) (s':Shared):Prop :=
  ∃ v H',s'.os=s.os∧AllBare s'.gens∧Un (frs outer) [] H H' s.heap s'.heap∧HOk P w H' s'.heap∧RelV v u∧Q v H'
def CR (CX:CXT) (outer:List Env) (P:Program) (w:World) (H:Hp) (s:Shared) (Q:VK) (E:XK) (r:Result) (s':Shared):Prop :=
  match r with
  | .ok (.ret u)=>CE outer P w H s Q u s'
  | .ok _=>False
  | .error e=>CX outer H s E e s'
structure FnOk (P:Program) (w:World) (K:PySem.W.Frag) (mg:Str→Option Value) (base:Heap) (CX:CXT) (k:Nat) (f:Addr) (fd:FuncData) (ps:List Str) (sp:Sp):Prop where
  len:∀ vs H Q E,sp vs H Q E→vs.length=ps.length
  run:∀ (A:Around) (outer:List Env) (s:Shared) (H:Hp) (args:Args) (us:List Value) (vs:List V) (Q:VK) (E:XK),Room k A→Env0 P w K mg base A outer s H→BindsTo s fd args (ps.zip us)→Vals vs us→sp vs H Q E →
    codeAny (model P w) A (.call (.ref f) args) (CR CX outer P w H s Q E) s
theorem FnOk.mono {P:Program} {w:World} {K:PySem.W.Frag} {mg:Str→Option Value} {base:Heap} {CX:CXT} {j k:Nat} {f:Addr} {fd:FuncData} {ps:List Str} {sp:Sp} (F:FnOk P w K mg base CX j f fd ps sp) (h:j≤k) :
    FnOk P w K mg base CX k f fd ps sp:=⟨F.len,fun A outer s H args us vs Q E hr=>F.run A outer s H args us vs Q E (hr.mono h)⟩
theorem FnOk.imp {P:Program} {w:World} {K:PySem.W.Frag} {mg:Str→Option Value} {base:Heap} {CX:CXT} {k:Nat} {f:Addr} {fd:FuncData} {ps:List Str} {sp sp':Sp} (F:FnOk P w K mg base CX k f fd ps sp)
    (h:∀ vs H Q E,sp' vs H Q E→sp vs H Q E):FnOk P w K mg base CX k f fd ps sp' :=
  ⟨fun vs H Q E q=>F.len vs H Q E (h _ _ _ _ q),fun A outer s H args us vs Q E hr he hb hv hs=>F.run A outer s H args us vs Q E hr he hb hv (h _ _ _ _ hs)⟩
theorem Env0.make {P:Program} {w:World} {K:PySem.W.Frag} {mg:Str→Option Value} {base:Heap} {A:Around} {outer:List Env} {s:Shared} {H:Hp} (e:Env0 P w K mg base A outer s H) (C:Addr) (us:List Value) (kw:List (Str×Value)) :
    Env0 P w K mg base (A.under (.builtin "type.__call__" ⟨.ref C::us,kw⟩)) outer s H:=⟨by first | exact e.frames | (simpa [Around.under,Code.envs,Code.isFrame,pushEnvs] using e.frames),e.mod,e.bs,e.bsz,e.funs,e.frf,e.hok,e.bare⟩
section
variable {X:Cx} {pins:List (Addr×Obj)} {σ:St} {H:Hp} {s s':Shared}
theorem Inv.env0 (I:Inv X pins σ H s):Env0 X.prog X.w X.K X.mg X.base X.A X.stack s H :=
  ⟨I.ok.frames,I.ok.mod,I.bs,Nat.le_trans I.ok.bsz I.sz,I.stack,I.stkFree,I.hok,I.bare⟩
theorem Inv.after {Q:VK} {u:Value} (I:Inv X pins σ H s) (h:CE X.stack X.prog X.w H s Q u s'):EP X pins σ Q u s':=by
  obtain ⟨v,H',os,bare,un,hok,r,q⟩:=h
  obtain ⟨hh,g,d,t,os'⟩:=s'
  obtain rfl:os'=s.os:=os
  exact ⟨v,H',I.call (h':=hh) (g':=g) (d':=d) (t':=t) (ch:=[]) un hok bare (fun b z=>absurd z (by simp)),r,q⟩
end
def tCall (sp:Sp) (dvs:List V) (E:XK) (t:TA):TE:=fun σ H Q=>t σ H fun vs H1=>sp (vs++dvs) H1 Q E
def tMeth (C:Addr) (m:Str) (sp:Sp) (dvs:List V) (E:XK) (ta:TE) (t:TA):TE:=fun σ H Q=>ta σ H fun x H1=>∃ a dx fs,x=.ref a∧H1 a=some (.ins C dx fs)∧fs.lookup m=none ∧
  t σ H1 fun vs H2=>sp (x::(vs++dvs)) H2 Q E
def tMake (C:Addr) (sp:Sp) (dvs:List V) (E:XK) (t:TA):TE:=fun σ H Q=>t σ H fun vs H1=>∀ x dx,H1 x=none→H1 dx=none→dx≠x →
  sp (.ref x::(vs++dvs)) (upd (upd H1 dx (.own x)) x (.ins C dx [])) (fun v H2=>v=.non∧Q (.ref x) H2) E
def Binds (K:PySem.W.Frag) (fd:FuncData) (ps:List Str) (ds:List Value):Prop :=
  ∀ (s:Shared) (us:List Value),K.In s.heap→(us++ds).length=ps.length→BindsTo s fd ⟨us,[]⟩ (ps.zip (us++ds))
theorem Binds.all {K:PySem.W.Frag} {fd:FuncData} {ps:List Str} (h:∀ us:List Value,us.length=ps.length→bindArgs fd ⟨us,[]⟩=pure (ps.zip us)):Binds K fd ps []:=fun s us _ hl=>by
  rw [List.append_nil] at hl ⊢
  exact .of_eq (h us hl)
def Passes (CX:CXT) (X:Cx) (E:XK):Prop:=∀ (pins:List (Addr×Obj)) (σ:St) (H:Hp) (s:Shared) (e:Value) (s':Shared),Inv X pins σ H s→CX X.stack H s E e s'→X.xe e s'
section
variable {X:Cx} {CX:CXT} {k:Nat} {f C:Addr} {fd:FuncData} {ps:List Str} {sp:Sp} {dvs:List V} {ds:List Value} {E:XK} {x m:Str} {p pos apos:Pos} {e o:Expr} {es:List Expr} {ta:TE} {t:TA}
theorem run_fn {pins:List (Addr×Obj)} {σ:St} {H:Hp} {s:Shared} {Q:VK} {us:List Value} {vs:List V} (F:FnOk X.prog X.w X.K X.mg X.base CX k f fd ps sp) (hr:Room k X.A) (hb:Binds X.K fd ps ds) (hd:Vals dvs ds) (hx:Passes CX X E)
    (I:Inv X pins σ H s) (r:Vals vs us) (h:sp (vs++dvs) H Q E):wpAny (model X.prog X.w) X.A (call (.ref f) us) (EP X pins σ Q) X.xe s:=by
  have r2:Vals (vs++dvs) (us++ds):=r.append hd
  have hl:(us++ds).length=ps.length:=by rw [← r2.length]; exact F.len _ _ _ _ h
  refine wpAny_call (codeAny_mono (F.run X.A X.stack s H ⟨us,[]⟩ (us++ds) (vs++dvs) Q E hr I.env0 (hb s us I.kIn hl) r2 h) fun r s' hq=>?_)
  cases r with
  | error e=>exact hx pins σ H s e s' I hq
  | ok fl =>
    cases fl with
    | ret u=>exact I.after hq
    | next=>exact False.elim hq
    | brk=>exact False.elim hq
    | cont=>exact False.elim hq
theorem pe_call (F:FnOk X.prog X.w X.K X.mg X.base CX k f fd ps sp) (hr:Room k X.A) (hg:Gl X x) (hm:X.mg x=some (.ref f)) (hk:PySem.W.keepIn X.K (.ref f)=true) (hb:Binds X.K fd ps ds) (hd:Vals dvs ds) (hx:Passes CX X E)
    (ha:PA X (e::es) t) (hdb:(x==("__debug__" : Str))=false:=by decide) (he:starEach (e::es) X.env=(false,eval e X.env)::starEach es X.env:=by rfl) (hpl:(backTo pos (starEach es X.env)).any (·.1)=false:=by rfl) :
    PE X (.Call (.Name x p) (e::es) [] pos) (tCall sp dvs E t):=by
  intro pins s σ H Q I h
  refine wpAny_Call_Name_kw (ld_glob I hg hm ?_ hdb)
  refine PySem.W.callWith_K (h₀:=X.base) I.ok.mod.kin hk (thn (ha pos pins s σ H _ I h) fun us s1 ⟨vs,H1,I1,r,q⟩=>⟨I1.kIn,?_⟩) he hpl
  exact run_fn F hr hb hd hx I1 r q
theorem pe_meth {pl:Sem Bool} (he:PE X o ta) (c:Cls X.K C) (hm:Meth X.K C m f) (F:FnOk X.prog X.w X.K X.mg X.base CX k f fd ps sp) (hr:Room k X.A) (hb:Binds X.K fd ps ds) (hd:Vals dvs ds) (hx:Passes CX X E) (ha:PA X (e::es) t)
    (hst:starEach (e::es) X.env=(false,eval e X.env)::starEach es X.env:=by rfl) (hpl:(backTo pos (starEach es X.env)).any (·.1)=false:=by rfl)
    (ht:eval (.Call (.Attribute o m apos) (e::es) [] pos) X.env=(do
      let ov ← eval o X.env
      standAt apos.atName
      let (f,first) ← holding [ov] (getMethod ov m pl)
      callWith pos f first (backTo pos (starEach (e::es) X.env)) (backToKw pos (keywordEach [] X.env))):=by rfl) :
    PE X (.Call (.Attribute o m apos) (e::es) [] pos) (tMeth C m sp dvs E ta t):=by
  intro pins s σ H Q I h
  refine PySem.W.methodCall_KW (pl:=pl) (thn (he pins s σ H _ I h) fun u s1 ⟨x,H1,I1,rx,a,dx,fs,ex,ea,l,q⟩=>?_) ht
  subst ex
  obtain rfl:u=Value.ref a:=rx
  refine getmeth_ok I1 ea c hm l ?_
  refine PySem.W.callWith_K (first:=[.ref a]) (h₀:=X.base) I.ok.mod.kin hm.kp (thn (ha pos pins s1 σ H1 _ I1 q) fun us s2 ⟨vs,H2,I2,r,q2⟩=>⟨I2.kIn,?_⟩) hst hpl
  exact run_fn (us:=.ref a::us) (vs:=.ref a::vs) F hr hb hd hx I2 (.cons rfl r) q2
theorem pe_meth0 {pl:Sem Bool} (he:PE X o ta) (c:Cls X.K C) (hm:Meth X.K C m f) (F:FnOk X.prog X.w X.K X.mg X.base CX k f fd ps sp) (hr:Room k X.A) (hb:Binds X.K fd ps ds) (hd:Vals dvs ds) (hx:Passes CX X E)
    (ht:eval (.Call (.Attribute o m apos) [] [] pos) X.env=(do
      let ov ← eval o X.env
      standAt apos.atName
      let (f,first) ← holding [ov] (getMethod ov m pl)
      callWith pos f first (backTo pos (starEach [] X.env)) (backToKw pos (keywordEach [] X.env))):=by rfl) :
    PE X (.Call (.Attribute o m apos) [] [] pos) (tMeth C m sp dvs E ta tNil):=by
  intro pins s σ H Q I h
  refine PySem.W.methodCall_KW (pl:=pl) (thn (he pins s σ H _ I h) fun u s1 ⟨x,H1,I1,rx,a,dx,fs,ex,ea,l,q⟩=>?_) ht
  subst ex
  obtain rfl:u=Value.ref a:=rx
  refine getmeth_ok I1 ea c hm l ?_
  exact PySem.W.callWith_K0 (first:=[.ref a]) I1.kIn hm.kp (run_fn (us:=[.ref a]) (vs:=[.ref a]) F hr hb hd hx I1 (.cons rfl .nil) q)
structure Mk (K:PySem.W.Frag) (C f:Addr):Prop where
  makes:PySem.W.makesIn K C=true
  init:PySem.W.findIn K (.ref C) "__init__" = some (some (.ref f))
  fn:PySem.W.isFn K (.ref f)=true
  kp:PySem.W.keepIn K (.ref C)=true
theorem run_make {pins:List (Addr×Obj)} {σ:St} {H:Hp} {s:Shared} {Q:VK} {us:List Value} {vs:List V} (M:Mk X.K C f) (F:FnOk X.prog X.w X.K X.mg X.base CX k f fd ps sp) (hr:Room (k+1) X.A) (hb:Binds X.K fd ps ds) (hd:Vals dvs ds)
    (hx:Passes CX X E) (I:Inv X pins σ H s) (r:Vals vs us)
    (h:∀ x dx,H x=none→H dx=none→dx≠x→sp (.ref x::(vs++dvs)) (upd (upd H dx (.own x)) x (.ins C dx [])) (fun v H2=>v=.non∧Q (.ref x) H2) E) :
    wpAny (model X.prog X.w) X.A (call (.ref C) us) (EP X pins σ Q) X.xe s:=by
  have hq:=h (s.heap.objs.size+1) s.heap.objs.size (I.hok.fresh (Nat.le_succ _)) (I.hok.fresh (Nat.le_refl _)) (Nat.ne_of_lt (Nat.lt_succ_self _))
  have I2:=Inv.made (C:=C) I
  have r2:Vals (V.ref (s.heap.objs.size+1)::(vs++dvs)) (Value.ref (s.heap.objs.size+1)::(us++ds)):=.cons rfl (r.append hd)
  have hl:(Value.ref (s.heap.objs.size+1)::us++ds).length=ps.length:=by
    have e:=r2.length
    rw [F.len _ _ _ _ hq] at e
    exact e.symm
  refine wpAny_call (make_map (f:=f) I.kIn M.makes M.init (beq_iff_eq.mp M.fn) (codeAny_mono (F.run _ X.stack _ _ ⟨Value.ref (s.heap.objs.size+1)::us,[]⟩ (Value.ref (s.heap.objs.size+1)::(us++ds)) _ _ E (hr.make C us [])
    (I2.env0.make C us []) (hb _ (Value.ref (s.heap.objs.size+1)::us) I2.kIn hl) r2 hq) fun r s' hq'=>?_))
  cases r with
  | error e=>exact hx pins σ _ _ e s' I2 hq'
  | ok fl =>
    cases fl with
    | ret u =>
      obtain ⟨v,H',I3,rv,ev,q3⟩:=I2.after hq'
      subst ev
      exact ⟨rv,⟨V.ref (s.heap.objs.size+1),H',I3,rfl,q3⟩⟩
    | next=>exact False.elim hq'
    | brk=>exact False.elim hq'
    | cont=>exact False.elim hq'
theorem pe_make (M:Mk X.K C f) (F:FnOk X.prog X.w X.K X.mg X.base CX k f fd ps sp) (hr:Room (k+1) X.A) (hg:Gl X x) (hm:X.mg x=some (.ref C)) (hb:Binds X.K fd ps ds) (hd:Vals dvs ds) (hx:Passes CX X E)
    (ha:PA X (e::es) t) (hdb:(x==("__debug__" : Str))=false:=by decide) (he:starEach (e::es) X.env=(false,eval e X.env)::starEach es X.env:=by rfl) (hpl:(backTo pos (starEach es X.env)).any (·.1)=false:=by rfl) :
    PE X (.Call (.Name x p) (e::es) [] pos) (tMake C sp dvs E t):=by
  intro pins s σ H Q I h
  refine wpAny_Call_Name_kw (ld_glob I hg hm ?_ hdb)
  refine PySem.W.callWith_K (h₀:=X.base) I.ok.mod.kin M.kp (thn (ha pos pins s σ H _ I h) fun us s1 ⟨vs,H1,I1,r,q⟩=>⟨I1.kIn,?_⟩) he hpl
  exact run_make M F hr hb hd hx I1 r q
end
section
variable {X:Cx} {CX:CXT} {k:Nat} {f C:Addr} {fd:FuncData} {ps ks:List Str} {sp:Sp} {E:XK} {x m:Str} {p pos apos kpos:Pos} {e o:Expr} {es:List Expr} {kws:List Keyword} {te ta:TE} {t tk:TA} {nm:Option Str}
structure KBinds (K:PySem.W.Frag) (fd:FuncData) (ps ks:List Str) (g:List Value→List Value→List Value) (gV:List V→List V→List V):Prop where
  to:∀ (s:Shared) (us ws:List Value),K.In s.heap→(g us ws).length=ps.length→BindsTo s fd ⟨us,ks.zip ws⟩ (ps.zip (g us ws))
  rel:∀ {vs:List V} {us:List Value} {zs:List V} {ws:List Value},Vals vs us→Vals zs ws→Vals (gV vs zs) (g us ws)
variable {g:List Value→List Value→List Value} {gV:List V→List V→List V}
end
structure FnScope (N P:List Str) (sc:Scope):Prop where
  kind:sc.kind=.function
  co:sc.isCoroutine=false
  gen:sc.isGenerator=false
  nd:N.Nodup
  pre:N.take P.length=P
  par:∀ x∈P,sc.names.lookup x=some .local∨sc.names.lookup x=some .cell
  nofree:∀ y∈sc.names,y.2≠.free
theorem bindL_out {kindOf:Str→Option NameKind} {x:Str}:∀ {binds:List (Str×Value)} {m:Str→Option Value},(∀ v,(x,v)∉binds)→bindL kindOf binds m x=m x
  | [],_,_=>rfl
  | (n,v)::r,m,h=>by
    unfold bindL
    rw [bindL_out fun w hw=>h w (List.mem_cons_of_mem _ hw)]
    split
    · have:x≠n:=by rintro rfl; exact h v List.mem_cons_self
      simp [this]
    · rfl
theorem bindC_out {kindOf:Str→Option NameKind} {x:Str}:∀ {binds:List (Str×Value)} {m:Str→Option Value},(∀ v,(x,v)∉binds)→bindC kindOf binds m x=m x
  | [],_,_=>rfl
  | (n,v)::r,m,h=>by
    unfold bindC
    rw [bindC_out fun w hw=>h w (List.mem_cons_of_mem _ hw)]
    split
    · rfl
    · have:x≠n:=by rintro rfl; exact h v List.mem_cons_self
      simp [this]
theorem bindL_get {kindOf:Str→Option NameKind} {x:Str} {v:Value}:∀ {P:List Str} {vs:List Value} {i:Nat} {m:Str→Option Value},P.Nodup→P[i]?=some x→vs[i]?=some v→kindOf x=some .local →
    bindL kindOf (P.zip vs) m x=some v
  | [],_,_,_,_,h,_,_=>by simp at h
  | _::_,[],_,_,_,_,h,_=>by simp at h
  | p::P,w::vs,0,m,nd,h1,h2,hk=>by
    simp at h1 h2; subst h1; subst h2
    show bindL kindOf ((p,w)::P.zip vs) m p=_
    unfold bindL
    rw [bindL_out fun v hv=>(List.nodup_cons.mp nd).1 (List.of_mem_zip hv).1,if_pos hk]
    simp
  | p::P,w::vs,i+1,m,nd,h1,h2,hk=>by
    show bindL kindOf ((p,w)::P.zip vs) m x=_
    unfold bindL
    exact bindL_get (i:=i) (List.nodup_cons.mp nd).2 (by simpa using h1) (by simpa using h2) hk
theorem bindC_get {kindOf:Str→Option NameKind} {x:Str} {v:Value}:∀ {P:List Str} {vs:List Value} {i:Nat} {m:Str→Option Value},P.Nodup→P[i]?=some x→vs[i]?=some v→kindOf x≠some .local →
    bindC kindOf (P.zip vs) m x=some v
  | [],_,_,_,_,h,_,_=>by simp at h
  | _::_,[],_,_,_,_,h,_=>by simp at h
  | p::P,w::vs,0,m,nd,h1,h2,hk=>by
    simp at h1 h2; subst h1; subst h2
    show bindC kindOf ((p,w)::P.zip vs) m p=_
    unfold bindC
    rw [bindC_out fun v hv=>(List.nodup_cons.mp nd).1 (List.of_mem_zip hv).1,if_neg hk]
    simp
  | p::P,w::vs,i+1,m,nd,h1,h2,hk=>by
    show bindC kindOf ((p,w)::P.zip vs) m x=_
    unfold bindC
    exact bindC_get (i:=i) (List.nodup_cons.mp nd).2 (by simpa using h1) (by simpa using h2) hk
def start (N:List Str) (vs:List V):St:=vs.map some++List.replicate (N.length - vs.length) none
def cxOf (CX:CXT) (P:Program) (w:World) (K:PySem.W.Frag) (mg:Str→Option Value) (base:Heap) (N:List Str) (qual:Str) (scope:Scope) (f:Addr) (cd:Value) (A:Around) (outer:List Env) (s:Shared) (H:Hp) (E:XK):Cx where
  prog:=P
  w:=w
  K:=K
  mg:=mg
  base:=base
  A:=A.deeper (envOfC qual scope s.heap.objs.size f cd)
  N:=N
  s₀:=s
  H₀:=H
  env:=envOfC qual scope s.heap.objs.size f cd
  outer:=outer
  stack:=envOfC qual scope s.heap.objs.size f cd::outer
  ex:=[]
  calm:=true
  fn:=fun _=>true
  pn:=[]
  xe:=fun e s'=>wpAny (model P w) (A.deeper (envOfC qual scope s.heap.objs.size f cd)) (leaving (envOfC qual scope s.heap.objs.size f cd) e) (fun _ s''=>CX outer H s E e s'') (fun e' s''=>CX outer H s E e' s'') s'
theorem cell_has {sc:Scope} {n:Nat} {x:Str} (h:sc.names.lookup x=some .cell):∃ c,(cellsFrom n sc.names []).lookup x=some c:=by
  have q:=PySem.W.cellsFrom_some sc.names n [] (.inl h)
  exact Option.isSome_iff_exists.mp q
theorem inv_start {CX:CXT} {P:Program} {w:World} {K:PySem.W.Frag} {mg:Str→Option Value} {base:Heap} {N ps:List Str} {qual:Str} {scope:Scope} {f:Addr} {cd:Value} {A:Around} {outer:List Env} {s s1:Shared} {H:Hp} {E:XK} {us:List Value} {vs:List V}
    (S:FnScope N ps scope) (hd:A.handled=none) (e0:Env0 P w K mg base A outer s H) (hl:vs.length=ps.length) (r:Vals vs us)
    (x:InCallC s s.heap.objs.size (bindL (envOfC qual scope s.heap.objs.size f cd).kindOf (ps.zip us) fun _=>none) (cellsFrom (s.heap.objs.size+1) scope.names []) (bindC (envOfC qual scope s.heap.objs.size f cd).kindOf (ps.zip us) fun _=>none) s1) :
    Inv (cxOf CX P w K mg base N qual scope f cd A outer s H E) [] (start N vs) H s1:=by
  have hpl:ps.length≤N.length:=by have:=congrArg List.length S.pre; rw [List.length_take] at this; omega
  obtain ⟨h1,tk,rfl,hk⟩:=x.done
  have noA:∀ b:Addr,b∉(cxOf CX P w K mg base N qual scope f cd A outer s H E).ex:=fun b z=>absurd (show b∈([]:List Addr) from z) (by simp)
  refine ⟨⟨e0.mod,S.kind,rfl,rfl,Nat.le_refl _,fun y z c h1 h2=>?_,fun y hy=>?_,fun y c _ h=>?_,fun _=>hd,Around.frames_deeper e0.frames,.inr ⟨rfl,rfl⟩,fun b z=>absurd z (noA b),e0.bs,e0.bsz,fun b _ _=>noA b,fun b z=>absurd z (noA b),e0.funs,e0.frf⟩,
    rfl,e0.bare,Un.kept hk,⟨_,x.toInCall.ns,fun i y v h1 h2 h3=>?_⟩,fun y c h=>⟨_,x.cell y c h⟩,e0.hok.fresh (Nat.le_refl _),fun y c h=>?_,fun p hp=>absurd (show p∈([]:List (Addr×Obj)) from hp) (by simp),e0.hok.kept hk,?_⟩
  · exact name_of_addr x.apart (PySem.mem_of_lookup h1) (PySem.mem_of_lookup h2)
  · have hy:scope.names.lookup y=some .cell∨scope.names.lookup y=some .free:=hy
    rcases hy with hy | hy
    · exact cell_has hy
    · exact absurd rfl (S.nofree _ (PySem.mem_of_lookup hy))
  · exact Nat.le_of_lt (x.above y c (PySem.mem_of_lookup h))
  · have hi:i < vs.length:=by
      unfold start at h2
      by_cases hi:i < vs.length
      · exact hi
      · rw [List.getElem?_append_right (by simpa using hi)] at h2
        rw [List.getElem?_replicate] at h2
        split at h2 <;> cases h2
    have ha:vs[i]?=some v:=by
      unfold start at h2
      rw [List.getElem?_append_left (by simpa using hi),List.getElem?_map] at h2
      cases e:vs[i]? with
      | none=>rw [e] at h2; cases h2
      | some a=>rw [e] at h2; cases h2; rfl
    obtain ⟨u,hu,rv⟩:=r.get ha
    have hp:ps[i]?=some y:=by
      rw [← S.pre,List.getElem?_take_of_lt (by omega)]; exact h1
    have ndP:ps.Nodup:=by rw [← S.pre]; exact S.nd.sublist (List.take_sublist _ _)
    refine ⟨u,rv,?_⟩
    rcases S.par y (List.mem_of_getElem? hp) with k | k
    · exact .inl ⟨k,bindL_get ndP hp hu k⟩
    · obtain ⟨c,e⟩:=cell_has (n:=s.heap.objs.size+1) k
      refine .inr ⟨.inl k,c,e,?_⟩
      have q:=x.cell y c e
      rw [bindC_get ndP hp hu (by show scope.names.lookup y≠_; rw [k]; decide)] at q
      exact q
  · exact e0.hok.fresh (Nat.le_of_lt (x.above y c (PySem.mem_of_lookup h)))
  · unfold start
    show _=N.length
    rw [List.length_append,List.length_map,List.length_replicate]
    omega
theorem fn_of {CX:CXT} {P:Program} {w:World} {K:PySem.W.Frag} {mg:Str→Option Value} {base:Heap} {k:Nat} {f:Addr} {name qual:Str} {params:Arguments} {body:List Stmt} {scope:Scope} {dV kV doc pm cdv ct oc:Value} {an od:Option Addr}
    {osl:Array (Option Value)} {N ps:List Str} {sp:Sp} (lk:K.lookup f=some ⟨oc,od,.func (PySem.W.fnOf name qual params body scope dV kV doc pm an cdv ct),osl⟩) (hcd:PySem.W.codeIn K cdv qual=true) (S:FnScope N ps scope)
    (len:∀ vs H Q E,sp vs H Q E→vs.length=ps.length)
    (hbody:∀ (A:Around) (outer:List Env) (s:Shared) (H:Hp) (vs:List V) (Q:VK) (E:XK),Room k (A.deeper (envOfC qual scope s.heap.objs.size f cdv))→sp vs H Q E →
      ∃ t,PSs (cxOf CX P w K mg base N qual scope f cdv A outer s H E) body t∧t { nx:=fun _ H'=>Q .non H',rt:=Q } (start N vs) H) :
    FnOk P w K mg base CX (k+1) f (PySem.W.fnOf name qual params body scope dV kV doc pm an cdv ct) ps sp:=by
  refine ⟨len,fun A outer s H args us vs Q E hr e0 hb r hsp=>?_⟩
  have hl:=len _ _ _ _ hsp
  have KX:K.In s.heap:=e0.mod.kin.keeps fun b o e=>(e0.bs b o e).1
  have lim:s.heap.NoLimit:=e0.mod.nolimit.keeps fun b o e=>(e0.bs b o e).1
  have hkind:∀ y∈ps.zip us,scope.names.lookup y.1=some .local∨(scope.names.lookup y.1=some .cell∧((cellsFrom (s.heap.objs.size+1) scope.names []).lookup y.1).isSome=true):=fun ⟨n,v⟩ hy=>by
    rcases S.par n (List.of_mem_zip hy).1 with q | q
    · exact .inl q
    · exact .inr ⟨q,PySem.W.cellsFrom_some _ _ _ (.inl q)⟩
  refine codeAny_call_function hr.depth (KX _ _ lk) rfl S.co S.gen rfl (PySem.W.codeRec_of KX hcd) (hb _ _ _ _ ?_)
  refine wpAny_newFunctionEnv_cells S.kind hkind fun env he s1 x=>?_
  subst he
  refine ⟨lim.keeps x.toInCall.keep,codeAny_func ?_⟩
  obtain ⟨t,ht,hq⟩:=hbody A outer s H vs Q E (hr.deeper _) hsp
  have I:Inv (cxOf CX P w K mg base N qual scope f cdv A outer s H E) [] (start N vs) H s1:=inv_start S hr.hd e0 hl r x
  refine wpAny_mono (ht [] s1 (start N vs) H _ I hq) (fun fl s' hs=>?_) fun e s' hs=>hs
  have fin:∀ {σ':St} {H':Hp} {v:V} {u:Value},Inv (cxOf CX P w K mg base N qual scope f cdv A outer s H E) [] σ' H' s'→RelV v u→Q v H'→CE outer P w H s Q u s' :=
    fun {σ' H' v u} J rv q=>⟨v,H',J.os,J.bare,J.base,J.hok,rv,q⟩
  cases fl with
  | ret u =>
    obtain ⟨v,σ',H',J,rv,q⟩:=hs
    exact fin J rv q
  | next =>
    obtain ⟨σ',H',J,q⟩:=hs
    exact fin (v:=V.non) (u:=Value.none) J rfl q
  | brk =>
    obtain ⟨_,_,_,q⟩:=hs
    exact False.elim q
  | cont =>
    obtain ⟨_,_,_,q⟩:=hs
    exact False.elim q
end L2
namespace L2
open PySem PySem.Spec PyProof.Rows
section
variable {X:Cx} {x:Str} {p pos:Pos} {e:Expr} {es:List Expr} {t:TA} {id T:String} {r:List V→Hp→VK→Prop}
def tCB (r:List V→Hp→VK→Prop) (t:TA):TE:=fun σ H Q=>t σ H fun vs H1=>r vs H1 Q
theorem pe_callB (hc:CallR X (.builtin id) r) (hg:Gl X x) (hm:X.mg x=none) (hv:bootBuiltins x=some (.builtin id)) (ha:PA X (e::es) t) (hn:x ≠ "__name__" := by decide) (hdb:(x==("__debug__" : Str))=false:=by decide)
    (he:starEach (e::es) X.env=(false,eval e X.env)::starEach es X.env:=by rfl) (hpl:(backTo pos (starEach es X.env)).any (·.1)=false:=by rfl):PE X (.Call (.Name x p) (e::es) [] pos) (tCB r t):=by
  intro pins s σ H Q I h
  refine wpAny_Call_Name_kw (ld_blt I hg hm hv ?_ hn hdb)
  exact PyProof.Rows.callWith_builtin1 (thn (ha pos pins s σ H _ I h) fun us s1 ⟨vs,H1,I1,r1,q1⟩=>hc pins s1 σ H1 vs us Q I1 r1 q1) he hpl
theorem pe_callTy (hc:CallR X (.type T) r) (hg:Gl X x) (hm:X.mg x=none) (hv:bootBuiltins x=some (.type T)) (ha:PA X (e::es) t) (hn:x ≠ "__name__" := by decide) (hdb:(x==("__debug__" : Str))=false:=by decide)
    (he:starEach (e::es) X.env=(false,eval e X.env)::starEach es X.env:=by rfl) (hpl:(backTo pos (starEach es X.env)).any (·.1)=false:=by rfl):PE X (.Call (.Name x p) (e::es) [] pos) (tCB r t):=by
  intro pins s σ H Q I h
  refine wpAny_Call_Name_kw (ld_blt I hg hm hv ?_ hn hdb)
  exact PyProof.Rows.callWith_type1 (thn (ha pos pins s σ H _ I h) fun us s1 ⟨vs,H1,I1,r1,q1⟩=>hc pins s1 σ H1 vs us Q I1 r1 q1) he hpl
end
end L2
namespace HT
open PySem PyProof.Rows
section
open PySem.SeqAt
open PySem.AutoSeq1 (wpAny_loadPart')
open PySem.MeetsSeq PySem.MeetsSeq2 PySem.MeetsSeq3
end
section
variable {prog:Program} {w:World} {A:Around} {E:Value→Shared→Prop} {s:Shared}
theorem cat_tup {t b:Addr} {vs ws:List Value} {Q:Value→Shared→Prop} (ht:IsTup s.heap t vs.toArray) (hb:IsTup s.heap b ws.toArray) (hv:vs≠[])
    (h1:ws=[]→Q (.ref t) s) (h2:ws≠[]→Q (.ref s.heap.objs.size) { s with heap:=s.heap.push { cls:=.type "tuple", data:=.seq (vs++ws).toArray } })
    (hsz:vs.length+ws.length≤sizeLine):wpAny (model prog w) A (binaryOp .Add (.ref t) (.ref b)) Q E s:=by
  obtain ⟨⟨cls,dd,data,sl⟩,ho,hc,n,hd⟩:=id ht
  obtain ⟨⟨cls2,dd2,data2,sl2⟩,ho2,hc2,n2,hd2⟩:=id hb
  simp only at hc hd hc2 hd2
  subst hc hd hc2 hd2
  have e:vs.toArray++ws.toArray=(vs++ws).toArray:=by simp
  by_cases hw:ws=[]
  · exact concat_meets ⟨_,ho,rfl⟩ ⟨_,ho2,rfl⟩ noFill_tuple_add seq_tuple_add PySem.F.slot_tuple_add PySem.F.entry_tuple_add (PySem.F.args_tuple_add_2 _ _)
      (tuple_addW1 t b vs.toArray ws.toArray n n2 dd dd2 sl sl2 (by simpa using hv) (by simp [hw])) ⟨ho,ho2,h1 hw⟩
  · refine concat_meets ⟨_,ho,rfl⟩ ⟨_,ho2,rfl⟩ noFill_tuple_add seq_tuple_add PySem.F.slot_tuple_add PySem.F.entry_tuple_add (PySem.F.args_tuple_add_2 _ _)
      (tuple_addW2 t b vs.toArray ws.toArray n n2 dd dd2 sl sl2 (by simpa using hv) (by simpa using hw) (by rw [List.size_toArray,List.size_toArray]; exact hsz)) ⟨ho,ho2,?_⟩
    rw [e]
    exact h2 hw
def sIx (n d:Nat):Option Int→Nat
  | none=>d
  | some v=>if v < 0 then (v+(n:Int)).toNat else min v.toNat n
theorem sIx_none (n d:Nat):sIx n d none=d:=rfl
theorem sIx_nat (n d k:Nat):sIx n d (some (k:Int))=min k n:=by
  show (if (k:Int) < 0 then ((k:Int)+(n:Int)).toNat else min (k:Int).toNat n)=min k n
  rw [if_neg (by omega),Int.toNat_natCast]
theorem sIx_le (n d:Nat) (hd:d≤n) (o:Option Int):sIx n d o≤n:=by
  cases o with
  | none=>exact hd
  | some v =>
    show (if v < 0 then (v+(n:Int)).toNat else min v.toNat n)≤n
    by_cases hv:v < 0
    · rw [if_pos hv]; omega
    · rw [if_neg hv]; exact Nat.min_le_right _ _
theorem clip_eq (v:Int) (n d:Nat):(if v < 0 then max (v+(n:Int)) 0 else min v (n:Int))=((sIx n d (some v):Nat):Int):=by
  show (if v < 0 then max (v+(n:Int)) 0 else min v (n:Int))=(((if v < 0 then (v+(n:Int)).toNat else min v.toNat n):Nat):Int)
  by_cases hv:v < 0
  · simp only [if_pos hv]; omega
  · simp only [if_neg hv]; omega
theorem adjust_gen (lo hi:Option Int) (n:Nat):Builtin.Slice.sliceAdjust lo hi 1 (n:Int)=(((sIx n 0 lo:Nat):Int),((sIx n n hi:Nat):Int)):=by
  have h1:¬ ((1:Int) < 0):=by omega
  unfold Builtin.Slice.sliceAdjust
  simp only [h1,if_false]
  refine Prod.ext ?_ ?_
  · cases lo with
    | none=>rfl
    | some v=>exact clip_eq v n 0
  · cases hi with
    | none=>rfl
    | some v=>exact clip_eq v n n
theorem places_gen (i j:Nat):Builtin.Slice.slicePlaces (i:Int) (j:Int) 1=j - i:=by
  unfold Builtin.Slice.slicePlaces
  have h1:(1:Int) > 0:=by omega
  simp only [h1,if_true,Int.ediv_one]
  split <;> omega
theorem slicePart_ {v:Value} {o:Option Int} {Q:Option Int→Shared→Prop} (p:IsPart v o) (h:Q o s):wpAny (model prog w) A (Builtin.Slice.slicePartIndex v) Q E s:=by
  cases p with
  | none=>exact slicePart_none h
  | int i t=>exact slicePart_int h
theorem sliceApplied_gen {sl:Addr} {vl vu:Value} {lo hi:Option Int} {n:Nat} {Q:Int×Int×Nat→Shared→Prop} (hs:s.heap.IsSliceOf sl vl vu .none) (pl:IsPart vl lo) (pu:IsPart vu hi)
    (h:Q (((sIx n 0 lo:Nat):Int),1,sIx n n hi - sIx n 0 lo) s):wpAny (model prog w) A (Builtin.Slice.sliceApplied (.ref sl) (pure (n:Int))) Q E s:=by
  obtain ⟨os,hos,hcs,hds⟩:=id hs
  unfold Builtin.Slice.sliceApplied Builtin.Slice.sliceFields
  refine wpAny_bind (wpAny_bind (wpAny_field hos hds (x:=vl) rfl (wpAny_bind (wpAny_field hos hds (x:=vu) rfl (wpAny_bind (wpAny_field hos hds (x:=.none) rfl (wpAny_pure ?_)))))))
  refine wpAny_bind (slicePart_none ?_)
  show wpAny _ _ (if ((1:Int)==0)=true then _ else _) _ _ s
  rw [if_neg (by decide)]
  refine wpAny_bind (slicePart_ pl (wpAny_bind (slicePart_ pu (wpAny_bind (wpAny_pure ?_)))))
  show wpAny _ _ (match Builtin.Slice.sliceAdjust lo hi 1 (n:Int) with | (lo,hi)=>pure (lo,(1:Int),Builtin.Slice.slicePlaces lo hi 1)) _ _ s
  rw [adjust_gen lo hi n]
  show wpAny _ _ (pure (((sIx n 0 lo:Nat):Int),(1:Int),Builtin.Slice.slicePlaces ((sIx n 0 lo:Nat):Int) ((sIx n n hi:Nat):Int) 1)) _ _ s
  rw [places_gen]
  exact wpAny_pure h
theorem pick_gen (xs:Array Value) (i k:Nat):((List.range k).filterMap fun (m:Nat)=>xs[((i:Int)+(m:Int)*1).toNat]?).toArray=((xs.toList.drop i).take k).toArray:=by
  have e:(fun (m:Nat)=>xs[((i:Int)+(m:Int)*1).toNat]?)=fun m=>xs[i+m]?:=by
    funext m
    have:((i:Int)+(m:Int)*1).toNat=i+m:=by omega
    rw [this]
  rw [e]
  have:=pick_run xs i k
  rw [List.filterMap_map] at this
  have e2:((fun x=>xs[x]?)∘fun x=>i+x)=fun m=>xs[i+m]?:=rfl
  rw [e2] at this
  rw [this]
theorem getItem_tuple_cut {t sl:Addr} {items:Array Value} {vl vu:Value} {lo hi:Option Int} {Q:Value→Shared→Prop} (ht:IsTup s.heap t items) (hs:s.heap.IsSliceOf sl vl vu .none) (pl:IsPart vl lo) (pu:IsPart vu hi)
    (hw:¬ (sIx items.size 0 lo=0∧sIx items.size items.size hi=items.size))
    (h:Q (.ref s.heap.objs.size) { s with heap:=s.heap.push { cls:=.type "tuple", data:=.seq ((items.toList.drop (sIx items.size 0 lo)).take (sIx items.size items.size hi - sIx items.size 0 lo)).toArray } })
    (hsz:items.size≤sizeLine):wpAny (model prog w) A (getItem (.ref t) (.ref sl)) Q E s:=by
  have htake:sizeOk (.seq ((items.toList.drop (sIx items.size 0 lo)).take (sIx items.size items.size hi - sIx items.size 0 lo)).toArray):=by
    show ((items.toList.drop (sIx items.size 0 lo)).take (sIx items.size items.size hi - sIx items.size 0 lo)).toArray.size≤sizeLine
    rw [List.size_toArray,List.length_take,List.length_drop,Array.length_toList]
    omega
  have hj:sIx items.size items.size hi≤items.size:=sIx_le _ _ (Nat.le_refl _) hi
  obtain ⟨os,hos,hcs,hds⟩:=id hs
  have hTs:s.TypeIs (.ref sl) "slice" := ⟨os,hos,hcs⟩
  unfold getItem
  try with_reducible refine wpAny_holding ?_
  first | refine wpAny_bind (wpAny_pure ?_) | skip
  refine wpAny_bind (wpAny_sequenceKey ht.typeIs (by decide) ?_)
  refine wpAny_bind (wpAny_callSpecial?_slot (name:=Str.ofString "__getitem__") ht.typeIs PyProof.Rows.slot_tuple_getitem
    (wpAny_call_entry PyProof.Rows.slot_tuple_getitem ht.typeIs entry_tuple_getitem ?_ (args_tuple_getitem _ _)))
  show wpAny _ _ (Builtin.Tuple.tupleItemsOf (.ref t) >>= _) _ _ s
  refine wpAny_bind (tupleItemsOf_ ht ?_)
  refine wpAny_bind (wpAny_typeOf hTs ?_)
  rw [if_pos (by decide)]
  refine wpAny_bind (sliceApplied_gen hs pl pu ?_)
  have hno:¬ ((((sIx items.size 0 lo:Nat):Int)==0&&(1:Int)==1&&(sIx items.size items.size hi - sIx items.size 0 lo)==items.size)=true):=by
    intro q
    rw [Bool.and_eq_true,Bool.and_eq_true] at q
    have q1:((sIx items.size 0 lo:Nat):Int)=0:=eq_of_beq q.1.1
    have q2:sIx items.size items.size hi - sIx items.size 0 lo=items.size:=eq_of_beq q.2
    exact hw ⟨by omega,by omega⟩
  show wpAny _ _ (if (((sIx items.size 0 lo:Nat):Int)==0&&(1:Int)==1&&(sIx items.size items.size hi - sIx items.size 0 lo)==items.size)=true then _ else _) _ _ s
  rw [if_neg hno,pick_gen]
  first
    | exact wpAny_bind (m:=Builtin.Tuple.tupleExact _) (wpAny_newObj_type (wpAny_pure ⟨_,rfl,wpAny_pure h⟩) htake)
    | exact wpAny_bind (m:=Builtin.Tuple.tupleExact _) (wpAny_newObj_type (wpAny_bind (wpAny_pure (wpAny_pure ⟨_,rfl,wpAny_pure h⟩))) htake)
    | exact wpAny_bind (wpAny_bind (m:=Builtin.Tuple.tupleExact _) (wpAny_newObj_type (wpAny_pure (wpAny_pure ⟨_,rfl,wpAny_pure h⟩)) htake))
    | exact wpAny_bind (wpAny_bind (m:=Builtin.Tuple.tupleExact _) (wpAny_newObj_type (wpAny_pure ⟨_,rfl,wpAny_pure h⟩) htake))
end
end HT
namespace L2
open PySem PySem.Spec PyProof.Rows
abbrev TO:=St→Hp→(Option Int→Hp→Prop)→Prop
def PO (X:Cx) (e:Option Expr) (t:TO):Prop :=
  ∀ (pins:List (Addr×Obj)) (s:Shared) (σ:St) (H:Hp) (Q:Option Int→Hp→Prop),Inv X pins σ H s→t σ H Q →
    wpAny (model X.prog X.w) X.A (evalPart e X.env) (fun u s'=>∃ o H',Inv X pins σ H' s'∧IsPart u o∧Q o H') X.xe s
def tNoPart:TO:=fun _ H Q=>Q none H
def tPart (t:TE):TO:=fun σ H Q=>t σ H fun x H1=>∃ i,x=.int i∧Q (some i) H1
section
variable {X:Cx} {e:Expr} {te:TE} {lo hi:Option Expr} {tl th:TO} {pos p2:Pos}
theorem po_none:PO X none tNoPart:=by
  intro pins s σ H Q I h
  rw [evalPart_none]
  exact wpAny_pure ⟨none,H,I,.none,h⟩
theorem po_some (h:PE X e te):PO X (some e) (tPart te):=by
  intro pins s σ H Q I hw
  rw [evalPart_some]
  refine thn (h pins s σ H _ I hw) fun u s1 ⟨x,H1,I1,r1,q1⟩=>?_
  obtain ⟨i,rfl,q⟩:=q1
  obtain ⟨t,rfl⟩:=r1
  exact ⟨some i,H1,I1,.int i t,q⟩
def SlR (X:Cx) (r:V→Option Int→Option Int→Hp→VK→Prop):Prop :=
  ∀ (pins:List (Addr×Obj)) (s:Shared) (σ:St) (H:Hp) (x:V) (v vl vu:Value) (lo hi:Option Int) (sl:Addr) (Q:VK),Inv X pins σ H s→RelV x v→s.heap.IsSliceOf sl vl vu .none→IsPart vl lo→IsPart vu hi→r x lo hi H Q →
    ∃ T id,typeLookup (.type T) "__getitem__" = pure (some (.builtin id))∧s.TypeIs v T∧wpAny (model X.prog X.w) X.A (getItem v (.ref sl)) (EP X pins σ Q) X.xe s
theorem SlR.or {r r':V→Option Int→Option Int→Hp→VK→Prop} (h:SlR X r) (h':SlR X r'):SlR X (fun x lo hi H Q=>r x lo hi H Q∨r' x lo hi H Q):=by
  intro pins s σ H x v vl vu lo hi sl Q I rx hs pl pu q
  rcases q with q | q
  · exact h pins s σ H x v vl vu lo hi sl Q I rx hs pl pu q
  · exact h' pins s σ H x v vl vu lo hi sl Q I rx hs pl pu q
def tSl (r:V→Option Int→Option Int→Hp→VK→Prop) (te:TE) (tl th:TO):TE:=fun σ H Q=>te σ H fun x H1=>tl σ H1 fun l H2=>th σ H2 fun u H3=>r x l u H3 Q
theorem pe_slice {r:V→Option Int→Option Int→Hp→VK→Prop} (hr:SlR X r) (he:PE X e te) (hl:PO X lo tl) (hu:PO X hi th):PE X (.Subscript e (.Slice lo hi none p2) pos) (tSl r te tl th):=by
  intro pins s σ H Q I h
  refine Subscript_ (thn (he pins s σ H _ I h) fun v s1 ⟨x,H1,I1,r1,q1⟩=>?_)
  refine wpAny_Slice (thn (hl pins s1 σ H1 _ I1 q1) fun vl s2 ⟨l,H2,I2,pl,q2⟩=>thn (hu pins s2 σ H2 _ I2 q2) fun vu s3 ⟨u,H3,I3,pu,q3⟩=>?_)
  rw [evalPart_none]
  refine wpAny_pure ?_
  have I4:Inv X pins σ H3 { s3 with heap:=s3.heap.push { cls:=.type "slice", data:=.fields #[vl,vu,.none] } }:=I3.kept (t':=s3.toks) fun b ob q=>Heap.get?_push_of_some _ q
  obtain ⟨T,id,hT,ht,hg⟩:=hr pins { s3 with heap:=s3.heap.push { cls:=.type "slice", data:=.fields #[vl,vu,.none] } } σ H3 x v vl vu l u s3.heap.objs.size Q I4 r1 (Heap.IsSliceOf.new ..) pl pu q3
  show wpAny (model X.prog X.w) X.A (subscriptTail e (.Slice lo hi none p2) v (.ref s3.heap.objs.size)) (EP X pins σ Q) X.xe { s3 with heap:=s3.heap.push { cls:=.type "slice", data:=.fields #[vl,vu,.none] } }
  exact tail_any (ops:=[.ref s3.heap.objs.size,v]) ht hT hg (by with_unfolding_all rfl)
def cutV (xs:List V) (lo hi:Option Int):List V:=(xs.drop (HT.sIx xs.length 0 lo)).take (HT.sIx xs.length xs.length hi - HT.sIx xs.length 0 lo)
theorem cutV_length (xs:List V) (lo hi:Option Int):(cutV xs lo hi).length≤xs.length:=by
  unfold cutV
  rw [List.length_take,List.length_drop]
  omega
def rSlT (K:PySem.W.Frag):V→Option Int→Option Int→Hp→VK→Prop:=fun x lo hi H Q=>∃ a xs,x=.ref a∧SqT K H a xs ∧
  ¬ (HT.sIx xs.length 0 lo=0∧HT.sIx xs.length xs.length hi=xs.length)∧∀ p,H p=none→Q (.ref p) (upd H p (.tup (cutV xs lo hi)))
theorem sl_tup:SlR X (rSlT X.K):=by
  intro pins s σ H x v vl vu lo hi sl Q I rx hs pl pu h
  obtain ⟨a,xs,rfl,hx,hw,q⟩:=h
  cases rx
  obtain ⟨its,r,ht,hz⟩:=I.tuple hx
  have hlen:its.toArray.size=xs.length:=by rw [List.size_toArray]; exact r.length.symm
  refine ⟨"tuple", _,PyProof.Rows.slot_tuple_getitem.lookup,ht.typeIs,?_⟩
  refine HT.getItem_tuple_cut ht hs pl pu (by rw [hlen]; exact hw) ?_ (by rw [hlen]; exact hz)
  rw [hlen]
  refine ⟨.ref s.heap.objs.size,_,I.laid (t':=s.toks) (o:=.tup (cutV xs lo hi)) (fun b ob q=>Heap.get?_push_of_some _ q) (Nat.le_refl _) ?_,rfl,q _ (I.hok.fresh (Nat.le_refl _))⟩
  exact ⟨Nat.le_trans (cutV_length xs lo hi) hz,_,(r.drop (HT.sIx xs.length 0 lo)).take (HT.sIx xs.length xs.length hi - HT.sIx xs.length 0 lo),IsTup.new _ _⟩
theorem Vals.nil_iff {xs:List V} {us:List Value} (r:Vals xs us):us=[]↔xs=[]:=by
  cases r with
  | nil=>simp
  | cons _ _=>simp
end
end L2
namespace L2
open PySem PySem.Spec PyProof.Rows
def ixN (n:Nat) (i:Int):Option Nat:=if 0≤i then (if i < n then some i.toNat else none) else if -(n:Int)≤i then some (i+n).toNat else none
def atI {α:Type} (xs:List α) (i:Int):Option α:=(ixN xs.length i).bind fun j=>xs[j]?
theorem ixN_seq {n:Nat} {i:Int} {j:Nat} (h:ixN n i=some j):seqIndex? i n=some j∧j < n∧-(n:Int)≤i∧i < n:=by
  unfold ixN at h
  by_cases h0:0≤i
  · rw [if_pos h0] at h
    by_cases h1:i < n
    · rw [if_pos h1] at h
      have e:i.toNat=j:=Option.some.inj h
      exact ⟨by rw [seqIndex_of h0 h1,e],by omega,by omega,h1⟩
    · rw [if_neg h1] at h; cases h
  · rw [if_neg h0] at h
    by_cases h1:-(n:Int)≤i
    · rw [if_pos h1] at h
      have e:(i+n).toNat=j:=Option.some.inj h
      exact ⟨by rw [seqIndex_neg (by omega) h1,e],by omega,h1,by omega⟩
    · rw [if_neg h1] at h; cases h
theorem atI_get {α:Type} {xs:List α} {i:Int} {v:α} (h:atI xs i=some v):∃ j,seqIndex? i xs.length=some j∧xs[j]?=some v∧j < xs.length∧-(xs.length:Int)≤i∧i < xs.length:=by
  unfold atI at h
  cases e:ixN xs.length i with
  | none=>rw [e] at h; cases h
  | some j =>
    rw [e] at h
    obtain ⟨h1,h2,h3,h4⟩:=ixN_seq e
    exact ⟨j,h1,h,h2,h3,h4⟩
theorem atI_nat {α:Type} {xs:List α} {j:Nat} {v:α} (h:xs[j]?=some v):atI xs (j:Int)=some v:=by
  have hj:j < xs.length:=(List.getElem?_eq_some_iff.mp h).1
  have e:ixN xs.length (j:Int)=some j:=by
    unfold ixN
    rw [if_pos (by omega),if_pos (by omega)]; simp
  unfold atI; rw [e]; exact h
def PlainIx (b:Expr):Prop:=∀ o i,subscripted b false o i=operate [o,i] (getItem o i)
def IxR (X:Cx) (r:R2):Prop :=
  ∀ (value slice:Expr) (pins:List (Addr×Obj)) (s:Shared) (σ:St) (H:Hp) (x y:V) (v u:Value) (Q:VK),Inv X pins σ H s→RelV x v→RelV y u→r x y H Q →
    subscripted slice false v u=operate [v,u] (getItem v u)→wpAny (model X.prog X.w) X.A (subscriptTail value slice v u) (EP X pins σ Q) X.xe s
def MtR (X:Cx) (id:String) (r:V→List V→Hp→VK→Prop):Prop :=
  ∀ (pins:List (Addr×Obj)) (s:Shared) (σ:St) (H:Hp) (x:V) (xs:List V) (v:Value) (us:List Value) (Q:VK),Inv X pins σ H s→RelV x v→Vals xs us→r x xs H Q →
    wpAny (model X.prog X.w) X.A (call (.builtin id) (v::us)) (EP X pins σ Q) X.xe s
section
variable {X:Cx} {a b:Expr} {ta tb:TE} {pos:Pos}
theorem IxR.or {r r':R2} (h:IxR X r) (h':IxR X r'):IxR X (fun x y H Q=>r x y H Q∨r' x y H Q):=by
  intro value slice pins s σ H x y v u Q I rx ry q hs
  rcases q with q | q
  · exact h value slice pins s σ H x y v u Q I rx ry q hs
  · exact h' value slice pins s σ H x y v u Q I rx ry q hs
theorem pe_ix {r:R2} (hr:IxR X r) (ha:PE X a ta) (hb:PE X b tb) (hs:PlainIx b):PE X (.Subscript a b pos) (tOp r ta tb):=by
  intro pins s σ H Q I h
  exact Subscript_ (binT ha hb I h fun v u s2 x y H2 I2 rx ry q=>hr a b pins s2 σ H2 x y v u Q I2 rx ry q (hs _ _))
def rIxL (K:PySem.W.Frag):R2:=fun x y H Q=>∃ p xs i v,x=.ref p∧y=.int i∧SqL K H p xs∧atI xs i=some v∧Q v H
def rIxT (K:PySem.W.Frag):R2:=fun x y H Q=>∃ p xs i v,x=.ref p∧y=.int i∧SqT K H p xs∧atI xs i=some v∧Q v H
def rIxS:R2:=fun x y H Q=>∃ z i c,x=.str z∧y=.int i∧z.length≤sizeLine∧atI z.cps.toList i=some c∧Q (.str ⟨#[c]⟩) H
theorem ix_list:IxR X (rIxL X.K):=by
  intro value slice pins s σ H x y v u Q I rx ry h hs
  obtain ⟨p,xs,i,z,rfl,rfl,hq,he,q⟩:=h
  cases rx
  obtain ⟨t,rfl⟩:=ry
  obtain ⟨its,r,pl,hz⟩:=I.list hq
  obtain ⟨j,h1,h2,h3,h4,h5⟩:=atI_get he
  obtain ⟨w,ew,rw'⟩:=r.get h2
  have hl:=r.length
  have hn:=line63
  have fin:EP X pins σ Q w s:=⟨z,H,I,rw',q⟩
  by_cases h0:0≤i
  · have hj:i.toNat=j:=by
      rw [seqIndex_of h0 h5] at h1
      exact Option.some.inj h1
    exact item_listR pl.isList h0 (by omega) (by rw [hj]; simpa using ew) fin hs
  · have hj:(i+(its.toArray.size:Int)).toNat=j:=by
      rw [seqIndex_neg (by omega) h4] at h1
      rw [List.size_toArray,← hl]
      exact Option.some.inj h1
    exact subscriptTail_builtinR (x:=w) pl.isList.typeIs slot_list_getitem.lookup
      (wpAny_getItem_list_neg (Q:=fun r s'=>r=w∧EP X pins σ Q r s') pl.isList (by omega) (by rw [List.size_toArray] <;> omega) (by omega) (by rw [hj]; simpa using ew) ⟨rfl,fin⟩) hs
theorem ix_tup:IxR X (rIxT X.K):=by
  intro value slice pins s σ H x y v u Q I rx ry h hs
  obtain ⟨p,xs,i,z,rfl,rfl,hq,he,q⟩:=h
  cases rx
  obtain ⟨t,rfl⟩:=ry
  obtain ⟨its,r,pl,hz⟩:=I.tuple hq
  obtain ⟨j,h1,h2,h3,h4,h5⟩:=atI_get he
  obtain ⟨w,ew,rw'⟩:=r.get h2
  have hl:=r.length
  have hn:=line63
  have fin:EP X pins σ Q w s:=⟨z,H,I,rw',q⟩
  exact subscriptTail_builtinR (x:=w) pl.typeIs slot_tuple_getitem.lookup
    (getItem_tuple (j:=j) (Q:=fun r s'=>r=w∧EP X pins σ Q r s') pl (by omega) (by omega) (by rw [List.size_toArray,← hl]; exact h1) (by simpa using ew) ⟨rfl,fin⟩) hs
theorem ix_str:IxR X rIxS:=by
  intro value slice pins s σ H x y v u Q I rx ry h hs
  obtain ⟨z,i,c,rfl,rfl,hz,he,q⟩:=h
  obtain ⟨t,rfl⟩:=rx
  obtain ⟨t',rfl⟩:=ry
  obtain ⟨j,h1,h2,h3,h4,h5⟩:=atI_get he
  have hl:z.cps.toList.length=z.length:=by simp [Str.length]
  rw [hl] at h1 h4 h5
  have hn:=line63
  exact tail_any (typeIs_str s z t) slot_str_getitem.lookup (getItem_str (c:=c) (by
    have e1:decide (i < -(2 ^ 63:Int))=false:=decide_eq_false (by omega)
    have e2:decide (i ≥ 2 ^ 63)=false:=decide_eq_false (by omega)
    rw [e1,e2,Bool.or_false]) (by rw [h1]; simpa using h2) ⟨.str ⟨#[c]⟩,H,I.tok _,⟨_,rfl⟩,q⟩) hs
def rIx (K:PySem.W.Frag):R2:=fun x y H Q=>rIxL K x y H Q∨rIxT K x y H Q∨rIxS x y H Q
theorem ix_seq:IxR X (rIx X.K):=ix_list.or (ix_tup.or ix_str)
theorem slice_bounds (lo hi:Option Int) (n:Nat):(sliceBounds lo hi none n).1=((HT.sIx n 0 lo:Nat):Int)∧(sliceBounds lo hi none n).2.1=((HT.sIx n n hi:Nat):Int)∧(sliceBounds lo hi none n).2.2=1:=by
  refine ⟨?_,?_,rfl⟩
  · cases lo with
    | none=>simp [sliceBounds,HT.sIx]
    | some i =>
      simp only [sliceBounds,HT.sIx,Option.getD_none,show (1:Int) > 0 by decide,if_true]
      by_cases h:i < 0
      · simp only [h,if_true] <;> omega
      · simp only [h,if_false] <;> omega
  · cases hi with
    | none=>simp [sliceBounds,HT.sIx]
    | some i =>
      simp only [sliceBounds,HT.sIx,Option.getD_none,show (1:Int) > 0 by decide,if_true]
      by_cases h:i < 0
      · simp only [h,if_true] <;> omega
      · simp only [h,if_false] <;> omega
theorem slicePick_cut (its:List Value) (lo hi:Option Int):slicePick its.toArray lo hi none=((its.drop (HT.sIx its.length 0 lo)).take (HT.sIx its.length its.length hi - HT.sIx its.length 0 lo)).toArray:=by
  obtain ⟨h1,h2,h3⟩:=slice_bounds lo hi its.toArray.size
  unfold slicePick
  rw [h1,h2,h3]
  simp only [sliceRange_one,pick_run,List.size_toArray] <;> rfl
def rSlL (K:PySem.W.Frag):V→Option Int→Option Int→Hp→VK→Prop:=fun x lo hi H Q=>∃ a xs,x=.ref a∧SqL K H a xs∧∀ p,H p=none→Q (.ref p) (upd H p (.lst (cutV xs lo hi)))
theorem sl_list:SlR X (rSlL X.K):=by
  intro pins s σ H x v vl vu lo hi sl Q I rx hs pl pu h
  obtain ⟨a,xs,rfl,hx,q⟩:=h
  cases rx
  obtain ⟨its,r,ht,hz⟩:=I.list hx
  have hlen:=r.length
  refine ⟨"list", _,slot_list_getitem.lookup,ht.isList.typeIs,?_⟩
  refine wpAny_getItem_list_slice ht.isList hs pl pu .none (by simp) ?_ (by rw [List.size_toArray] <;> omega)
  rw [slicePick_cut,← hlen]
  refine ⟨.ref s.heap.objs.size,_,I.laid (t':=s.toks) (o:=.lst (cutV xs lo hi)) (fun b ob q=>Heap.get?_push_of_some _ q) (Nat.le_refl _) ?_,rfl,q _ (I.hok.fresh (Nat.le_refl _))⟩
  exact ⟨Nat.le_trans (cutV_length xs lo hi) hz,_,0,(r.drop (HT.sIx xs.length 0 lo)).take (HT.sIx xs.length xs.length hi - HT.sIx xs.length 0 lo),Heap.get?_push_size _ rfl⟩
def flatV:V→Bool
  | .non=>true
  | .bl _=>true
  | .int _=>true
  | .str _=>true
  | _=>false
def eqV:V→V→Bool
  | .non,.non=>true
  | .bl a,.bl b=>a==b
  | .bl a,.int b=>(if a then 1 else 0)==b
  | .int a,.bl b=>a==(if b then 1 else 0)
  | .int a,.int b=>a==b
  | .str a,.str b=>a==b
  | _,_=>false
theorem eqAt_V {A:Around} {s:Shared} {y x:V} {u v:Value} (ry:RelV y u) (rx:RelV x v) (fy:flatV y=true) (fx:flatV x=true):SeqAt.EqAt A s u v (eqV y x):=by
  cases y with
  | non =>
    cases ry
    cases x with
    | non=>cases rx; exact SeqAt.EqAt.same _
    | bl b=>cases rx; exact SeqAt.EqAt.none_bool b
    | int b=>obtain ⟨t,rfl⟩:=rx; exact SeqAt.EqAt.none_int b t
    | str b=>obtain ⟨t,rfl⟩:=rx; exact SeqAt.EqAt.none_str b t
    | _=>exact absurd (show false=true from fx) Bool.false_ne_true
  | bl a =>
    cases ry
    cases x with
    | non=>cases rx; exact SeqAt.EqAt.bool_none a
    | bl b=>cases rx; exact SeqAt.EqAt.bool_bool a b
    | int b=>obtain ⟨t,rfl⟩:=rx; exact SeqAt.EqAt.bool_int a b t
    | str b=>obtain ⟨t,rfl⟩:=rx; exact SeqAt.EqAt.bool_str a b t
    | _=>exact absurd (show false=true from fx) Bool.false_ne_true
  | int a =>
    obtain ⟨t',rfl⟩:=ry
    cases x with
    | non=>cases rx; exact SeqAt.EqAt.int_none a t'
    | bl b=>cases rx; exact SeqAt.EqAt.int_bool a t' b
    | int b=>obtain ⟨t,rfl⟩:=rx; exact SeqAt.EqAt.int_int a t' b t
    | str b=>obtain ⟨t,rfl⟩:=rx; exact SeqAt.EqAt.int_str a t' b t
    | _=>exact absurd (show false=true from fx) Bool.false_ne_true
  | str a =>
    obtain ⟨t',rfl⟩:=ry
    cases x with
    | non=>cases rx; exact SeqAt.EqAt.str_none a t'
    | bl b=>cases rx; exact SeqAt.EqAt.str_bool a t' b
    | int b=>obtain ⟨t,rfl⟩:=rx; exact SeqAt.EqAt.str_int a t' b t
    | str b=>obtain ⟨t,rfl⟩:=rx; exact SeqAt.EqAt.str_str a t' b t
    | _=>exact absurd (show false=true from fx) Bool.false_ne_true
  | _=>exact absurd (show false=true from fy) Bool.false_ne_true
def eqU (x:V) (u:Value):Bool:=match u with
  | .none=>eqV .non x
  | .bool b=>eqV (.bl b) x
  | .int i _=>eqV (.int i) x
  | .str z _=>eqV (.str z) x
  | _=>false
theorem eqU_of {x y:V} {u:Value} (r:RelV y u) (f:flatV y=true):eqU x u=eqV y x:=by
  cases y with
  | non=>cases r; rfl
  | bl b=>cases r; rfl
  | int i=>obtain ⟨t,rfl⟩:=r; rfl
  | str z=>obtain ⟨t,rfl⟩:=r; rfl
  | _=>exact absurd (show false=true from f) Bool.false_ne_true
theorem any_eqU {x:V}:∀ {xs:List V} {us:List Value},Vals xs us→xs.all flatV=true→us.any (eqU x)=xs.any fun y=>eqV y x
  | _,_,.nil,_=>rfl
  | y::xs,u::us,.cons r t,f=>by
    rw [List.all_cons,Bool.and_eq_true] at f
    rw [List.any_cons,List.any_cons,eqU_of r f.1,any_eqU t f.2]
theorem mem_eqAt {A:Around} {s:Shared} {x:V} {v:Value} (rx:RelV x v) (fx:flatV x=true):∀ {xs:List V} {us:List Value},Vals xs us→xs.all flatV=true→∀ u∈us,SeqAt.EqAt A s u v (eqU x u)
  | _,_,.nil,_=>fun u hu=>by cases hu
  | y::xs,u::us,.cons r t,f=>fun u' hu=>by
    rw [List.all_cons,Bool.and_eq_true] at f
    rcases List.mem_cons.mp hu with rfl | hu
    · rw [eqU_of r f.1]; exact eqAt_V r rx f.1 fx
    · exact mem_eqAt rx fx t f.2 u' hu
def inV (x:V) (xs:List V):Bool:=xs.any fun y=>eqV y x
def rIn (K:PySem.W.Frag) (neg:Bool):R2:=fun x y H Q=>∃ p xs,y=.ref p∧(SqL K H p xs∨SqT K H p xs)∧flatV x=true∧xs.all flatV=true∧Q (.bl (if neg then !inV x xs else inV x xs)) H
theorem op_in_seq:OpR X (compareOp .In) (rIn X.K false):=by
  intro pins s σ H x y v u Q I rx ry h
  obtain ⟨p,xs,rfl,hq,fx,fs,q⟩:=h
  cases ry
  rcases hq with hq | hq
  · obtain ⟨its,r,pl,hz⟩:=I.list hq
    refine SeqAt.in_listAt (eqU x) pl.isList (fun w hw=>mem_eqAt rx fx r fs w (by simpa using hw)) ⟨.bl _,H,I,rfl,?_⟩
    rw [show its.toArray.any (eqU x)=its.any (eqU x) by simp,any_eqU r fs]
    exact q
  · obtain ⟨its,r,pl,hz⟩:=I.tuple hq
    refine SeqAt.in_tupleAt (eqU x) pl (fun w hw=>mem_eqAt rx fx r fs w (by simpa using hw)) ⟨.bl _,H,I,rfl,?_⟩
    rw [show its.toArray.any (eqU x)=its.any (eqU x) by simp,any_eqU r fs]
    exact q
theorem op_notIn_seq:OpR X (compareOp .NotIn) (rIn X.K true):=by
  intro pins s σ H x y v u Q I rx ry h
  obtain ⟨p,xs,rfl,hq,fx,fs,q⟩:=h
  cases ry
  rcases hq with hq | hq
  · obtain ⟨its,r,pl,hz⟩:=I.list hq
    refine SeqAt.notIn_listAt (eqU x) pl.isList (fun w hw=>mem_eqAt rx fx r fs w (by simpa using hw)) ⟨.bl _,H,I,rfl,?_⟩
    rw [show its.toArray.any (eqU x)=its.any (eqU x) by simp,any_eqU r fs]
    exact q
  · obtain ⟨its,r,pl,hz⟩:=I.tuple hq
    refine SeqAt.notIn_tupleAt (eqU x) pl (fun w hw=>mem_eqAt rx fx r fs w (by simpa using hw)) ⟨.bl _,H,I,rfl,?_⟩
    rw [show its.toArray.any (eqU x)=its.any (eqU x) by simp,any_eqU r fs]
    exact q
theorem op_notIn_str:OpR X (compareOp .NotIn) (fun x y H Q=>∃ i j,x=.str i∧y=.str j∧Q (.bl (!(!(Builtin.Str.occurrences j i 0 j.length 1).isEmpty))) H):=by
  intro pins s σ H x y v u Q I rx ry h
  obtain ⟨i,j,rfl,rfl,q⟩:=h
  obtain ⟨t,rfl⟩:=rx
  obtain ⟨t',rfl⟩:=ry
  exact notIn_str ⟨.bl _,H,I,rfl,q⟩
theorem call_len_seq:CallR X (.builtin "len") (fun xs H Q=>∃ p ys,xs=[.ref p]∧(SqL X.K H p ys∨SqT X.K H p ys)∧Q (.int ys.length) H):=by
  intro pins s σ H xs us Q I r h
  obtain ⟨p,ys,rfl,hq,q⟩:=h
  obtain ⟨u,rfl,rx⟩:=vals1 r
  cases rx
  have hn:=line63
  rcases hq with hq | hq
  · obtain ⟨its,r',pl,hz⟩:=I.list hq
    have hlen:=r'.length
    exact Calls.call_len_list pl.isList (by simp only [List.size_toArray] <;> omega) ⟨.int ys.length,H,I.tok _,⟨s.toks+1,by rw [List.size_toArray,hlen]⟩,q⟩
  · obtain ⟨its,r',pl,hz⟩:=I.tuple hq
    have hlen:=r'.length
    exact len_tuple pl (by simp only [List.size_toArray] <;> omega) ⟨.int ys.length,H,I.tok _,⟨s.toks+1,by rw [List.size_toArray,hlen]⟩,q⟩
theorem call_len_str:CallR X (.builtin "len") (fun xs H Q=>∃ z,xs=[.str z]∧z.length≤sizeLine∧Q (.int z.length) H):=by
  intro pins s σ H xs us Q I r h
  obtain ⟨z,rfl,hz,q⟩:=h
  obtain ⟨u,rfl,t,rfl⟩:=vals1 r
  have hn:=line63
  exact len_str (by omega) ⟨.int z.length,H,I.tok _,⟨_,rfl⟩,q⟩
theorem CallR.or {f:Value} {r r':List V→Hp→VK→Prop} (h:CallR X f r) (h':CallR X f r'):CallR X f (fun xs H Q=>r xs H Q∨r' xs H Q):=by
  intro pins s σ H xs us Q I rs q
  rcases q with q | q
  · exact h pins s σ H xs us Q I rs q
  · exact h' pins s σ H xs us Q I rs q
theorem call_tuple_of:CallR X (.type "tuple") (fun xs H Q=>∃ p ys,xs=[.ref p]∧((SqL X.K H p ys∧∀ l,H l=none→Q (.ref l) (upd H l (.tup ys)))∨(SqT X.K H p ys∧Q (.ref p) H))):=by
  intro pins s σ H xs us Q I r h
  obtain ⟨p,ys,rfl,h⟩:=h
  obtain ⟨u,rfl,rx⟩:=vals1 r
  cases rx
  rcases h with ⟨hq,q⟩ | ⟨hq,q⟩
  · obtain ⟨its,r',pl,hz⟩:=I.list hq
    have hlen:=r'.length
    refine call_tuple_list pl.isList (fun h' kp=>?_) (by simp only [List.size_toArray] <;> omega)
    have I1:Inv X pins σ H { s with heap:=h' }:=I.kept (t':=s.toks) kp
    have I2:Inv X pins σ (upd H h'.objs.size (.tup ys)) { s with heap:=h'.push { cls:=.type "tuple", data:=.seq its.toArray } } :=
      I1.laid (t':=s.toks) (fun b o e=>Heap.get?_push_of_some _ e) (Nat.le_refl _) (show ObjOk X.prog X.w _ _ _ (.tup ys) from ⟨hz,its,r',IsTup.new _ _⟩)
    exact ⟨.ref h'.objs.size,_,I2,rfl,q _ (I1.hok.fresh (Nat.le_refl _))⟩
  · obtain ⟨its,r',pl,hz⟩:=I.tuple hq
    exact call_tuple_same pl ⟨.ref p,H,I,rfl,q⟩
def tyV (K:PySem.W.Frag) (T:String) (x:V) (H:Hp):Prop:=match x with
  | .str _=>T = "str"
  | .int _=>T = "int"
  | .ref p=>(T = "list" ∧ ∃ xs,SqL K H p xs)∨(T = "tuple" ∧ ∃ o,K.lookup p=some o∧o.cls=.type "tuple" ∧ o.dict=none) ∨
      (T = "dict" ∧ ((∃ kvs,H p=some (.dK kvs))∨∃ kvs,H p=some (.dT kvs)))∨(T = "set" ∧ ∃ S n,H p=some (.set S n))
  | _=>False
theorem tyV_is {pins:List (Addr×Obj)} {σ:St} {H:Hp} {s:Shared} {T:String} {x:V} {v:Value} (I:Inv X pins σ H s) (r:RelV x v) (ty:tyV X.K T x H) :
    s.TypeIs v T∧∀ a,v=.ref a→∃ ob,s.heap.get? a=some ob∧ob.dict=none:=by
  cases x with
  | str z =>
    obtain ⟨t,rfl⟩:=r
    cases (show T = "str" from ty)
    exact ⟨typeIs_str s z t,fun _ e=>nomatch e⟩
  | int i =>
    obtain ⟨t,rfl⟩:=r
    cases (show T = "int" from ty)
    exact ⟨typeIs_int s i t,fun _ e=>nomatch e⟩
  | ref p =>
    cases r
    rcases ty with ⟨rfl,xs,hq⟩ | ⟨rfl,o,hk,hc,hd⟩ | ⟨rfl,hk⟩ | ⟨rfl,S,n,hk⟩
    · obtain ⟨its,_,pl,_⟩:=I.list hq
      refine ⟨pl.isList.typeIs,fun a e=>?_⟩
      cases e
      obtain ⟨o,n,e,c,hd,_⟩:=pl
      exact ⟨o,e,hd⟩
    · refine ⟨⟨o,I.kIn p o hk,hc⟩,fun a e=>?_⟩
      cases e
      exact ⟨o,I.kIn _ o hk,hd⟩
    · have z:∃ o,s.heap.get? p=some o∧o.ExactDict:=by
        rcases hk with ⟨kvs,hk⟩ | ⟨kvs,hk⟩
        · obtain ⟨_,_,_,_,o,_,_,e,ex,_⟩:=I.hok p _ hk
          exact ⟨o,e,ex⟩
        · obtain ⟨_,_,_,_,o,_,_,e,ex,_⟩:=I.hok p _ hk
          exact ⟨o,e,ex⟩
      obtain ⟨o,e,ex⟩:=z
      refine ⟨⟨o,e,ex.1⟩,fun a e2=>?_⟩
      cases e2
      exact ⟨o,e,ex.2.1⟩
    · obtain ⟨o,_,_,_,e,ex,_⟩:=I.hok p _ hk
      refine ⟨⟨o,e,ex.1⟩,fun a e2=>?_⟩
      cases e2
      exact ⟨o,e,ex.2.1⟩
  | _=>exact False.elim ty
def tBM0 (K:PySem.W.Frag) (T:String) (r:V→List V→Hp→VK→Prop) (to:TE):TE:=fun σ H Q=>to σ H fun x H1=>tyV K T x H1∧r x [] H1 Q
def tBM (K:PySem.W.Frag) (T:String) (r:V→List V→Hp→VK→Prop) (to:TE) (t:TA):TE:=fun σ H Q=>to σ H fun x H1=>tyV K T x H1∧t σ H1 fun xs H2=>r x xs H2 Q
variable {o e:Expr} {es:List Expr} {to:TE} {t:TA} {name:Str} {apos cpos:Pos} {T id:String} {r:V→List V→Hp→VK→Prop}
theorem pe_bm0 (pa:PlainAttrs T) (slot:Slot T name id) (hty:typeOf (.builtin id)=pure (.type "method_descriptor")) (hm:MtR X id r) (ho:PE X o to)
    (hbase:attributeBase o name X.env (eval o X.env)=eval o X.env:=by rfl) (hline:(apos.endLine==cpos.line)=true:=by rfl):PE X (.Call (.Attribute o name apos) [] [] cpos) (tBM0 X.K T r to):=by
  intro pins s σ H Q I h
  refine wpAny_Call_method0_late hbase hline (thn (ho pins s σ H _ I h) fun v s1 ⟨x,H1,I1,r1,ty,q1⟩=>?_)
  obtain ⟨h1,h2⟩:=tyV_is I1 r1 ty
  exact ⟨T,id,pa,slot,hty,h1,h2,Calls.callWith_builtin rfl (PySem.evalArgs_none (hm pins s1 σ H1 x [] v [] Q I1 r1 .nil q1))⟩
theorem pe_bm (pa:PlainAttrs T) (slot:Slot T name id) (hty:typeOf (.builtin id)=pure (.type "method_descriptor")) (hm:MtR X id r) (ho:PE X o to) (ha:PA X (e::es) t)
    (hbase:attributeBase o name X.env (eval o X.env)=eval o X.env:=by rfl)
    (hfew:((backTo cpos (starEach (e::es) X.env)).all (fun x=>!x.1)&&(backToKw cpos (keywordEach [] X.env)).all (fun x=>x.1.isSome)
      && decide ((e::es).length+([]:List Keyword).length+(if ([]:List Keyword).isEmpty then 0 else 1) < 30))=true:=by rfl)
    (hline:(apos.endLine==cpos.line)=true:=by rfl) (hs:starEach (e::es) X.env=(false,eval e X.env)::starEach es X.env:=by rfl) (hplain:(backTo cpos (starEach es X.env)).any (·.1)=false:=by rfl) :
    PE X (.Call (.Attribute o name apos) (e::es) [] cpos) (tBM X.K T r to t):=by
  intro pins s σ H Q I h
  refine wpAny_Call_method_late hbase hfew hline rfl (thn (ho pins s σ H _ I h) fun v s1 ⟨x,H1,I1,r1,ty,q1⟩=>?_)
  obtain ⟨h1,h2⟩:=tyV_is I1 r1 ty
  refine ⟨T,id,pa,slot,hty,h1,h2,?_⟩
  have hA:=ha cpos pins s1 σ H1 _ I1 q1
  rw [hs] at hA ⊢
  refine Calls.callWith_builtin (by show (false||(backTo cpos (starEach es X.env)).any (·.1))=false; rw [hplain] <;> rfl) (Calls.evalArgs_plain ?_)
  exact thn hA fun us s2 ⟨vs,H2,I2,r2,q2⟩=>hm pins s2 σ H2 x vs v us Q I2 r1 r2 q2
/- xs.append(e),list.index on a module's tuple .. are MtR facts of 06m -/
end
end L2
namespace L2
open PySem PySem.Spec PyProof.Rows
def MtM (X:Cx) (id:String) (r:V→List V→Hp→VK→Prop):Prop :=
  ∀ (pins:List (Addr×Obj)) (s:Shared) (σ:St) (H:Hp) (x:V) (xs:List V) (v:Value) (us:List Value) (Q:VK),Inv X pins σ H s→RelV x v→Vals xs us→r x xs H Q →
    wpAny (model X.prog X.w) X.A (call (.builtin id) (v::us)) (EP X pins σ Q) X.xe s
theorem Vals.one:∀ {x:V} {us:List Value},Vals [x] us→∃ u,us=[u]∧RelV x u
  | _,_,.cons r .nil=>⟨_,rfl,r⟩
theorem Vals.zero:∀ {us:List Value},Vals [] us→us=[]
  | _,.nil=>rfl
theorem Vals.dropLast {xs:List V} {us:List Value} (h:Vals xs us):Vals xs.dropLast us.dropLast:=by
  induction h with
  | nil=>exact .nil
  | cons r t ih =>
    cases t with
    | nil=>exact .nil
    | cons q t'=>exact .cons r ih
theorem erase_last {α:Type} (l:List α):l.eraseIdx (l.length - 1)=l.dropLast:=by
  induction l with
  | nil=>rfl
  | cons a r ih =>
    cases r with
    | nil=>rfl
    | cons b r =>
      have e:(a::b::r).length - 1=((b::r).length - 1)+1:=by
        have h1:(a::b::r).length=r.length+2:=rfl
        have h2:(b::r).length=r.length+1:=rfl
        omega
      rw [e,List.eraseIdx_cons_succ,ih]
      all_goals rfl
section
variable {X:Cx} {pins:List (Addr×Obj)} {σ:St} {H:Hp} {s:Shared} {l b:Addr} {xs ys zs:List V}
theorem Inv.lset {its its':List Value} {n:Nat} {f:Array Value→Array Value} {t':Nat} (I:Inv X pins σ H s) (hH:H l=some (.lst xs))
    (e:s.heap.get? l=some { cls:=.type "list", data:=.seq its.toArray n }) (hf:f its.toArray=its'.toArray) (hv:Vals ys its') (hz:ys.length≤sizeLine) :
    Inv X pins σ (upd H l (.lst ys)) { s with heap:=s.heap.update l (Obj.mapSeq f),toks:=t' }:=by
  have q:=PySem.IsL.update e f
  rw [hf] at q
  refine I.write (x:=l) (e:=l) (by rw [hH]; exact trivial) (.inl rfl) (fun b' u hb hu=>(Heap.get?_update_other s.heap (Obj.mapSeq f) (Ne.symm hb)).trans hu) ⟨_,q⟩ ?_
  exact ⟨hz,its',_,hv,q⟩
theorem Inv.lnew {its:List Value} {t':Nat} (I:Inv X pins σ H s) (hv:Vals ys its) (hz:ys.length≤sizeLine) :
    Inv X pins σ (upd H s.heap.objs.size (.lst ys)) { s with heap:=s.heap.push { cls:=.type "list", data:=.seq its.toArray },toks:=t' } :=
  I.laid (fun _ _ q=>Heap.get?_push_of_some _ q) (Nat.le_refl _) ⟨hz,its,0,hv,Heap.get?_push_size _ rfl⟩
theorem Inv.fresh (I:Inv X pins σ H s):H s.heap.objs.size=none:=I.hok.fresh (Nat.le_refl _)
theorem Inv.lstM (I:Inv X pins σ H s) (hH:H l=some (.lst xs)):xs.length≤sizeLine∧∃ (its:List Value) (n:Nat),Vals xs its∧xs.length=its.length∧s.heap.get? l=some { cls:=.type "list", data:=.seq its.toArray n }:=by
  obtain ⟨z,its,n,r,e⟩:=I.hok l _ hH
  exact ⟨z,its,n,r,r.length,e⟩
theorem notLongL {n:Nat} (h:n≤sizeLine):Builtin.List.listTooLong n=false:=by
  unfold Builtin.List.listTooLong
  exact decide_eq_false (by omega)
end
section
variable {X:Cx}
def rAppend:V→List V→Hp→VK→Prop:=fun x vs H Q=>∃ l xs y,x=.ref l∧vs=[y]∧H l=some (.lst xs)∧xs.length < sizeLine∧Q .non (upd H l (.lst (xs++[y])))
theorem mt_append:MtM X "list.append" rAppend:=by
  intro pins s σ H x vs v us Q I rx rv h
  obtain ⟨l,xs,y,rfl,rfl,hH,hz,q⟩:=h
  cases rx
  obtain ⟨u,rfl,ru⟩:=rv.one
  obtain ⟨z,its,n,r,hl,e⟩:=I.lstM hH
  refine call_meets F.slot_list_append ⟨_,e,rfl⟩ F.entry_list_append (F.args_list_append_2 _ _) (PySem.list_append l its.toArray n u (by rw [List.size_toArray]; omega)) ⟨e,?_⟩
  refine ⟨.non,_,I.lset (its':=its++[u]) hH e (by simp) (r.append (.cons ru .nil)) ?_,rfl,q⟩
  rw [List.length_append,List.length_singleton]
  omega
def rPop:V→List V→Hp→VK→Prop:=fun x vs H Q=>∃ l xs y,x=.ref l∧vs=[]∧H l=some (.lst xs)∧xs[xs.length - 1]?=some y∧Q y (upd H l (.lst xs.dropLast))
theorem mt_pop:MtM X "list.pop" rPop:=by
  intro pins s σ H x vs v us Q I rx rv h
  obtain ⟨l,xs,y,rfl,rfl,hH,hy,q⟩:=h
  cases rx
  have hus:=rv.zero
  subst hus
  obtain ⟨z,its,n,r,hl,e⟩:=I.lstM hH
  obtain ⟨u,hu,ru⟩:=r.get hy
  have hy':its.toArray[its.toArray.size - 1]?=some u:=by
    show its.toArray[its.length - 1]?=some u
    rw [← Array.getElem?_toList,← hl]
    exact hu
  refine call_meets F.slot_list_pop ⟨_,e,rfl⟩ F.entry_list_pop (F.args_list_pop_1 _) (MeetsSeq.list_pop_last l its.toArray n u hy' (by rw [List.size_toArray]; omega)) ⟨e,?_⟩
  refine ⟨y,_,I.lset (its':=its.dropLast) hH e ?_ r.dropLast ?_,ru,q⟩
  · show its.toArray.eraseIdxIfInBounds (its.toArray.size - 1)=its.dropLast.toArray
    rw [List.size_toArray,List.eraseIdxIfInBounds_toArray,erase_last]
  · rw [List.length_dropLast]
    omega
end
end L2
namespace Att
open PySem PySem.W PySem.Calls PyProof.Rows
theorem ints_of_wellAll {P:Params} {h:Heap}:∀ (ns:List Int) (vs:List Value),WellAll P h vs (ns.map WData.int)→IntsAre vs ns:=by
  intro ns
  induction ns with
  | nil =>
    intro vs w
    rw [List.map_nil] at w
    cases w
    exact .nil
  | cons n ns ih =>
    intro vs w
    rw [List.map_cons] at w
    cases w with
    | cons a b =>
      cases a
      exact .cons _ _ (ih _ b)
theorem script_of {l:OpenLaw} {n:Nat} (hn:l.most=some n) {P:Params} {h:Heap} {args:List WData} {vals:List Value}
    (hpre:l.row.toRowW.claim.pre args=true) (hwl:WellAll P h vals args) :
    ∃ a vs ns,vals=[Value.ref a]∧args=[WData.list (ns.map WData.int)]∧h.get? a=some { cls:=.type "list", data:=.seq vs.toArray }∧IntsAre vs ns∧ns.length≤n:=by
  have hsh:WShape.hasAll [] args [.list .int]=true:=(pre_splitW hpre).1
  have hc:l.pre.holds [] { args:=args }=true:=(pre_splitW hpre).2
  obtain ⟨d,r,rfl,h1,h2⟩:=hasAllW_cons hsh
  obtain rfl:=hasAllW_nil h2
  obtain ⟨xs,rfl,h3⟩:=hasW_list h1
  obtain ⟨ns,rfl⟩:=items_int h3
  have hlen:ns.length≤n:=by
    unfold OpenLaw.pre at hc
    have h4:(WTm.not (.lt (.lit (.int (n:Int))) (.len (.arg 0)))).holds [] { args:=[.list (ns.map .int)] }=true:=by
      have h4:=(holds_andW hc).1
      rw [hn] at h4
      exact h4
    have h5:=condW_of h4 (w_not (w_lt w_lit (w_len_list (w_arg rfl))))
    rw [List.length_map] at h5
    refine Nat.le_of_not_lt fun q=>?_
    have q':(n:Int) < ((ns.length:Nat):Int):=by omega
    first
      | (rw [decide_eq_true q'] at h5; exact absurd h5 (by decide))
      | (simp at h5; omega)
  cases hwl with
  | cons w1 w2 =>
    cases w2
    cases w1 with
    | list ho hall=>exact ⟨_,_,ns,rfl,rfl,ho,ints_of_wellAll ns _ hall,hlen⟩
theorem post_true (l:OpenLaw) (args:List WData):l.row.toRowW.claim.post args (.bool true) args=true :=
  postW_of (r:=l.row.toRowW) (X:=(true==true))
    (show WShape.has [] (.bool true) .bool=true by first | rfl | decide | simp [WShape.has,WShape.arms,WShape.armsAll])
    (show (WTm.eq .res (.lit (.bool true))).value [] { args:=args,res:=some (.bool true),after:=args }=some (.bool (true==true)) from w_eq_bool (w_res rfl) w_lit) rfl
theorem attach_call {l:OpenLaw} {n:Nat} {q:Program} {loose:List Str} {XP:(Str→Option Value)→Heap→Prop} {YP:World→Heap→Prop} {d:DefRec}
    (hn:l.most=some n) (hdf:d.params.defaults=[])
    (call:∀ (w:World) (s₀ s₁:Shared) (mg mb:Str→Option Value) (fa:Addr) (o:Obj) (pm cd doc:Value) (a:Addr) (vs:List Value) (ns:List Int),
      Ground q loose [] XP w s₀ mg mb s₁.heap→YP w s₁.heap →
      s₁.heap.get? fa=some o→o.data=.func (docDef d.name d.params d.body d.scope pm cd doc)→s₁.heap.CodeRec cd d.name→mg d.name=some (.ref fa) →
      s₁.heap.get? a=some { cls:=.type "list", data:=.seq vs.toArray }→IntsAre vs ns→ns.length≤n→s₁.gens=#[] →
      codeAny (model l.prog w) callerA (.call (.ref fa) ⟨[.ref a],[]⟩) (fun r s'=>r=.ok (.ret (.bool true))∧OldK s₁.heap s'.heap∧s'.os=s₁.os∧AllBare s'.gens) s₁) :
    WalkO q loose XP YP l.row.toRowW d [] (fun f vs=>PySem.call f vs):=by
  intro w s₀ s₁ mg mb G Y fa o pm cd doc dV kV ho hd hcd hD hmg hg args vals as hpre hlay hrd hwl hlo
  obtain rfl:dV=.none:=Dflts.none hD hdf
  obtain rfl:kV=.none:=Dflts.noKw hD
  obtain ⟨a,vs,ns,rfl,rfl,hobj,hints,hlen⟩:=script_of hn hpre hwl
  refine enter_call (codeAny_mono (call w s₀ s₁ mg mb fa o pm cd doc a vs ns G Y ho (fd_plain hd) hcd hmg hobj hints hlen hg) fun r s' hq=>?_)
  obtain ⟨rfl,h2,h3,h4⟩:=hq
  exact ⟨.inl ⟨.bool true,.bool true,[],rfl,fun _=>rfl,.bool true,post_true l _,fun _=>⟨List.Pairwise.nil,fun _ hm=>(nomatch hm)⟩⟩,h2,h3,h4⟩
section
variable {prog:Program} {w:World} {A:Around} {E:Value→Shared→Prop} {s:Shared} {K:Frag}
end
end Att
namespace L2
open PySem PySem.Spec PyProof.Rows
theorem vals_ints:∀ {vs:List Value} {ns:List Int},IntsAre vs ns→Vals (ns.map V.int) vs
  | _,_,.nil=>.nil
  | _,_,.cons n t h=>.cons ⟨t,rfl⟩ (vals_ints h)
def Only (H:Hp):Prop:=∀ b,H b=none∨∃ o xs,H b=some (.frz o (.lst xs))
theorem law_call {P:Program} {w:World} {K:PySem.W.Frag} {mg mb:Str→Option Value} {CX:CXT} {k:Nat} {fa a:Addr} {fd:FuncData} {x:Str} {sp:Sp} {s₁:Shared} {vs:List Value} {ns:List Int}
    (KX:K.In s₁.heap) (hns:s₁.heap.Ns mainGlobals mg) (hb:s₁.heap.Ns builtinsNs mb) (hbb:∀ x:Str,x ≠ "__name__" → mb x=bootBuiltins x) (hlim:s₁.heap.NoLimit) (hg:s₁.gens=#[])
    (ha:s₁.heap.get? a=some { cls:=.type "list", data:=.seq vs.toArray }) (hi:IntsAre vs ns) (hl:ns.length≤sizeLine) (hr:Room k callerA)
    (F:∀ base:Heap,K.In base→base.Ns mainGlobals mg→FnOk P w K mg base CX k fa fd [x] sp) (hbind:∀ (s:Shared) (u:Value),BindsTo s fd ⟨[u],[]⟩ [(x,u)])
    (hsp:∀ H:Hp,Only H→SqL K H a (ns.map V.int)→sp [.ref a] H (fun v _=>v=.bl true) fun _ _ _=>False)
    (hCX:∀ H e s',CX [] H s₁ (fun _ _ _=>False) e s'→False) :
    codeAny (model P w) callerA (.call (.ref fa) ⟨[.ref a],[]⟩) (fun r s'=>r=.ok (.ret (.bool true))∧OldK s₁.heap s'.heap∧s'.os=s₁.os∧AllBare s'.gens) s₁:=by
  have rv:=vals_ints hi
  have lenV:=hi.length
  have core:∀ H:Hp,Only H→SqL K H a (ns.map V.int)→HOk P w H s₁.heap→(∀ b,H b≠none→b=a)→(H a≠none→K.lookup a=none) →
      codeAny (model P w) callerA (.call (.ref fa) ⟨[.ref a],[]⟩) (fun r s'=>r=.ok (.ret (.bool true))∧OldK s₁.heap s'.heap∧s'.os=s₁.os∧AllBare s'.gens) s₁:=by
    intro H hO hS hok hA hK
    have base_of:∀ {b:Addr} {o:Obj},s₁.heap.get? b=some o→H b=none→(hidT s₁.heap H).get? b=some o:=fun e n=>hidT_get e n
    have noA:∀ {b:Addr} {o:Obj} {es:Array DictEntry} {ep:Nat},s₁.heap.get? b=some o→o.data=.dict es ep→H b=none:=fun {b o es ep} e d=>by
      cases q:H b with
      | none=>rfl
      | some u =>
        have e':b=a:=hA b (by rw [q]; simp)
        subst e'
        rw [ha] at e; cases e
        have d':Data.seq vs.toArray _=Data.dict es ep:=d
        cases d'
    have nsK:∀ {b:Addr} {m:Str→Option Value},s₁.heap.Ns b m→(hidT s₁.heap H).Ns b m:=fun {b m} ⟨o,es,ep,e,d,r⟩=>⟨o,es,ep,base_of e (noA e d),d,r⟩
    have hKb:K.In (hidT s₁.heap H):=fun b o e=>base_of (KX b o e) (by
      cases q:H b with
      | none=>rfl
      | some u =>
        have e':b=a:=hA b (by rw [q]; simp)
        subst e'
        rw [hK (by rw [q]; simp)] at e; cases e)
    have hM:Mod K mg (hidT s₁.heap H):=⟨hKb,nsK hns,⟨mb,nsK hb,hbb⟩,let ⟨mc,h1,h2⟩:=hlim; ⟨mc,nsK h1,h2⟩⟩
    have e0:Env0 P w K mg (hidT s₁.heap H) callerA [] s₁ H:=⟨rfl,hM,fun b o e=>of_hidT e,Nat.le_of_eq (hidT_size _ _),trivial,fun b hb=>absurd (show b∈([]:List Addr) from hb) (by simp),hok,.of_eq hg⟩
    refine codeAny_mono ((F _ hKb (nsK hns)).run callerA [] s₁ H ⟨[.ref a],[]⟩ [.ref a] [.ref a] _ _ hr e0 (hbind s₁ (.ref a)) (.cons rfl .nil) (hsp H hO hS)) fun r s' h=>?_
    cases r with
    | error e=>exact (hCX H e s' h).elim
    | ok fl =>
      cases fl with
      | next=>exact False.elim h
      | brk=>exact False.elim h
      | cont=>exact False.elim h
      | ret u =>
        obtain ⟨v,H',os,bare,un,hok',r',q⟩:=h
        have q':v=.bl true:=q
        subst q'
        obtain rfl:u=Value.bool true:=r'
        refine ⟨rfl,OldK.of_keep fun b o e=>?_,os,bare⟩
        cases q:H b with
        | none=>exact un.keep b o e q (by intro z; exact absurd (show b∈([]:List Addr) from z) (by simp)) (by simp)
        | some u =>
          rcases hO b with z | ⟨ob,xs,z⟩
          · rw [q] at z; cases z
          · have z2:=un.frzs b ob _ z
            obtain ⟨e1,_⟩:=hok b _ z
            obtain ⟨e2,_⟩:=hok' b _ z2
            rw [e] at e1; cases e1
            exact e2
  cases hk:K.lookup a with
  | some o =>
    have e:=KX a o hk
    rw [ha] at e
    cases e
    refine core (fun _=>none) (fun _=>.inl rfl) (.inr ⟨_,vs.toArray,_,hk,rfl,rfl,rfl,by rw [List.size_toArray,lenV]; exact hl,by simpa using rv⟩) (fun b u z=>by have z':(none:Option HO)=some u:=z; cases z') (fun b z=>absurd rfl z) fun z=>absurd rfl z
  | none =>
    refine core (fun b=>if b=a then some (.frz { cls:=.type "list", data:=.seq vs.toArray } (.lst (ns.map V.int))) else none) (fun b=>?_) (.inl (.inr ⟨{ cls:=.type "list", data:=.seq vs.toArray },if_pos rfl⟩)) (fun b u z=>?_) (fun b z=>?_) fun _=>hk
    · by_cases hb:b=a
      · exact .inr ⟨_,_,if_pos hb⟩
      · exact .inl (if_neg hb)
    · by_cases hb:b=a
      · have z':=(if_pos hb).symm.trans z
        cases z'
        subst hb
        exact ⟨ha,by rw [List.length_map]; exact hl,vs,_,rv,ha⟩
      · have z':=(if_neg hb).symm.trans z
        cases z'
    · by_cases hb:b=a
      · exact hb
      · exact absurd (if_neg hb) z
end L2
namespace L2
open PySem PySem.Spec PyProof.Rows
abbrev KOf {K:PySem.W.Frag} {h:Heap} (_:K.In h):PySem.W.Frag:=K
theorem walk_of {l:PySem.W.OpenLaw} {n k:Nat} {q:Program} {loose:List Str} {XP:(Str→Option Value)→Heap→Prop} {YP:World→Heap→Prop} {d:DefRec} {K:Params→PySem.W.Frag} {CX:World→CXT} {sp:World→Sp} {x:Str}
    (hn:l.most=some n) (hn2:n≤sizeLine) (hdf:d.params.defaults=[]) (hr:Room k callerA)
    (hY:∀ (w:World) (h:Heap),YP w h→(K w.params).In h)
    (F:∀ (w:World) (mg:Str→Option Value) (fa:Addr) (h:Heap),(K w.params).In h→h.Ns mainGlobals mg→mg d.name=some (.ref fa) →
      ∃ fd:FuncData,(∀ (s:Shared) (u:Value),BindsTo s fd ⟨[u],[]⟩ [(x,u)]) ∧
        ∀ base:Heap,(K w.params).In base→base.Ns mainGlobals mg→FnOk l.prog w (K w.params) mg base (CX w) k fa fd [x] (sp w))
    (hsp:∀ (w:World) (H:Hp) (a:Addr) (ns:List Int),ns.length≤n→Only H→SqL (K w.params) H a (ns.map V.int)→sp w [.ref a] H (fun v _=>v=.bl true) fun _ _ _=>False)
    (hCX:∀ (w:World) (H:Hp) (s:Shared) (e:Value) (s':Shared),CX w [] H s (fun _ _ _=>False) e s'→False) :
    PySem.W.WalkO q loose XP YP l.row.toRowW d [] (fun f vs=>PySem.call f vs):=by
  refine Att.attach_call hn hdf fun w s₀ s₁ mg mb fa o pm cd doc a vs ns G Y ho hd hcd hmg hobj hints hlen hg=>?_
  have KX:=hY w _ Y
  obtain ⟨fd,hb,hF⟩:=F w mg fa _ KX G.T.g hmg
  exact law_call KX G.T.g G.T.b G.T.builtins G.T.nolimit hg hobj hints (Nat.le_trans hlen hn2) hr hF hb (fun H hO hS=>hsp w H a ns hlen hO hS) fun H e s'=>hCX w H s₁ e s'
end L2
/- THE LAST THEOREM (shape; LID,My.* are yours):
   My.Adr: a structure of the addresses that your layer names (classes,functions); My.Txt K t: a structure (Prop) of the equations over K;
   My.txt_mk:{K} {implicit addresses ..} (e1:nsIn K mainGlobals "law" = some (some (.ref f))) (e2:K.lookup f=some ⟨oc,od,.func (fnOf "law" "law" params body scope dV kV doc pm an cdv ct),sl⟩) (e3:codeIn K cdv "law" = true) ..:∃ t,My.Txt K t
set_option maxRecDepth 100000 in
set_option maxHeartbeats 0 in
theorem PySem.Challenge.cw_LID_holds:PySem.Challenge.rw_LID.Holds:=by
  w_on; o_law; k_head; (case hw=>w_witness2)
  k_fill
  refine L2.walk_of (l:=PySem.Challenge.rw_LID) (n:=63) (k:=40) (x := "script") (CX:=fun w=>..) (sp:=fun _=>My.sp_law) rfl (by decide) rfl ⟨rfl,by decide,by decide⟩ (fun w h Y=>PySem.W.kIn_of Y) ?F ?S ?C
  case F =>
    intro w mg fa h KX G hmg
    have T:∃ t,My.Txt (L2.KOf KX) t:=by
      dsimp only [L2.KOf]                          -- K must stand as «<heap const> w.params» for k_is
      refine' My.txt_mk ?e1 ?e2 ?e3 ..
      (case e1=>PySem.W.k_is)                    -- in the order: a name -> its address -> its object -> its parts
      (case e2=>PySem.W.k_is)
      ..
    obtain ⟨t,T⟩:=T
    have e0:=hmg.symm.trans (PySem.W.mg_of KX G T.law)
    cases e0                                       -- fa is the law's own address
    exact ⟨_,fun s u=>.of_eq rfl,fun base kb nb=>My.law_fn T kb nb⟩     -- if «.of_eq rfl» comes too early: refine' ⟨_,?b,fun base kb nb=>My.law_fn T kb nb⟩; exact fun s u=>.of_eq rfl
  case S=>exact fun w H a ns hl hO hS=>..
  case C=>exact ..
(the tactic k_is has no namespace: write k_is) -/
namespace L2
open PySem PySem.Spec PyProof.Rows
def inClass (s:Stmt) (j:Nat):Stmt:=match s with
  | .ClassDef _ _ _ body _ _ _ _ _ _ _=>body.getD j (.Pass ⟨0,0,0,0⟩)
  | _=>.Pass ⟨0,0,0,0⟩
def defArgs (s:Stmt):Arguments:=match s with
  | .FunctionDef _ a _ _ _ _ _ _ _ _=>a
  | _=>{ posonlyargs:=[],args:=[],vararg:=none,kwonlyargs:=[],kw_defaults:=[],kwarg:=none,defaults:=[] }
def defBody (s:Stmt):List Stmt:=match s with
  | .FunctionDef _ _ b _ _ _ _ _ _ _=>b
  | _=>[]
def defScope (s:Stmt):Scope:=match s with
  | .FunctionDef _ _ _ _ _ _ sc _ _ _=>sc
  | _=>{ kind:=.function,names:=[],isGenerator:=false,isCoroutine:=false }
abbrev CX0:CXT:=fun _ _ _ _ _ _=>False
abbrev E0:XK:=fun _ _ _=>False
theorem pass0 {X:Cx}:Passes CX0 X E0:=fun _ _ _ _ _ _ _ h=>h.elim
structure Fun (K:PySem.W.Frag) (x qual:Str) (st:Stmt) (f:Addr) (fd:FuncData):Prop where
  ex:∃ (oc:Value) (od:Option Addr) (kV doc pm:Value) (an:Option Addr) (cdv ct:Value) (osl:Array (Option Value)),
    fd=PySem.W.fnOf x qual (defArgs st) (defBody st) (defScope st) .none kV doc pm an cdv ct∧K.lookup f=some ⟨oc,od,.func fd,osl⟩∧PySem.W.codeIn K cdv qual=true
  kp:PySem.W.keepIn K (.ref f)=true
section
variable {P:Program} {w:World} {K:PySem.W.Frag} {mg:Str→Option Value} {base:Heap}
theorem Fun.ok {x qual:Str} {st:Stmt} {f:Addr} {fd:FuncData} {N ps:List Str} {k:Nat} {sp:Sp} (F:Fun K x qual st f fd) (S:FnScope N ps (defScope st)) (len:∀ vs H Q E,sp vs H Q E→vs.length=ps.length)
    (hbody:∀ (cdv:Value) (A:Around) (outer:List Env) (s:Shared) (H:Hp) (vs:List V) (Q:VK) (E:XK),Room k (A.deeper (envOfC qual (defScope st) s.heap.objs.size f cdv))→sp vs H Q E →
      ∃ t,PSs (cxOf CX0 P w K mg base N qual (defScope st) f cdv A outer s H E).nox (defBody st) t∧t { nx:=fun _ H'=>Q .non H',rt:=Q } (start N vs) H):FnOk P w K mg base CX0 (k+1) f fd ps sp:=by
  obtain ⟨oc,od,kV,doc,pm,an,cdv,ct,osl,rfl,lk,hcd⟩:=F.ex
  refine fn_of lk hcd S len fun A outer s H vs Q E hr hsp=>?_
  obtain ⟨t,h,q⟩:=hbody cdv A outer s H vs Q E hr hsp
  exact ⟨t,h.nox,q⟩
theorem Fun.binds {x qual:Str} {st:Stmt} {f:Addr} {fd:FuncData} {ps:List Str} (F:Fun K x qual st f fd)
    (h:∀ (kV doc pm:Value) (an:Option Addr) (cdv ct:Value) (us:List Value),us.length=ps.length→bindArgs (PySem.W.fnOf x qual (defArgs st) (defBody st) (defScope st) .none kV doc pm an cdv ct) ⟨us,[]⟩=pure (ps.zip us)):Binds K fd ps []:=by
  obtain ⟨oc,od,kV,doc,pm,an,cdv,ct,osl,rfl,lk,hcd⟩:=F.ex
  exact .all (h kV doc pm an cdv ct)
theorem fun_mk {x qual:Str} {st:Stmt} {f:Addr} {oc:Value} {od an:Option Addr} {osl:Array (Option Value)} {kV doc pm cdv ct:Value} (l:K.lookup f=some ⟨oc,od,.func (PySem.W.fnOf x qual (defArgs st) (defBody st) (defScope st) .none kV doc pm an cdv ct),osl⟩)
    (c:PySem.W.codeIn K cdv qual=true) (k:PySem.W.keepIn K (.ref f)=true):Fun K x qual st f (PySem.W.fnOf x qual (defArgs st) (defBody st) (defScope st) .none kV doc pm an cdv ct):=⟨⟨oc,od,kV,doc,pm,an,cdv,ct,osl,rfl,l,c⟩,k⟩
end
section
variable {X:Cx}
theorem pv (i:Nat) {x:Str} {pos:Pos} (hN:X.N[i]?=some x:=by rfl) (hv:Vis X.env.scope x:=by first | exact Or.inl rfl | exact Or.inr (Or.inl rfl) | exact Or.inr (Or.inr rfl)) (hd:(x==("__debug__" : Str))=false:=by decide)
    (hcd:(x==("__classdict__" : Str))=false:=by decide):PE X (.Name x pos) (tVar i):=pe_var hN hv hd hcd
end
theorem iteF {A B:Prop} (h:B):if false=true then A else B:=by
  rw [if_neg Bool.false_ne_true]
  exact h
theorem iteT {A B:Prop} (h:A):if true=true then A else B:=by
  rw [if_pos rfl]
  exact h
def Same (H H':Hp):Prop:=∀ b o,H b=some o→H' b=some o
theorem Same.refl (H:Hp):Same H H:=fun _ _ h=>h
theorem Same.trans {H H1 H2:Hp} (a:Same H H1) (b:Same H1 H2):Same H H2:=fun c o h=>b c o (a c o h)
theorem Same.free {H H':Hp} (e:Same H H') {l:Addr} (h:H' l=Option.none):H l=Option.none:=by
  cases q:H l with
  | none=>rfl
  | some o =>
    rw [e l o q] at h
    cases h
theorem Same.seq {K:PySem.W.Frag} {H H':Hp} {a:Addr} {xs:List V} (e:Same H H') (h:SqL K H a xs):SqL K H' a xs:=by
  rcases h with (h | ⟨o,h⟩) | h
  · exact .inl (.inl (e _ _ h))
  · exact .inl (.inr ⟨o,e _ _ h⟩)
  · exact .inr h
end L2
set_option autoImplicit false
namespace L2
open PySem PySem.Spec PyProof.Rows
section
variable {κ:Type} [DecidableEq κ]
end
structure M1 (X:Cx) (o:Expr) (m:Str) (apos:Pos) (e:Expr) (cpos:Pos):Prop where
  base:attributeBase o m X.env (eval o X.env)=eval o X.env
  few:((backTo cpos (starEach [e] X.env)).all (fun x=>!x.1)&&(backToKw cpos (keywordEach [] X.env)).all (fun x=>x.1.isSome)
    && decide (([e]:List Expr).length+([]:List Keyword).length+(if ([]:List Keyword).isEmpty then 0 else 1) < 30))=true
  line:(apos.endLine==cpos.line)=true
  trees:backTo cpos (starEach [e] X.env)=[(false,eval e X.env)]
structure M2 (X:Cx) (o:Expr) (m:Str) (apos:Pos) (e f:Expr) (cpos:Pos):Prop where
  base:attributeBase o m X.env (eval o X.env)=eval o X.env
  few:((backTo cpos (starEach [e,f] X.env)).all (fun x=>!x.1)&&(backToKw cpos (keywordEach [] X.env)).all (fun x=>x.1.isSome)
    && decide (([e,f]:List Expr).length+([]:List Keyword).length+(if ([]:List Keyword).isEmpty then 0 else 1) < 30))=true
  line:(apos.endLine==cpos.line)=true
  trees:backTo cpos (starEach [e,f] X.env)=[(false,eval e X.env),(false,eval f X.env)]
end L2
namespace L2
open PySem
def clGo (env:Env):List (Str×NameKind)→List (Str×Addr)→List (Str×Addr)
  | [],cs=>cs
  | (n,k)::r,cs=>clGo env r (if k==.free then (n,(env.cells.lookup n).getD 0)::cs else cs)
def clOf (scope:Scope) (env:Env):List (Str×Addr):=clGo env scope.names []
theorem closureFor_eq {scope:Scope} {env:Env} (h:∀ x∈scope.names,x.2=.free→∃ c,env.cells.lookup x.1=some c):closureFor scope env=pure (clOf scope env):=by
  unfold closureFor clOf
  have key:∀ (l:List (Str×NameKind)) (cs:List (Str×Addr)),(∀ x∈l,x.2=.free→∃ c,env.cells.lookup x.1=some c) →
      (forIn l cs (fun x (r:List (Str×Addr))=>match x with
        | (name,kind)=>if (kind==NameKind.free)=true then do let a ← cellOf env name; pure (ForInStep.yield ((name,a)::r)) else pure (ForInStep.yield r)):Sem (List (Str×Addr)))=pure (clGo env l cs):=by
    intro l
    induction l with
    | nil=>intro cs _; rfl
    | cons x r ih =>
      intro cs hx
      obtain ⟨n,k⟩:=x
      rw [List.forIn_cons]
      by_cases hk:(k==NameKind.free)=true
      · obtain ⟨c,hc⟩:=hx (n,k) List.mem_cons_self (by simpa using hk)
        have e:cellOf env n=pure c:=by unfold cellOf; rw [show env.cells.lookup n=some c from hc]
        simp only [hk,if_true,e,pure_bind]
        rw [ih _ fun y hy=>hx y (List.mem_cons_of_mem _ hy)]
        have hc':env.cells.lookup n=some c:=hc
        simp only [clGo,hk,if_true,hc',Option.getD_some]
      · simp only [hk,Bool.false_eq_true,if_false,pure_bind]
        rw [ih _ fun y hy=>hx y (List.mem_cons_of_mem _ hy)]
        simp only [clGo,hk,Bool.false_eq_true,if_false]
  have:=key scope.names [] h
  dsimp only
  rw [this]
  rfl
theorem clGo_mem (env:Env):∀ (l:List (Str×NameKind)) (cs:List (Str×Addr)) (p:Str×Addr),p∈clGo env l cs→p∈cs∨((p.1,NameKind.free)∈l∧p.2=(env.cells.lookup p.1).getD 0)
  | [],cs,p,h=>.inl h
  | (n,k)::r,cs,p,h=>by
    unfold clGo at h
    rcases clGo_mem env r _ p h with h | ⟨h1,h2⟩
    · by_cases hk:(k==NameKind.free)=true
      · rw [if_pos hk] at h
        rcases List.mem_cons.mp h with h | h
        · have e:k=.free:=by simpa using hk
          subst h; subst e
          exact .inr ⟨List.mem_cons_self,rfl⟩
        · exact .inl h
      · rw [if_neg hk] at h; exact .inl h
    · exact .inr ⟨List.mem_cons_of_mem _ h1,h2⟩
theorem clGo_has (env:Env):∀ (l:List (Str×NameKind)) (cs:List (Str×Addr)) (n:Str),((n,NameKind.free)∈l∨∃ a,(n,a)∈cs)→∃ a,(n,a)∈clGo env l cs
  | [],cs,n,h=>by
    rcases h with h | h
    · cases h
    · exact h
  | (m,k)::r,cs,n,h=>by
    unfold clGo
    refine clGo_has env r _ n ?_
    rcases h with h | ⟨a,h⟩
    · rcases List.mem_cons.mp h with h | h
      · cases h
        exact .inr ⟨_,by rw [if_pos (by simp)]; exact List.mem_cons_self⟩
      · exact .inl h
    · refine .inr ⟨a,?_⟩
      split
      · exact List.mem_cons_of_mem _ h
      · exact h
theorem lookup_of_mem_some {β:Type}:∀ {l:List (Str×β)} {n:Str} {a:β},(n,a)∈l→∃ b,l.lookup n=some b
  | [],_,_,h=>by cases h
  | (m,b)::r,n,a,h=>by
    rw [List.lookup_cons]
    by_cases e:n=m
    · subst e; simp
    · have hb:(n==m)=false:=by simpa using e
      rw [hb]
      rcases List.mem_cons.mp h with h | h
      · cases h; exact absurd rfl e
      · exact lookup_of_mem_some h
theorem clOf_in {scope:Scope} {env:Env} (h:∀ x∈scope.names,x.2=.free→∃ c,env.cells.lookup x.1=some c) {x:Str} {c:Addr} (e:(clOf scope env).lookup x=some c):env.cells.lookup x=some c:=by
  have m:=PySem.mem_of_lookup e
  rcases clGo_mem env scope.names [] (x,c) m with h' | ⟨h1,h2⟩
  · cases h'
  · obtain ⟨d,hd⟩:=h _ h1 rfl
    have hd':env.cells.lookup x=some d:=hd
    have h2':c=(env.cells.lookup x).getD 0:=h2
    rw [hd'] at h2' ⊢
    rw [h2']; rfl
theorem clOf_has {scope:Scope} {env:Env} {x:Str} (h:(x,NameKind.free)∈scope.names):∃ c,(clOf scope env).lookup x=some c:=by
  obtain ⟨a,ha⟩:=clGo_has env scope.names [] x (.inl h)
  exact lookup_of_mem_some ha
end L2
namespace L2
open PySem PySem.Spec PyProof.Rows
structure CompSc (X:Cx) (scope:Scope) (N':List Str) (mp:List (Option Nat)):Prop where
  kind:scope.kind=.function
  nocell:∀ x∈scope.names,x.2≠.cell
  names:∀ x∈scope.names,x.2=.local→scope.names.lookup x.1=some .local
  fr:∀ x∈scope.names,x.2=.free→X.env.scope.names.lookup x.1=some .cell∨X.env.scope.names.lookup x.1=some .free
  len:mp.length=N'.length
  map:∀ (i:Nat) (x:Str) (j:Nat),N'[i]?=some x→mp[i]?=some (some j)→X.N[j]?=some x∧(x,NameKind.free)∈scope.names∧((relabel scope X.env).names.lookup x=some .cell∨(relabel scope X.env).names.lookup x=some .free)
def inSt (mp:List (Option Nat)) (σ:St):St:=mp.map fun o=>o.bind fun j=>(σ[j]?).join
def compCx (X:Cx) (scope:Scope) (N':List Str) (s:Shared) (H:Hp) (fp:List Addr):Cx :=
  { X with N:=N',s₀:=s,H₀:=H,env:=compEnvC scope (clOf scope X.env) s.heap.objs.size X.env,outer:=X.stack,ex:=fp,fn:=fun _=>false,pn:=[],xe:=fun _ _=>False }
theorem relabel_free {scope:Scope} {env:Env} {x:Str} (nc:∀ y∈scope.names,y.2≠.cell) (h:(relabel scope env).names.lookup x=some .cell∨(relabel scope env).names.lookup x=some .free):(x,NameKind.free)∈scope.names:=by
  have m:∃ k,(x,k)∈(relabel scope env).names∧(k=.cell∨k=.free):=by
    rcases h with h | h
    · exact ⟨_,PySem.mem_of_lookup h,.inl rfl⟩
    · exact ⟨_,PySem.mem_of_lookup h,.inr rfl⟩
  obtain ⟨k,hm,hk⟩:=m
  unfold relabel at hm
  obtain ⟨⟨n,k'⟩,hin,e⟩:=List.mem_map.mp hm
  dsimp only at e
  split at e
  · rename_i hc
    have e1:n=x:=congrArg Prod.fst e
    have e2:k'=.free:=by
      have:=(Bool.and_eq_true_iff.mp (Bool.and_eq_true_iff.mp hc).1).1
      simpa using this
    rw [← e1,← e2]; exact hin
  · have e1:n=x:=congrArg Prod.fst e
    have e2:k'=k:=congrArg Prod.snd e
    rcases hk with hk | hk
    · exact absurd (e2.trans hk) (nc _ hin)
    · rw [← e1,← hk,← e2]; exact hin
section
variable {X:Cx} {pins:List (Addr×Obj)} {σ:St} {H:Hp} {s:Shared} {scope:Scope} {N':List Str} {mp:List (Option Nat)} {fp:List Addr}
theorem CompSc.cells (ck:CompSc X scope N' mp) (ok:X.Ok):∀ x∈scope.names,x.2=.free→∃ c,X.env.cells.lookup x.1=some c:=fun x hx hf=>ok.has x.1 (ck.fr x hx hf)
theorem Inv.inner (I:Inv X pins σ H s) (ck:CompSc X scope N' mp) (hf:∀ b∈fp,FpOk X pins H b) (hlt:∀ b∈fp,b < s.heap.objs.size) {h₁:Heap} {tk:Nat}
    (hn:h₁.Ns s.heap.objs.size (fun _=>none)) (hk:∀ b o,s.heap.get? b=some o→h₁.get? b=some o) :
    Inv (compCx X scope N' s H fp) [] (inSt mp σ) H { s with heap:=h₁,toks:=tk }:=by
  have hfree:=ck.cells I.ok
  have cin:∀ x c,(clOf scope X.env).lookup x=some c→X.env.cells.lookup x=some c:=fun x c e=>clOf_in hfree e
  have clt:∀ x c,X.env.cells.lookup x=some c→c < s.heap.objs.size:=fun x c e=>by
    obtain ⟨v,q⟩:=I.cell x c e
    exact q.lt
  refine ⟨⟨I.ok.mod,ck.kind,I.ok.glob,I.ok.blt,Nat.le_refl _,fun x y c h1 h2=>I.ok.inj x y c (cin x c h1) (cin y c h2),fun x hx=>?_,fun x c h _=>?_,I.ok.hd,I.ok.frames,.inl rfl,fun b hb=>⟨?_,fun x c e=>?_⟩,I.bs,Nat.le_trans I.ok.bsz I.sz,fun b o e hb=>?_,fun b hb hs=>?_,I.stack,I.stkFree⟩,
    rfl,I.bare,Un.kept hk,⟨_,hn,fun i x v h1 h2 h3=>?_⟩,fun x c e=>?_,I.hok.fresh (Nat.le_refl _),fun x c e=>?_,fun p hp=>absurd (show p∈([]:List (Addr×Obj)) from hp) (by simp),I.hok.kept hk,?_⟩
  · exact clOf_has (relabel_free ck.nocell hx)
  · exact absurd (show false=true from h) (by decide)
  · exact Nat.ne_of_lt (hlt b hb)
  · exact (hf b hb).2.2.2.2.1 x c (cin x c e)
  · have q:=(hf b hb).2.2.2.1
    rcases q with q | q
    · exact I.ok.noex b o e q
    · exact absurd (Nat.lt_of_lt_of_le (Heap.lt_size e) (Nat.le_trans I.ok.bsz q)) (Nat.lt_irrefl _)
  · rcases List.mem_cons.mp (I.stkSub b hs) with z | z
    · exact (hf b hb).2.1 z
    · exact (hf b hb).2.2.1 z
  · have hi:∃ j,mp[i]?=some (some j)∧σ[j]?=some (some v):=by
      unfold inSt at h2
      rw [List.getElem?_map] at h2
      cases q:mp[i]? with
      | none=>rw [q] at h2; cases h2
      | some o =>
        rw [q] at h2
        have h2':(o.bind fun j=>(σ[j]?).join)=some v:=Option.some.inj h2
        cases o with
        | none=>cases h2'
        | some j =>
          have h2'':(σ[j]?).join=some v:=h2'
          refine ⟨j,rfl,?_⟩
          cases r:σ[j]? with
          | none=>rw [r] at h2''; cases h2''
          | some w' =>
            rw [r] at h2''
            have:w'=some v:=h2''
            rw [this]
    obtain ⟨j,hj,hσ⟩:=hi
    obtain ⟨m1,m2,m3⟩:=ck.map i x j h1 hj
    obtain ⟨m,hm,hl⟩:=I.loc
    have vis:Vis X.env.scope x:=by
      rcases ck.fr _ m2 rfl with q | q
      · exact .inr (.inl q)
      · exact .inr (.inr q)
    obtain ⟨u,ru,l⟩:=hl j x v m1 hσ vis
    refine ⟨u,ru,.inr ⟨m3,?_⟩⟩
    obtain ⟨c,hc⟩:=clOf_has (env:=X.env) m2
    refine ⟨c,hc,?_⟩
    rcases l with ⟨k,_⟩ | ⟨_,c',e',z⟩
    · rcases ck.fr _ m2 rfl with q | q
      · have k':X.env.scope.names.lookup x=some .local:=k
        have q':X.env.scope.names.lookup x=some .cell:=q
        rw [k'] at q'; cases q'
      · have k':X.env.scope.names.lookup x=some .local:=k
        have q':X.env.scope.names.lookup x=some .free:=q
        rw [k'] at q'; cases q'
    · have e2:=cin x c hc
      rw [e'] at e2
      cases e2
      obtain ⟨o,ho,hd⟩:=z
      exact ⟨o,hk _ o ho,hd⟩
  · obtain ⟨v,o,ho,hd⟩:=I.cell x c (cin x c e)
    exact ⟨v,o,hk _ o ho,hd⟩
  · exact I.freeC x c (cin x c e)
  · show (inSt mp σ).length=N'.length
    unfold inSt
    rw [List.length_map]
    exact ck.len
theorem Inv.outer {σ':St} {H':Hp} {s':Shared} (I:Inv X pins σ H s) (hf:∀ b∈fp,FpOk X pins H b) (J:Inv (compCx X scope N' s H fp) [] σ' H' s'):Inv X pins σ H' s' :=
  I.call' (ch:=fp) J.os J.base J.hok J.bare fun b hb=>⟨(hf b hb).2.2.2.1,(hf b hb).2.1,(hf b hb).2.2.2.2.1,(hf b hb).2.2.2.2.2⟩
end
def KeepsSt (σ σ':St):Prop:=σ'.length=σ.length∧∀ (i:Nat) v,σ[i]?=some (some v)→σ'[i]?=some (some v)
def PTs (X:Cx) (ifs:List Expr) (t:TT):Prop :=
  ∀ (pins:List (Addr×Obj)) (s:Shared) (σ:St) (H:Hp) (Q:Bool→Hp→Prop),Inv X pins σ H s→t σ H Q →
    wpAny (model X.prog X.w) X.A (forIn ifs true fun c r=>if r=true then do let ok ← isTrue c X.env (eval c X.env); pure (ForInStep.yield ok) else pure (ForInStep.yield r)) (TP X pins σ Q) X.xe s
theorem pts_nil {X:Cx}:PTs X [] (fun _ H Q=>Q true H):=fun _ _ _ H _ I h=>wpAny_tests_nil ⟨H,I,h⟩
theorem pts_one {X:Cx} {c:Expr} {t:TT} (hc:PT X c t):PTs X [c] t:=fun pins s σ H Q I h=>wpAny_tests_one (hc pins s σ H Q I h)
def CompW (J:It) (σ':St) (g:TG) (tt:TT) (te:TE) (D:Addr) (Fin:Hp→Prop) (H1:Hp):Prop :=
  ∃ W:Nat→Nat→Hp→Prop,(∃ m,W 0 m (upd H1 D (.lst [])))∧∀ i m H,W i m H →
    (J.stop i H∧Fin H)∨(J.go i H∧∃ Nx:Hp→Prop,(∀ H',Nx H'→∃ m',m' < m∧W (i+1) m' H')∧∀ x H',J.yld i H x H'→g x σ' H' fun σ2 H2=>KeepsSt σ' σ2 ∧
      tt σ2 H2 fun ok H3=>if ok=true then te σ2 H3 fun y H4=>∃ ys,H4 D=some (.lst ys)∧ys.length < sizeLine∧Nx (upd H4 D (.lst (ys++[y]))) else Nx H3)
def tComp (mp:List (Option Nat)) (wi:TI) (g:TG) (tt:TT) (te:TE):TE:=fun σ H Q=>wi σ H fun J H1=>∀ D,H1 D=none→CompW J (inSt mp σ) g tt te D (fun H=>Q (.ref D) H) H1
theorem codeAny_compLoop_gen {prog:Program} {w:World} {A:Around} {R:Result→Shared→Prop} {s:Shared} {elt target iter:Expr} {ifs:List Expr} {scope:Scope} {pos:Pos} {it acc:Value} {env:Env} (I:Nat→Shared→Prop)
    (turn:∀ n s,I n s→wpAny (model prog w) A (pyNext it) (fun r s₁=>match r with
      | none=>R (.ok .next) s₁
      | some v=>wpAny (model prog w) A (letOwnedTupleGo target it v) (fun _ s₀=>wpAny (model prog w) A (assign target env v) (fun _ s₂ =>
          wpAny (model prog w) A (forIn ifs true fun c r=>if r=true then do let ok ← isTrue c env (eval c env); pure (ForInStep.yield ok) else pure (ForInStep.yield r)) (fun ok s₃ =>
            if ok=true then wpAny (model prog w) A (eval elt env) (fun x s₄ =>
              wpAny (model prog w) A (call (.builtin "list.append") [acc,x]) (fun _ s₅=>∃ m,m < n∧I m s₅) (fun _ _=>False) s₄) (fun _ _=>False) s₃
            else ∃ m,m < n∧I m s₃) (fun _ _=>False) s₂) (fun _ _=>False) s₀) (fun _ _=>False) s₁) (fun _ _=>False) s)
    (n:Nat) (h:I n s) :
    codeAny (model prog w) A (.compLoop (.ListComp elt [⟨target,iter,ifs,0⟩] scope pos) 0 it acc env) R s:=by
  refine codeAny_loop rfl I (fun n s hI=>?_) n h
  show wpAny _ A ((compTurn (.ListComp elt [⟨target,iter,ifs,0⟩] scope pos) 0 it acc env).onRaise (fun x=>do noteFrame x env; theTreesLotGoes x)) _ _ s
  refine wpAny_noted ?_
  rw [compTurn_list]
  have no:∀ {P:Value→Shared→Prop} (e:Value) (s':Shared),False→P e s':=fun _ _ f=>f.elim
  refine wpAny_bind (wpAny_standAt (wpAny_bind (wpAny_mono (turn n s hI) (fun r s₁ h₁=>?_) no)))
  cases r with
  | none=>exact wpAny_pure h₁
  | some v =>
    refine wpAny_bind (wpAny_mono h₁ (fun _ s₀ h₀=>?_) no)
    refine wpAny_bind (wpAny_mono h₀ (fun _ s₂ h₂=>wpAny_bind (wpAny_mono h₂ (fun ok s₃ h₃=>?_) no)) no)
    cases ok with
    | false=>exact wpAny_pure ⟨rfl,h₃⟩
    | true =>
      exact wpAny_bind (wpAny_bind (wpAny_mono h₃ (fun x s₄ h₄=>wpAny_bind (wpAny_mono h₄ (fun _ s₅ h₅=>wpAny_pure (wpAny_pure ⟨rfl,h₅⟩)) no)) no))
section
variable {X:Cx} {elt iter tg:Expr} {ifs:List Expr} {scope:Scope} {pos:Pos} {N':List Str} {mp:List (Option Nat)} {wi:TI} {g:TG} {tt:TT} {te:TE}
theorem comp_block {pins:List (Addr×Obj)} {σ:St} {H:Hp} {s:Shared} {J:It} {it:Addr} {fp:List Addr} {tn:Nat→Heap→Prop} {Fin:Hp→Prop} {E:Value→Shared→Prop} {RR:Value→Addr→Result→Shared→Prop}
    (hc:X.calm=true) (ck:CompSc X scope N' mp) (hb:∀ s H fp,PG (compCx X scope N' s H fp) tg g∧PTs (compCx X scope N' s H fp) ifs tt∧PE (compCx X scope N' s H fp) elt te)
    (I:Inv X pins σ H s) (T:Turn X.prog X.w X.K tg J fp it tn) (st:tn 0 s.heap) (hf:∀ b∈fp,FpOk X pins H b) (hq:CompW J (inSt mp σ) g tt te s.heap.objs.size Fin H)
    (hRR:∀ (C:Addr) (s':Shared) (H':Hp),Inv X pins σ H' s'→Fin H'→(∃ m,s'.heap.Ns C m)→H' C=none→C≠X.env.locals→X.s₀.heap.objs.size≤C→(∀ x c,X.env.cells.lookup x=some c→c≠C)→(∀ p∈X.pn++pins,p.1≠C)→RR (.ref s.heap.objs.size) C (.ok .next) s') :
    wpAny (model X.prog X.w) X.A (newList []) (fun acc s₃=>wpAny (model X.prog X.w) X.A (newFunctionEnv scope X.env.globals (clOf scope X.env) [] X.env.qual none .none (some X.env)) (fun cenv s₄ =>
      codeAny (model X.prog X.w) X.A (.compStart (.ListComp elt [⟨tg,iter,ifs,0⟩] scope pos) 0 (.ref it) acc { cenv with scope:=relabel scope X.env }) (RR acc cenv.locals) s₄) E s₃) E s:=by
  refine wpAny_newObj_type (wpAny_newFunctionEnv ck.nocell (by intro y hy; simp at hy) (fun h₁ hns₁ hsb₁=>?_) ck.kind)
  dsimp only at hns₁ hsb₁ ⊢
  have I3:Inv X pins σ (upd H s.heap.objs.size (.lst [])) { s with heap:=s.heap.push { cls:=.type "list", dict:=none,data:=.seq ([]:List Value).toArray } }:=I.lnew (its:=[]) (t':=s.toks) .nil (Nat.zero_le _)
  generalize hs3:({ s with heap:=s.heap.push { cls:=.type "list", dict:=none,data:=.seq ([]:List Value).toArray } }:Shared)=s3 at I3
  have e3:s.heap.push { cls:=.type "list", dict:=none,data:=.seq ([]:List Value).toArray }=s3.heap:=by rw [← hs3]
  rw [e3] at hns₁ hsb₁ ⊢
  have sz3:s3.heap.objs.size=s.heap.objs.size+1:=by rw [← e3,Heap.size_push]
  have le3:s.heap.objs.size≤s3.heap.objs.size:=by rw [sz3]; exact Nat.le_succ _
  have fplt:∀ b∈fp,b < s.heap.objs.size:=fun b hb=>by
    obtain ⟨o,e,_⟩:=T.obj 0 _ st b hb
    exact Heap.lt_size e
  have hf3:∀ b∈fp,FpOk X pins (upd H s.heap.objs.size (.lst [])) b:=fun b hb=>⟨by rw [upd_ne (Nat.ne_of_lt (fplt b hb))]; exact (hf b hb).1,(hf b hb).2⟩
  have k1:∀ b o,s3.heap.get? b=some o→h₁.get? b=some o:=fun b o e=>by
    rw [hsb₁.2 b (Nat.ne_of_lt (Heap.lt_size e))]
    exact Heap.get?_push_of_some _ e
  have k0:∀ b o,s.heap.get? b=some o→h₁.get? b=some o:=fun b o e=>k1 b o (by rw [← e3]; exact Heap.get?_push_of_some _ e)
  obtain ⟨W,⟨m0,w0⟩,turn⟩:=hq
  obtain ⟨hg,ht,he⟩:=hb s3 (upd H s.heap.objs.size (.lst [])) fp
  have no:∀ {P:Value→Shared→Prop} (e:Value) (s':Shared),False→P e s':=fun _ _ f=>f.elim
  have stat:∀ {H':Hp},(∀ b∈fp,H' b=none)→∀ b∈fp,FpOk (compCx X scope N' s3 (upd H s.heap.objs.size (.lst [])) fp) [] H' b:=fun hn b hb =>
    ⟨hn b hb,Nat.ne_of_lt (Nat.lt_of_lt_of_le (fplt b hb) le3),fun z=>by
      rcases List.mem_cons.mp (I3.stkSub b z) with z | z
      · exact (hf b hb).2.1 z
      · exact (hf b hb).2.2.1 z,.inl hb,fun x c e=>(hf b hb).2.2.2.2.1 x c (clOf_in (ck.cells I.ok) e),fun p hp=>absurd (show p∈([]:List (Addr×Obj)) from hp) (by simp)⟩
  have loop:∀ tk:Nat,codeAny (model X.prog X.w) X.A (.compLoop (.ListComp elt [⟨tg,iter,ifs,0⟩] scope pos) 0 (.ref it) (.ref s.heap.objs.size) (compEnvC scope (clOf scope X.env) s3.heap.objs.size X.env))
      (RR (.ref s.heap.objs.size) s3.heap.objs.size) { s3 with heap:=h₁,toks:=tk }:=by
    intro tk
    have I4:Inv (compCx X scope N' s3 (upd H s.heap.objs.size (.lst [])) fp) [] (inSt mp σ) (upd H s.heap.objs.size (.lst [])) { s3 with heap:=h₁,toks:=tk } :=
      I3.inner ck hf3 (fun b hb=>Nat.lt_of_lt_of_le (fplt b hb) le3) (by simpa using hns₁) k1
    refine codeAny_compLoop_gen (fun n s'=>∃ i H',Inv (compCx X scope N' s3 (upd H s.heap.objs.size (.lst [])) fp) [] (inSt mp σ) H' s'∧tn i s'.heap∧(∀ b∈fp,H' b=none)∧W i n H') ?_ m0
      ⟨0,_,I4,T.keep _ _ _ st fun b _ o e=>k0 b o e,fun b hb=>(hf3 b hb).1,w0⟩
    rintro n s5 ⟨i,H5,I5,st5,fr5,w5⟩
    rcases turn i n H5 w5 with ⟨stop,fin⟩ | ⟨go,Nx,hN,step⟩
    · refine thn (T.done (compCx X scope N' s3 (upd H s.heap.objs.size (.lst [])) fp) rfl rfl rfl hc i [] s5 (inSt mp σ) H5 _ I5 (stat fr5) st5 stop) fun r s6 ⟨hr,I6⟩=>?_
      subst hr
      have IO:Inv X pins σ H5 s6:=I3.outer hf3 I6
      obtain ⟨m,hm,_⟩:=I6.loc
      refine hRR _ s6 H5 IO fin ⟨m,hm⟩ I6.free (Nat.ne_of_gt I3.lt) I3.sz (fun x c e=>?_) fun p hp=>?_
      · obtain ⟨v,q⟩:=I3.cell x c e
        exact Nat.ne_of_lt q.lt
      · exact Nat.ne_of_lt (Heap.lt_size (I3.pin p hp).1)
    · refine thn (T.item (compCx X scope N' s3 (upd H s.heap.objs.size (.lst [])) fp) rfl rfl rfl hc i [] s5 (inSt mp σ) H5 _ I5 (stat fr5) st5 go) fun r s6 ⟨u,hr,h6⟩=>?_
      subst hr
      refine thn h6 fun _ s7 ⟨x,H7,I7,r7,y7,st7,fr7⟩=>?_
      have I7':=I7.pinned (stat fr7) (T.obj _ _ st7)
      have back:∀ {σ9:St} {H9:Hp} {s9:Shared},Inv (compCx X scope N' s3 (upd H s.heap.objs.size (.lst [])) fp) ([]++pinsAt fp s7.heap) σ9 H9 s9→KeepsSt (inSt mp σ) σ9→Nx H9 →
          ∃ m,m < n∧∃ i H',Inv (compCx X scope N' s3 (upd H s.heap.objs.size (.lst [])) fp) [] (inSt mp σ) H' s9∧tn i s9.heap∧(∀ b∈fp,H' b=none)∧W i m H':=fun {σ9 H9 s9} I9 ks n9=>by
        obtain ⟨m',hm,w9⟩:=hN H9 n9
        refine ⟨m',hm,i+1,H9,(Inv.unpinned (pins:=[]) I9).weak ks.1.symm ks.2,T.keep _ _ _ st7 fun b hb o e=>(I9.pin (b,o) (List.mem_append_right _ (List.mem_append_right _ (mem_pinsAt hb e)))).1,fun b hb=>?_,w9⟩
        obtain ⟨o,e,d⟩:=T.obj _ _ st7 b hb
        exact (I9.pin (b,o) (List.mem_append_right _ (List.mem_append_right _ (mem_pinsAt hb e)))).2.1
      refine thn (hg _ s7 (inSt mp σ) H7 x u _ I7' r7 (step x H7 y7)) fun _ s8 ⟨σ8,H8,I8,ks,q8⟩=>?_
      refine thn (ht _ s8 σ8 H8 _ I8 q8) fun ok s9 ⟨H9,I9,q9⟩=>?_
      cases ok with
      | false =>
        rw [if_neg Bool.false_ne_true] at q9 ⊢
        exact back I9 ks q9
      | true =>
        rw [if_pos rfl] at q9 ⊢
        refine thn (he _ s9 σ8 H9 _ I9 q9) fun y s10 ⟨yv,H10,I10,r10,ys,hD,hlen,nx⟩=>?_
        refine thn (mt_append _ s10 σ8 H10 (.ref s.heap.objs.size) [yv] (.ref s.heap.objs.size) [y] (fun _ H'=>Nx H') I10 rfl (.cons r10 .nil) ⟨_,ys,yv,rfl,rfl,hD,hlen,nx⟩) fun z s11 ⟨zv,H11,I11,_,n11⟩=>?_
        exact back I11 ks n11
  subst hs3
  exact codeAny_compStart_list (loop _) (T.self _ 0 _ _ _ (T.keep _ _ _ st fun b _ o e=>k0 b o e) (loop _))
theorem pe_comp (hc:X.calm=true) (ck:CompSc X scope N' mp) (hi:PI X tg iter wi)
    (hb:∀ s H fp,PG (compCx X scope N' s H fp) tg g∧PTs (compCx X scope N' s H fp) ifs tt∧PE (compCx X scope N' s H fp) elt te)
    (hs:∀ x,foldedSetIterable iter X.env x=pure x:=by intro _; rfl):PE X (.ListComp elt [⟨tg,iter,ifs,0⟩] scope pos) (tComp mp wi g tt te):=by
  intro pins s σ H Q I h
  rw [eval_ListComp]
  refine wpAny_comprehension_free (use:=none) rfl hs (closureFor_eq (ck.cells I.ok)) ck.kind ck.names ?_
  refine thn (hi pins s σ H _ I h) fun v s1 h1=>thn h1 fun itv s2 h2=>?_
  obtain ⟨it,fp,tn,J,H2,e,I2,T,st2,f2,q2⟩:=h2
  subst e
  refine comp_block hc ck hb I2 T st2 f2 (q2 _ (I2.hok.fresh (Nat.le_refl _))) fun C s' H' I' fin hm hC h1 h2 h3 h4=>?_
  obtain ⟨m,hm⟩:=hm
  refine ⟨m,hm,fun h' sb=>⟨.ref _,H',?_,rfl,fin⟩⟩
  exact I'.turned (t':=s'.toks) (fun b o hb e=>(sb.2 b hb).trans e) hC h1 (.inr h2) h3 h4
theorem ps_setComp {i:Nat} {y:Str} {py spos:Pos} (hc:X.calm=true) (hN:X.N.Nodup) (hiy:X.N[i]?=some y) (hy:X.env.scope.names.lookup y=some .local) (ck:CompSc X scope N' mp) (hi:PI X tg iter wi)
    (hb:∀ s H fp,PG (compCx X scope N' s H fp) tg g∧PTs (compCx X scope N' s H fp) ifs tt∧PE (compCx X scope N' s H fp) elt te)
    (hsw:swapsWith (.ListComp elt [⟨tg,iter,ifs,0⟩] scope pos) (some (.Name y py)) spos.line X.env=pure true:=by rfl)
    (hs:∀ x,foldedSetIterable iter X.env x=pure x:=by intro _; rfl) :
    PS X (.Assign [.Name y py] (.ListComp elt [⟨tg,iter,ifs,0⟩] scope pos) spos) (tAsg (tComp mp wi g tt te) (gName i)):=by
  intro pins s σ H D I h
  rw [exec_Assign_Name_used _ _ _ _ hsw]
  refine wpAny_bind (wpAny_standAt (wpAny_bind ?_))
  show wpAny _ X.A (do let _ ← comprehension (.ListComp elt [⟨tg,iter,ifs,0⟩] scope pos) scope X.env _ (newList []) false (eval iter X.env) (some (assign (.Name y py) X.env))) _ _ s
  refine wpAny_bind (wpAny_mono (wpAny_comprehension_free (use:=some (assign (.Name y py) X.env)) (Q:=fun _ s'=>SP X pins D .next s') rfl hs (closureFor_eq (ck.cells I.ok)) ck.kind ck.names ?_) (fun _ s' hq=>wpAny_pure (wpAny_pure hq)) fun _ _ e=>e)
  refine thn (hi pins s σ H _ I h) fun v s1 h1=>thn h1 fun itv s2 h2=>?_
  obtain ⟨it,fp,tn,J,H2,e,I2,T,st2,f2,q2⟩:=h2
  subst e
  refine comp_block hc ck hb I2 T st2 f2 (q2 _ (I2.hok.fresh (Nat.le_refl _))) fun C s' H' I' fin hm hC h1 h2 h3 h4=>?_
  obtain ⟨m,hm⟩:=hm
  refine wpAny_assign_Name (store_ok2 (v:=.ref s2.heap.objs.size) I' hN hiy (.inl hy) rfl (fun s'' I'' ⟨a,sb,ha⟩=>?_) (.inr hy))
  have hCa:C≠a:=by
    rcases ha with ha | ha
    · rw [ha]; exact h1
    · exact fun z=>h3 _ _ ha z.symm
  refine ⟨m,hm.sameBut sb hCa,fun h' sb'=>⟨_,H',?_,fin⟩⟩
  exact I''.turned (t':=s''.toks) (fun b o hb e=>(sb'.2 b hb).trans e) hC h1 (.inr h2) h3 h4
end
end L2
namespace L2.PU
open PySem PySem.Spec PyProof.Rows
def nst:Expr→Bool
  | .Starred _ _=>false
  | _=>true
theorem star_of {e:Expr} {es:List Expr} {env:Env} (h:nst e=true):starEach (e::es) env=(false,eval e env)::starEach es env:=by
  cases e <;> first | rfl | cases h
theorem plain_of {pos:Pos} {env:Env}:∀ {es:List Expr},es.all nst=true→(backTo pos (starEach es env)).any (·.1)=false
  | [],_=>rfl
  | e::es,h=>by
    rw [List.all_cons,Bool.and_eq_true] at h
    rw [star_of h.1]
    show (false||(backTo pos (starEach es env)).any (·.1))=false
    rw [plain_of h.2]; rfl
def kD:Key→PyData
  | .inl i=>.int i
  | .inr x=>.str x
mutual
def Rel (K:PySem.W.Frag) (F:Hp):PyData→V→Prop
  | .none,v=>v=.non
  | .bool b,v=>v=.bl b
  | .int i,v=>v=.int i
  | .str x,v=>v=.str x
  | .tuple ds,v=>∃ a xs,v=.ref a∧SqT K F a xs∧RelL K F ds xs
  | .list ds,v=>∃ a xs,v=.ref a∧SqL K F a xs∧RelL K F ds xs
  | .dict es,v=>∃ a ks,v=.ref a∧Rd F a (.dK ks)∧RelD K F es ks
def RelL (K:PySem.W.Frag) (F:Hp):List PyData→List V→Prop
  | [],xs=>xs=[]
  | d::ds,xs=>∃ x r,xs=x::r∧Rel K F d x∧RelL K F ds r
def RelD (K:PySem.W.Frag) (F:Hp):List (PyData×PyData)→List (Key×V)→Prop
  | [],ks=>ks=[]
  | (d,e)::es,ks=>∃ k x r,ks=(k,x)::r∧d=kD k∧Rel K F e x∧RelD K F es r
end
section
variable {K:PySem.W.Frag} {F F' H H':Hp}
theorem same_seqT {a:Addr} {xs:List V} (e:Same H H') (h:SqT K H a xs):SqT K H' a xs:=by
  rcases h with (h | ⟨o,h⟩) | h
  · exact .inl (.inl (e _ _ h))
  · exact .inl (.inr ⟨o,e _ _ h⟩)
  · exact .inr h
theorem rd_mono {a:Addr} {u:HO} (e:Same F F') (h:Rd F a u):Rd F' a u:=h.elim (fun h=>.inl (e _ _ h)) fun ⟨o,h⟩=>.inr ⟨o,e _ _ h⟩
theorem same_new {p:Addr} (h:H p=none) (o:HO):Same H (upd H p o):=fun b u q=>by rw [upd_ne (ne_of_none q h)]; exact q
mutual
theorem Rel.mono (e:Same F F'):∀ {d:PyData} {v:V},Rel K F d v→Rel K F' d v
  | .none,v,h=>by unfold Rel at h ⊢; exact h
  | .bool b,v,h=>by unfold Rel at h ⊢; exact h
  | .int i,v,h=>by unfold Rel at h ⊢; exact h
  | .str x,v,h=>by unfold Rel at h ⊢; exact h
  | .tuple ds,v,h=>by
    unfold Rel at h ⊢
    obtain ⟨a,xs,h1,h2,h3⟩:=h
    exact ⟨a,xs,h1,same_seqT e h2,RelL.mono e h3⟩
  | .list ds,v,h=>by
    unfold Rel at h ⊢
    obtain ⟨a,xs,h1,h2,h3⟩:=h
    exact ⟨a,xs,h1,e.seq h2,RelL.mono e h3⟩
  | .dict es,v,h=>by
    unfold Rel at h ⊢
    obtain ⟨a,ks,h1,h2,h3⟩:=h
    exact ⟨a,ks,h1,rd_mono e h2,RelD.mono e h3⟩
theorem RelL.mono (e:Same F F'):∀ {ds:List PyData} {xs:List V},RelL K F ds xs→RelL K F' ds xs
  | [],xs,h=>by unfold RelL at h ⊢; exact h
  | d::ds,xs,h=>by
    unfold RelL at h ⊢
    obtain ⟨x,r,h1,h2,h3⟩:=h
    exact ⟨x,r,h1,Rel.mono e h2,RelL.mono e h3⟩
theorem RelD.mono (e:Same F F'):∀ {es:List (PyData×PyData)} {ks:List (Key×V)},RelD K F es ks→RelD K F' es ks
  | [],ks,h=>by unfold RelD at h ⊢; exact h
  | (d,e')::es,ks,h=>by
    unfold RelD at h ⊢
    obtain ⟨k,x,r,h1,h2,h3,h4⟩:=h
    exact ⟨k,x,r,h1,h2,Rel.mono e h3,RelD.mono e h4⟩
end
theorem Rel.dct {es:List (PyData×PyData)} {v:V} (h:Rel K F (.dict es) v):∃ a ks,v=.ref a∧Rd F a (.dK ks)∧RelD K F es ks:=by unfold Rel at h; exact h
theorem rel_dct {es:List (PyData×PyData)} {a:Addr} {ks:List (Key×V)} (h:Rd F a (.dK ks)) (r:RelD K F es ks):Rel K F (.dict es) (.ref a):=by unfold Rel; exact ⟨a,ks,rfl,h,r⟩
theorem RelD.nil:RelD K F [] []:=by unfold RelD; rfl
theorem RelD.cons {k:Key} {e:PyData} {x:V} {es:List (PyData×PyData)} {ks:List (Key×V)} (h:Rel K F e x) (t:RelD K F es ks):RelD K F ((kD k,e)::es) ((k,x)::ks):=by unfold RelD; exact ⟨k,x,ks,rfl,rfl,h,t⟩
def prs (kvs:List (Key×PyData)):List (PyData×PyData):=kvs.map fun e=>(kD e.1,e.2)
theorem RelL.nil:RelL K F [] []:=by unfold RelL; rfl
theorem RelL.cons {d:PyData} {ds:List PyData} {x:V} {xs:List V} (h:Rel K F d x) (t:RelL K F ds xs):RelL K F (d::ds) (x::xs):=by unfold RelL; exact ⟨x,xs,rfl,h,t⟩
theorem RelL.nil_of {xs:List V} (h:RelL K F [] xs):xs=[]:=by unfold RelL at h; exact h
theorem RelL.cons_of {d:PyData} {ds:List PyData} {xs:List V} (h:RelL K F (d::ds) xs):∃ x r,xs=x::r∧Rel K F d x∧RelL K F ds r:=by unfold RelL at h; exact h
theorem RelL.length:∀ {ds:List PyData} {xs:List V},RelL K F ds xs→xs.length=ds.length
  | [],xs,h=>by rw [h.nil_of]; rfl
  | d::ds,xs,h=>by
    obtain ⟨x,r,rfl,_,h3⟩:=h.cons_of
    rw [List.length_cons,List.length_cons,RelL.length h3]
theorem RelL.append:∀ {ds es:List PyData} {xs ys:List V},RelL K F ds xs→RelL K F es ys→RelL K F (ds++es) (xs++ys)
  | [],es,xs,ys,h,k=>by rw [h.nil_of]; exact k
  | d::ds,es,xs,ys,h,k=>by
    obtain ⟨x,r,rfl,h2,h3⟩:=h.cons_of
    exact RelL.cons h2 (RelL.append h3 k)
theorem RelL.get:∀ {ds:List PyData} {xs:List V} {i:Nat} {d:PyData},RelL K F ds xs→ds[i]?=some d→∃ x,xs[i]?=some x∧Rel K F d x
  | [],_,_,_,_,e=>by simp at e
  | d::ds,xs,0,_,h,e=>by
    obtain ⟨x,r,rfl,h2,h3⟩:=h.cons_of
    have e':d=_:=Option.some.inj e
    exact ⟨x,rfl,e' ▸ h2⟩
  | d::ds,xs,i+1,d',h,e=>by
    obtain ⟨x,r,rfl,h2,h3⟩:=h.cons_of
    exact RelL.get (i:=i) h3 (by simpa using e)
theorem RelL.take:∀ {ds:List PyData} {xs:List V} (n:Nat),RelL K F ds xs→RelL K F (ds.take n) (xs.take n)
  | _,_,0,_=>by rw [List.take_zero,List.take_zero]; exact .nil
  | [],xs,n+1,h=>by rw [h.nil_of]; exact .nil
  | d::ds,xs,n+1,h=>by
    obtain ⟨x,r,rfl,h2,h3⟩:=h.cons_of
    exact RelL.cons h2 (RelL.take n h3)
theorem RelL.drop:∀ {ds:List PyData} {xs:List V} (n:Nat),RelL K F ds xs→RelL K F (ds.drop n) (xs.drop n)
  | _,_,0,h=>by simpa using h
  | [],xs,n+1,h=>by rw [h.nil_of]; exact .nil
  | d::ds,xs,n+1,h=>by
    obtain ⟨x,r,rfl,h2,h3⟩:=h.cons_of
    exact RelL.drop n h3
theorem Rel.non {v:V} (h:Rel K F .none v):v=.non:=by unfold Rel at h; exact h
theorem Rel.bl {b:Bool} {v:V} (h:Rel K F (.bool b) v):v=.bl b:=by unfold Rel at h; exact h
theorem Rel.int {i:Int} {v:V} (h:Rel K F (.int i) v):v=.int i:=by unfold Rel at h; exact h
theorem Rel.str {x:Str} {v:V} (h:Rel K F (.str x) v):v=.str x:=by unfold Rel at h; exact h
theorem Rel.tup {ds:List PyData} {v:V} (h:Rel K F (.tuple ds) v):∃ a xs,v=.ref a∧SqT K F a xs∧RelL K F ds xs:=by unfold Rel at h; exact h
theorem Rel.lst {ds:List PyData} {v:V} (h:Rel K F (.list ds) v):∃ a xs,v=.ref a∧SqL K F a xs∧RelL K F ds xs:=by unfold Rel at h; exact h
theorem rel_non:Rel K F .none .non:=by unfold Rel; rfl
theorem rel_bl {b:Bool}:Rel K F (.bool b) (.bl b):=by unfold Rel; rfl
theorem rel_int {i:Int}:Rel K F (.int i) (.int i):=by unfold Rel; rfl
theorem rel_str {x:Str}:Rel K F (.str x) (.str x):=by unfold Rel; rfl
theorem rel_tup {ds:List PyData} {a:Addr} {xs:List V} (h:SqT K F a xs) (r:RelL K F ds xs):Rel K F (.tuple ds) (.ref a):=by unfold Rel; exact ⟨a,xs,rfl,h,r⟩
theorem rel_lst {ds:List PyData} {a:Addr} {xs:List V} (h:SqL K F a xs) (r:RelL K F ds xs):Rel K F (.list ds) (.ref a):=by unfold Rel; exact ⟨a,xs,rfl,h,r⟩
theorem RelL.ints:∀ (ns:List Int),RelL K F (ns.map PyData.int) (ns.map V.int)
  | []=>.nil
  | _::r=>.cons rel_int (RelL.ints r)
structure Gr (F H F' H':Hp):Prop where
  ff:Same F F'
  hh:Same H H'
  fh:Same F' H'
  new:∀ b,F' b≠none→F b≠none∨H b=none
theorem Gr.refl (h:Same F H):Gr F H F H:=⟨.refl _,.refl _,h,fun _ q=>.inl q⟩
theorem Gr.trans {F1 H1 F2 H2:Hp} (a:Gr F H F1 H1) (b:Gr F1 H1 F2 H2):Gr F H F2 H2 :=
  ⟨a.ff.trans b.ff,a.hh.trans b.hh,b.fh,fun c q=>(b.new c q).elim (fun q=>a.new c q) fun q=>.inr (a.hh.free q)⟩
theorem Gr.one {p:Addr} {o:HO} (h:Same F H) (hp:H p=none):Gr F H (upd F p o) (upd H p o) where
  ff:=same_new (h.free hp) o
  hh:=same_new hp o
  fh:=fun b u q=>by
    by_cases e:b=p
    · subst e; rw [upd_same] at q ⊢; exact q
    · rw [upd_ne e] at q ⊢; exact h _ _ q
  new:=fun b q=>by
    by_cases e:b=p
    · subst e; exact .inr hp
    · rw [upd_ne e] at q; exact .inl q
end
inductive Sl where
  | un
  | val (d:PyData)
  | own (ds:List PyData)
  | odc (kvs:List (Key×PyData))
  | ob (fs:Str→Option PyData)
abbrev En:=List Sl
def isOwn:Sl→Bool
  | .own _=>true
  | .odc _=>true
  | _=>false
def CellR (K:PySem.W.Frag) (F:Hp):Sl→HO→Prop
  | .own ds,o=>∃ xs,o=.lst xs∧RelL K F ds xs
  | .odc kvs,o=>∃ ks,o=.dK ks∧RelD K F (prs kvs) ks
  | _,_=>False
def ObF (K:PySem.W.Frag) (C:Addr) (F:Hp) (fs:Str→Option PyData) (xs:List (Str×V)):Prop:=∀ f d,fs f=some d→NoAttr K C f∧∃ v,xs.lookup f=some v∧Rel K F d v
structure EnR (K:PySem.W.Frag) (He F H:Hp) (σ:St) (η:En):Prop where
  len:η.length=σ.length
  val:∀ (i:Nat) d,η[i]?=some (.val d)→∃ v,σ[i]?=some (some v)∧Rel K F d v
  cel:∀ (i:Nat) sl,η[i]?=some sl→isOwn sl=true→∃ p o,σ[i]?=some (some (.ref p))∧F p=none∧He p=none∧H p=some o∧CellR K F sl o
  apart:∀ (i j:Nat) a b,η[i]?=some a→η[j]?=some b→isOwn a=true→isOwn b=true→i≠j→σ[i]?≠σ[j]?
  obs:∀ (i:Nat) fs,η[i]?=some (.ob fs)→∃ p C dx xs,σ[i]?=some (some (.ref p))∧H p=some (.ins C dx xs)∧Cls K C∧ObF K C F fs xs
structure Bd where
  F:Hp
  H:Hp
structure SR (K:PySem.W.Frag) (B:Bd) (F H:Hp) (σ:St) (η:En):Prop where
  gr:Gr B.F B.H F H
  en:EnR K B.H F H σ η
section
variable {K:PySem.W.Frag} {B:Bd} {F H F' H':Hp} {σ:St} {η:En}
theorem CellR.mono (e:Same F F'):∀ {sl:Sl} {o:HO},CellR K F sl o→CellR K F' sl o
  | .own _,_,⟨xs,h1,h2⟩=>⟨xs,h1,h2.mono e⟩
  | .odc _,_,⟨xs,h1,h2⟩=>⟨xs,h1,h2.mono e⟩
  | .un,_,h=>h.elim
  | .val _,_,h=>h.elim
  | .ob _,_,h=>h.elim
theorem ObF.mono {C:Addr} {fs:Str→Option PyData} {xs:List (Str×V)} (e:Same F F') (h:ObF K C F fs xs):ObF K C F' fs xs:=fun f d q=>let ⟨a,v,b,c⟩:=h f d q; ⟨a,v,b,c.mono e⟩
theorem CellR.noins {sl:Sl} {o:HO} (h:CellR K F sl o) (C dx:Addr) (xs:List (Str×V)):o≠.ins C dx xs:=by
  cases sl with
  | own ds=>obtain ⟨ys,rfl,_⟩:=h; intro z; cases z
  | odc ds=>obtain ⟨ys,rfl,_⟩:=h; intro z; cases z
  | un=>exact h.elim
  | val _=>exact h.elim
  | ob _=>exact h.elim
theorem EnR.own {He:Hp} (r:EnR K He F H σ η) (i:Nat) (ds:List PyData) (e:η[i]?=some (.own ds)):∃ p xs,σ[i]?=some (some (.ref p))∧F p=none∧He p=none∧H p=some (.lst xs)∧RelL K F ds xs:=by
  obtain ⟨p,o,h1,h2,h3,h4,xs,rfl,h5⟩:=r.cel i _ e rfl
  exact ⟨p,xs,h1,h2,h3,h4,h5⟩
theorem EnR.odc {He:Hp} (r:EnR K He F H σ η) (i:Nat) (kvs:List (Key×PyData)) (e:η[i]?=some (.odc kvs)):∃ p ks,σ[i]?=some (some (.ref p))∧F p=none∧He p=none∧H p=some (.dK ks)∧RelD K F (prs kvs) ks:=by
  obtain ⟨p,o,h1,h2,h3,h4,xs,rfl,h5⟩:=r.cel i _ e rfl
  exact ⟨p,xs,h1,h2,h3,h4,h5⟩
theorem EnR.grow {He:Hp} (r:EnR K He F H σ η) (g:Gr F H F' H'):EnR K He F' H' σ η where
  len:=r.len
  val:=fun i d e=>let ⟨v,e1,e2⟩:=r.val i d e; ⟨v,e1,e2.mono g.ff⟩
  cel:=fun i sl e hs=>by
    obtain ⟨p,o,e1,e2,e3,e4,e5⟩:=r.cel i sl e hs
    refine ⟨p,o,e1,?_,e3,g.hh _ _ e4,e5.mono g.ff⟩
    cases q:F' p with
    | none=>rfl
    | some o =>
      rcases g.new p (by rw [q]; simp) with z | z
      · exact absurd e2 z
      · rw [e4] at z; cases z
  apart:=r.apart
  obs:=fun i fs e=>let ⟨p,C,dx,xs,e1,e2,e3,e4⟩:=r.obs i fs e; ⟨p,C,dx,xs,e1,g.hh _ _ e2,e3,e4.mono g.ff⟩
theorem SR.grow (r:SR K B F H σ η) (g:Gr F H F' H'):SR K B F' H' σ η:=⟨r.gr.trans g,r.en.grow g⟩
theorem SR.same (r:SR K B F H σ η):Same F H:=r.gr.fh
theorem EnR.set {He:Hp} (r:EnR K He F H σ η) (i:Nat) {d:PyData} {v:V} (h:Rel K F d v):EnR K He F H (σ.set i (some v)) (η.set i (.val d)) where
  len:=by rw [List.length_set,List.length_set]; exact r.len
  val:=fun j d' e=>by
    by_cases hj:i=j
    · subst hj
      by_cases hl:i < η.length
      · rw [List.getElem?_set_self hl] at e
        have e':d=d':=by injection (Option.some.inj e)
        subst e'
        exact ⟨v,by rw [List.getElem?_set_self (by rw [← r.len]; exact hl)],h⟩
      · rw [List.getElem?_eq_none (by rw [List.length_set]; omega)] at e; cases e
    · rw [List.getElem?_set_ne hj] at e ⊢; exact r.val j d' e
  cel:=fun j sl e hs=>by
    by_cases hj:i=j
    · subst hj
      by_cases hl:i < η.length
      · rw [List.getElem?_set_self hl] at e
        have e':Sl.val d=sl:=Option.some.inj e
        subst e'
        cases hs
      · rw [List.getElem?_eq_none (by rw [List.length_set]; omega)] at e; cases e
    · rw [List.getElem?_set_ne hj] at e ⊢; exact r.cel j sl e hs
  apart:=fun j k a b ej ek ha hb hjk=>by
    have no:∀ (j:Nat) a,(η.set i (.val d))[j]?=some a→isOwn a=true→i≠j:=fun j a ej ha hj=>by
      subst hj
      by_cases hl:i < η.length
      · rw [List.getElem?_set_self hl] at ej
        have e':Sl.val d=a:=Option.some.inj ej
        subst e'
        cases ha
      · rw [List.getElem?_eq_none (by rw [List.length_set]; omega)] at ej; cases ej
    have nj:=no j a ej ha
    have nk:=no k b ek hb
    rw [List.getElem?_set_ne nj] at ej ⊢
    rw [List.getElem?_set_ne nk] at ek ⊢
    exact r.apart j k a b ej ek ha hb hjk
  obs:=fun j fs e=>by
    by_cases hj:i=j
    · subst hj
      by_cases hl:i < η.length
      · rw [List.getElem?_set_self hl] at e; cases e
      · rw [List.getElem?_eq_none (by rw [List.length_set]; omega)] at e; cases e
    · rw [List.getElem?_set_ne hj] at e ⊢; exact r.obs j fs e
theorem EnR.setCell {He:Hp} (r:EnR K He F H σ η) (i:Nat) {sl:Sl} {p:Addr} {o:HO} (hsl:isOwn sl=true) (h1:F p=none) (h2:He p=none) (h3:H p=some o) (h4:CellR K F sl o)
    (h5:∀ (j:Nat),σ[j]?=some (some (.ref p))→∀ a,η[j]?=some a→isOwn a=false):EnR K He F H (σ.set i (some (.ref p))) (η.set i sl) where
  len:=by rw [List.length_set,List.length_set]; exact r.len
  val:=fun j d' e=>by
    by_cases hj:i=j
    · subst hj
      by_cases hl:i < η.length
      · rw [List.getElem?_set_self hl] at e
        have e':sl=.val d':=Option.some.inj e
        subst e'
        cases hsl
      · rw [List.getElem?_eq_none (by rw [List.length_set]; omega)] at e; cases e
    · rw [List.getElem?_set_ne hj] at e ⊢; exact r.val j d' e
  cel:=fun j a e ha=>by
    by_cases hj:i=j
    · subst hj
      by_cases hl:i < η.length
      · rw [List.getElem?_set_self hl] at e
        have e':sl=a:=Option.some.inj e
        subst e'
        exact ⟨p,o,by rw [List.getElem?_set_self (by rw [← r.len]; exact hl)],h1,h2,h3,h4⟩
      · rw [List.getElem?_eq_none (by rw [List.length_set]; omega)] at e; cases e
    · rw [List.getElem?_set_ne hj] at e ⊢; exact r.cel j a e ha
  apart:=fun j k a b ej ek ha hb hjk=>by
    by_cases hj:i=j
    · subst hj
      have hl:i < η.length:=by
        by_cases hl:i < η.length
        · exact hl
        · rw [List.getElem?_eq_none (by rw [List.length_set]; omega)] at ej; cases ej
      rw [List.getElem?_set_ne hjk] at ek ⊢
      rw [List.getElem?_set_self (by rw [← r.len]; exact hl)]
      exact fun z=>by rw [h5 k z.symm b ek] at hb; cases hb
    · by_cases hk:i=k
      · subst hk
        have hl:i < η.length:=by
          by_cases hl:i < η.length
          · exact hl
          · rw [List.getElem?_eq_none (by rw [List.length_set]; omega)] at ek; cases ek
        rw [List.getElem?_set_ne hj] at ej ⊢
        rw [List.getElem?_set_self (by rw [← r.len]; exact hl)]
        exact fun z=>by rw [h5 j z a ej] at ha; cases ha
      · rw [List.getElem?_set_ne hj] at ej ⊢
        rw [List.getElem?_set_ne hk] at ek ⊢
        exact r.apart j k a b ej ek ha hb hjk
  obs:=fun j fs e=>by
    by_cases hj:i=j
    · subst hj
      by_cases hl:i < η.length
      · rw [List.getElem?_set_self hl] at e
        have e':sl=.ob fs:=Option.some.inj e
        subst e'
        cases hsl
      · rw [List.getElem?_eq_none (by rw [List.length_set]; omega)] at e; cases e
    · rw [List.getElem?_set_ne hj] at e ⊢; exact r.obs j fs e
theorem EnR.setOwn {He:Hp} (r:EnR K He F H σ η) (i:Nat) {ds:List PyData} {p:Addr} {xs:List V} (h1:F p=none) (h2:He p=none) (h3:H p=some (.lst xs)) (h4:RelL K F ds xs)
    (h5:∀ (j:Nat),σ[j]?=some (some (.ref p))→∀ a,η[j]?=some a→isOwn a=false):EnR K He F H (σ.set i (some (.ref p))) (η.set i (.own ds)):=r.setCell i rfl h1 h2 h3 ⟨xs,rfl,h4⟩ h5
theorem EnR.notown {He:Hp} (r:EnR K He F H σ η) {p:Addr} (h:H p=none):∀ (j:Nat),σ[j]?=some (some (.ref p))→∀ a,η[j]?=some a→isOwn a=false:=fun j e a z=>by
  cases ha:isOwn a with
  | false=>rfl
  | true =>
    obtain ⟨q,o,e1,_,_,e4,_⟩:=r.cel j a z ha
    rw [e] at e1
    have:p=q:=by injection (Option.some.inj (Option.some.inj e1))
    rw [this,e4] at h; cases h
theorem EnR.putCell {He:Hp} (r:EnR K He F H σ η) {i:Nat} {sl sl':Sl} {p:Addr} {o:HO} (hi:η[i]?=some sl) (hs:isOwn sl=true) (hs':isOwn sl'=true) (hσ:σ[i]?=some (some (.ref p))) (h4:CellR K F sl' o) :
    EnR K He F (upd H p o) σ (η.set i sl') where
  len:=by rw [List.length_set]; exact r.len
  val:=fun j d' e=>by
    by_cases hj:i=j
    · subst hj
      rw [List.getElem?_set_self (List.getElem?_eq_some_iff.mp hi).1] at e
      have e':sl'=.val d':=Option.some.inj e
      subst e'
      cases hs'
    · rw [List.getElem?_set_ne hj] at e; exact r.val j d' e
  cel:=fun j a e ha=>by
    by_cases hj:i=j
    · subst hj
      rw [List.getElem?_set_self (List.getElem?_eq_some_iff.mp hi).1] at e
      have e':sl'=a:=Option.some.inj e
      subst e'
      obtain ⟨q,o1,e1,e2,e3,e4,e5⟩:=r.cel i sl hi hs
      rw [hσ] at e1
      have:p=q:=by injection (Option.some.inj (Option.some.inj e1))
      subst this
      exact ⟨p,o,hσ,e2,e3,upd_same,h4⟩
    · rw [List.getElem?_set_ne hj] at e
      obtain ⟨q,o1,e1,e2,e3,e4,e5⟩:=r.cel j a e ha
      refine ⟨q,o1,e1,e2,e3,?_,e5⟩
      rw [upd_ne]
      · exact e4
      · intro z
        subst z
        exact r.apart i j sl a hi e hs ha hj (by rw [hσ,e1])
  apart:=fun j k a b ej ek ha hb hjk=>by
    have aa:∀ (j:Nat) a,(η.set i sl')[j]?=some a→isOwn a=true→∃ a',η[j]?=some a'∧isOwn a'=true:=fun j a e ha=>by
      by_cases hj:i=j
      · subst hj; exact ⟨sl,hi,hs⟩
      · rw [List.getElem?_set_ne hj] at e; exact ⟨a,e,ha⟩
    obtain ⟨a',e1,f1⟩:=aa j a ej ha
    obtain ⟨b',e2,f2⟩:=aa k b ek hb
    exact r.apart j k a' b' e1 e2 f1 f2 hjk
  obs:=fun j fs e=>by
    by_cases hj:i=j
    · subst hj
      rw [List.getElem?_set_self (List.getElem?_eq_some_iff.mp hi).1] at e
      have e':sl'=.ob fs:=Option.some.inj e
      subst e'
      cases hs'
    · rw [List.getElem?_set_ne hj] at e
      obtain ⟨q,C,dx,xs,e1,e2,e3,e4⟩:=r.obs j fs e
      refine ⟨q,C,dx,xs,e1,?_,e3,e4⟩
      obtain ⟨p',o1,f1,_,_,f4,f5⟩:=r.cel i sl hi hs
      rw [hσ] at f1
      have:p=p':=by injection (Option.some.inj (Option.some.inj f1))
      subst this
      rw [upd_ne]
      · exact e2
      · intro z
        subst z
        rw [f4] at e2
        exact f5.noins _ _ _ (Option.some.inj e2)
theorem EnR.putOwn {He:Hp} (r:EnR K He F H σ η) {i:Nat} {ds es:List PyData} {p:Addr} {ys:List V} (hi:η[i]?=some (.own ds)) (hσ:σ[i]?=some (some (.ref p))) (h4:RelL K F es ys) :
    EnR K He F (upd H p (.lst ys)) σ (η.set i (.own es)):=r.putCell hi rfl rfl hσ ⟨ys,rfl,h4⟩
theorem SR.freezeCell (r:SR K B F H σ η) {i:Nat} {sl:Sl} {d:PyData} {p:Addr} {o:HO} (hi:η[i]?=some sl) (hs:isOwn sl=true) (e1:σ[i]?=some (some (.ref p))) (e2:F p=none) (e3:B.H p=none) (e4:H p=some o) (rel:Rel K (upd F p o) d (.ref p)) :
    Same F (upd F p o)∧SR K B (upd F p o) H σ (η.set i (.val d)):=by
  have sn:=same_new (H:=F) e2 o
  refine ⟨sn,⟨⟨r.gr.ff.trans sn,r.gr.hh,?_,?_⟩,?_⟩⟩
  · intro b u q
    by_cases e:b=p
    · subst e; rw [upd_same] at q; rw [← q]; exact e4
    · rw [upd_ne e] at q; exact r.gr.fh _ _ q
  · intro b q
    by_cases e:b=p
    · subst e; exact .inr e3
    · rw [upd_ne e] at q; exact r.gr.new b q
  · refine ⟨by rw [List.length_set]; exact r.en.len,fun j d' e=>?_,fun j a e ha=>?_,fun j k a b ej ek ha hb hjk=>?_,fun j fs e=>?_⟩
    · by_cases hj:i=j
      · subst hj
        rw [List.getElem?_set_self (List.getElem?_eq_some_iff.mp hi).1] at e
        have e':d=d':=by injection (Option.some.inj e)
        subst e'
        exact ⟨_,e1,rel⟩
      · rw [List.getElem?_set_ne hj] at e
        obtain ⟨v,q1,q2⟩:=r.en.val j d' e
        exact ⟨v,q1,q2.mono sn⟩
    · by_cases hj:i=j
      · subst hj
        rw [List.getElem?_set_self (List.getElem?_eq_some_iff.mp hi).1] at e
        have e':Sl.val d=a:=Option.some.inj e
        subst e'
        cases ha
      · rw [List.getElem?_set_ne hj] at e
        obtain ⟨q,o1,q1,q2,q3,q4,q5⟩:=r.en.cel j a e ha
        refine ⟨q,o1,q1,?_,q3,q4,q5.mono sn⟩
        rw [upd_ne]
        · exact q2
        · intro z
          subst z
          exact r.en.apart i j sl a hi e hs ha hj (by rw [e1,q1])
    · have no:∀ (j:Nat) a,(η.set i (.val d))[j]?=some a→isOwn a=true→i≠j:=fun j a ej ha hj=>by
        subst hj
        rw [List.getElem?_set_self (List.getElem?_eq_some_iff.mp hi).1] at ej
        have e':Sl.val d=a:=Option.some.inj ej
        subst e'
        cases ha
      have nj:=no j a ej ha
      have nk:=no k b ek hb
      rw [List.getElem?_set_ne nj] at ej
      rw [List.getElem?_set_ne nk] at ek
      exact r.en.apart j k a b ej ek ha hb hjk
    · by_cases hj:i=j
      · subst hj
        rw [List.getElem?_set_self (List.getElem?_eq_some_iff.mp hi).1] at e; cases e
      · rw [List.getElem?_set_ne hj] at e
        obtain ⟨q,C,dx,xs,q1,q2,q3,q4⟩:=r.en.obs j fs e
        exact ⟨q,C,dx,xs,q1,q2,q3,q4.mono sn⟩
theorem SR.freeze (r:SR K B F H σ η) {i:Nat} {ds:List PyData} (hi:η[i]?=some (.own ds)):∃ F' p,σ[i]?=some (some (.ref p))∧Same F F'∧SR K B F' H σ (η.set i (.val (.list ds)))∧Rel K F' (.list ds) (.ref p):=by
  obtain ⟨p,xs,e1,e2,e3,e4,e5⟩:=r.en.own i ds hi
  have rel:Rel K (upd F p (.lst xs)) (.list ds) (.ref p):=rel_lst (SqL.of upd_same) (e5.mono (same_new (H:=F) e2 (.lst xs)))
  obtain ⟨h1,h2⟩:=r.freezeCell hi rfl e1 e2 e3 e4 rel
  exact ⟨_,p,e1,h1,h2,rel⟩
theorem SR.freezeD (r:SR K B F H σ η) {i:Nat} {kvs:List (Key×PyData)} (hi:η[i]?=some (.odc kvs)):∃ F' p,σ[i]?=some (some (.ref p))∧Same F F'∧SR K B F' H σ (η.set i (.val (.dict (prs kvs))))∧Rel K F' (.dict (prs kvs)) (.ref p):=by
  obtain ⟨p,ks,e1,e2,e3,e4,e5⟩:=r.en.odc i kvs hi
  have rel:Rel K (upd F p (.dK ks)) (.dict (prs kvs)) (.ref p):=rel_dct (.inl upd_same) (e5.mono (same_new (H:=F) e2 (.dK ks)))
  obtain ⟨h1,h2⟩:=r.freezeCell hi rfl e1 e2 e3 e4 rel
  exact ⟨_,p,e1,h1,h2,rel⟩
end
section
variable (K:PySem.W.Frag) (B:Bd)
def tE (f:En→Option PyData):TE:=fun σ H Q=>∃ F η d,SR K B F H σ η∧f η=some d∧∀ v F' H',Gr F H F' H'→Rel K F' d v→Q v H'
def tO (f:En→Option (List PyData)):TE:=fun σ H Q=>∃ F η ds,SR K B F H σ η∧f η=some ds∧∀ p xs F' H',Gr F H F' H'→H p=none→F' p=none→H' p=some (.lst xs)→RelL K F' ds xs→Q (.ref p) H'
def tT (f:En→Option Bool):TT:=fun σ H Q=>∃ F η b,SR K B F H σ η∧f η=some b∧∀ F' H',Gr F H F' H'→Q b H'
def tA (f:En→Option (List PyData)):TA:=fun σ H Q=>∃ F η ds,SR K B F H σ η∧f η=some ds∧∀ vs F' H',Gr F H F' H'→RelL K F' ds vs→Q vs H'
end
def E (X:Cx) (B:Bd) (e:Expr) (f:En→Option PyData):Prop:=PE X e (tE X.K B f)
def EO (X:Cx) (B:Bd) (e:Expr) (f:En→Option (List PyData)):Prop:=PE X e (tO X.K B f)
def T (X:Cx) (B:Bd) (e:Expr) (f:En→Option Bool):Prop:=PT X e (tT X.K B f)
def TW (X:Cx) (B:Bd) (e:Expr) (f:En→Option Bool):Prop:=PW X e (tT X.K B f)
def A (X:Cx) (B:Bd) (es:List Expr) (f:En→Option (List PyData)):Prop:=PA X es (tA X.K B f)
theorem PE.imp {X:Cx} {e:Expr} {t t':TE} (h:PE X e t) (i:∀ σ H Q,t' σ H Q→t σ H Q):PE X e t':=fun pins s σ H Q I q=>h pins s σ H Q I (i σ H Q q)
theorem PT.imp {X:Cx} {e:Expr} {t t':TT} (h:PT X e t) (i:∀ σ H Q,t' σ H Q→t σ H Q):PT X e t':=fun pins s σ H Q I q=>h pins s σ H Q I (i σ H Q q)
theorem PW.imp {X:Cx} {e:Expr} {t t':TT} (h:PW X e t) (i:∀ σ H Q,t' σ H Q→t σ H Q):PW X e t':=fun wh pins s σ H Q I q=>h wh pins s σ H Q I (i σ H Q q)
theorem PA.imp {X:Cx} {e:List Expr} {t t':TA} (h:PA X e t) (i:∀ σ H Q,t' σ H Q→t σ H Q):PA X e t':=fun pos pins s σ H Q I q=>h pos pins s σ H Q I (i σ H Q q)
def eV (i:Nat):En→Option PyData:=fun η=>match η[i]? with | some (.val d)=>some d | _=>none
def eC (d:PyData):En→Option PyData:=fun _=>some d
def l1 (o:PyData→Option PyData) (f:En→Option PyData):En→Option PyData:=fun η=>(f η).bind o
def l2 (o:PyData→PyData→Option PyData) (f g:En→Option PyData):En→Option PyData:=fun η=>(f η).bind fun x=>(g η).bind fun y=>o x y
def aN:En→Option (List PyData):=fun _=>some []
def aC (f:En→Option PyData) (g:En→Option (List PyData)):En→Option (List PyData):=fun η=>(f η).bind fun x=>(g η).bind fun xs=>some (x::xs)
def lA (o:List PyData→Option PyData) (f:En→Option (List PyData)):En→Option PyData:=fun η=>(f η).bind o
section
variable {X:Cx} {B:Bd} {a b c e:Expr} {es:List Expr} {f g h:En→Option PyData} {fs:En→Option (List PyData)} {pos:Pos}
theorem bind_some {α β:Type} {o:Option α} {k:α→Option β} {y:β} (h:o.bind k=some y):∃ x,o=some x∧k x=some y:=by
  cases o with
  | none=>cases h
  | some x=>exact ⟨x,rfl,h⟩
def Ad2 (K:PySem.W.Frag) (r:R2) (o:PyData→PyData→Option PyData):Prop :=
  ∀ F H x y dx dy d Q,Same F H→Rel K F dx x→Rel K F dy y→o dx dy=some d→(∀ v F' H',Gr F H F' H'→Rel K F' d v→Q v H')→r x y H Q
theorem t2 {K:PySem.W.Frag} {r:R2} {o:PyData→PyData→Option PyData} (ad:Ad2 K r o):∀ σ H Q,tE K B (l2 o f g) σ H Q→tOp r (tE K B f) (tE K B g) σ H Q:=by
  intro σ H Q ⟨F,η,d,sr,hd,q⟩
  obtain ⟨x,hx,hd⟩:=bind_some hd
  obtain ⟨y,hy,hd⟩:=bind_some hd
  refine ⟨F,η,x,sr,hx,fun v F1 H1 g1 rv=>⟨F1,η,y,sr.grow g1,hy,fun u F2 H2 g2 ru=>?_⟩⟩
  exact ad F2 H2 v u x y d Q g2.fh (rv.mono g2.ff) ru hd fun w F3 H3 g3 rw'=>q w F3 H3 ((g1.trans g2).trans g3) rw'
theorem E.op {op:Operator} {r:R2} {o:PyData→PyData→Option PyData} (ho:OpR X (binaryOp op) r) (ad:Ad2 X.K r o) (ha:E X B a f) (hb:E X B b g):E X B (.BinOp a op b pos) (l2 o f g) :=
  PE.imp (pe_op ho ha hb) (t2 ad)
theorem E.cmp {op:CmpOp} {r:R2} {o:PyData→PyData→Option PyData} (ho:OpR X (compareOp op) r) (ad:Ad2 X.K r o) (hm:behindInMarks op b=false) (ha:E X B a f) (hb:E X B b g):E X B (.Compare a [op] [b] pos) (l2 o f g) :=
  PE.imp (pe_cmpR ho ha hb hm) (t2 ad)
theorem E.ix {r:R2} {o:PyData→PyData→Option PyData} (hr:IxR X r) (ad:Ad2 X.K r o) (ha:E X B a f) (hb:E X B b g) (hs:PlainIx b:=by intro _ _; rfl):E X B (.Subscript a b pos) (l2 o f g) :=
  PE.imp (pe_ix hr ha hb hs) (t2 ad)
theorem E.v (i:Nat) {x:Str} (hN:X.N[i]?=some x:=by rfl) (hv:Vis X.env.scope x:=by first | exact Or.inl rfl | exact Or.inr (Or.inl rfl) | exact Or.inr (Or.inr rfl)) (hd:(x==("__debug__" : Str))=false:=by decide)
    (hcd:(x==("__classdict__" : Str))=false:=by decide):E X B (.Name x pos) (eV i) :=
  PE.imp (pe_var hN hv hd hcd) fun σ H Q ⟨F,η,d,sr,hd,q⟩=>by
    unfold eV at hd
    split at hd
    · rename_i d' e
      cases hd
      obtain ⟨v,e1,e2⟩:=sr.en.val i d e
      exact ⟨v,e1,q v F H (.refl sr.same) e2⟩
    · cases hd
theorem tC_of {K:PySem.W.Frag} {v:V} {d:PyData} (h:∀ F,Rel K F d v):∀ σ H Q,tE K B (eC d) σ H Q→tC v σ H Q:=fun σ H Q ⟨F,η,d',sr,hd,q⟩=>by
  have e:d=d':=Option.some.inj hd
  subst e
  exact q v F H (.refl sr.same) (h F)
theorem E.int {i:Int} {j}:E X B (.Constant (.int i) j pos) (eC (.int i)):=PE.imp pe_int (tC_of fun _=>rel_int)
theorem E.bl {i:Bool} {j}:E X B (.Constant (.bool i) j pos) (eC (.bool i)):=PE.imp pe_bl (tC_of fun _=>rel_bl)
theorem E.non {j}:E X B (.Constant .none j pos) (eC .none):=PE.imp pe_non (tC_of fun _=>rel_non)
theorem E.str {i:Str} {j}:E X B (.Constant (.str i) j pos) (eC (.str i)):=PE.imp pe_str (tC_of fun _=>rel_str)
theorem E.glob {x:Str} {v:V} {u:Value} {d:PyData} (hm:X.mg x=some u) (r:RelV v u) (h:∀ F,Rel X.K F d v) (hg:Gl X x:=by rfl) (hd:(x==("__debug__" : Str))=false:=by decide):E X B (.Name x pos) (eC d) :=
  PE.imp (pe_glob hg hm r hd) (tC_of h)
theorem A.nil:A X B [] aN:=PA.imp pa_nil fun σ H Q ⟨F,η,d,sr,hd,q⟩=>by
  cases hd
  exact q [] F H (.refl sr.same) .nil
theorem A.cons (ha:E X B e f) (hr:A X B es fs) (hs:starEach (e::es) X.env=(false,eval e X.env)::starEach es X.env:=by exact star_of rfl):A X B (e::es) (aC f fs):=PA.imp (pa_cons ha hr hs) fun σ H Q ⟨F,η,d,sr,hd,q⟩=>by
  obtain ⟨x,hx,hd⟩:=bind_some hd
  obtain ⟨y,hy,hd⟩:=bind_some hd
  cases hd
  exact ⟨F,η,x,sr,hx,fun v F1 H1 g1 rv=>⟨F1,η,y,sr.grow g1,hy,fun vs F2 H2 g2 rs=>q (v::vs) F2 H2 (g1.trans g2) (.cons (rv.mono g2.ff) rs)⟩⟩
def gL (ds:List PyData):Option (List PyData):=if ds.length≤sizeLine then some ds else none
theorem E.tup {x1} (hs:A X B es fs):E X B (.Tuple es x1 pos) (lA (fun ds=>if ds.length≤sizeLine then some (.tuple ds) else none) fs):=PE.imp (pe_tup hs) fun σ H Q ⟨F,η,d,sr,hd,q⟩=>by
  obtain ⟨ds,hx,hd⟩:=bind_some hd
  split at hd
  · rename_i hl
    cases hd
    refine ⟨F,η,ds,sr,hx,fun vs F1 H1 g1 rs=>⟨by rw [rs.length]; exact hl,fun p hp=>?_⟩⟩
    have g2:Gr F1 H1 (upd F1 p (.tup vs)) (upd H1 p (.tup vs)):=Gr.one g1.fh hp
    exact q _ _ _ (g1.trans g2) (rel_tup (SqT.of upd_same) (rs.mono g2.ff))
  · cases hd
theorem EO.lst (hs:A X B es fs):EO X B (.List es pos) (fun η=>(fs η).bind gL):=PE.imp (pe_lst hs) fun σ H Q ⟨F,η,ds,sr,hd,q⟩=>by
  obtain ⟨ds',hx,hd⟩:=bind_some hd
  unfold gL at hd
  split at hd
  · rename_i hl
    cases hd
    refine ⟨F,η,ds,sr,hx,fun vs F1 H1 g1 rs=>⟨by rw [rs.length]; exact hl,fun p hp=>?_⟩⟩
    refine q p vs F1 (upd H1 p (.lst vs)) ?_ (g1.hh.free hp) (g1.fh.free hp) upd_same rs
    refine ⟨g1.ff,g1.hh.trans (same_new hp _),fun b u z=>?_,g1.new⟩
    exact same_new hp _ b u (g1.fh b u z)
  · cases hd
def oE (f:En→Option (List PyData)):En→Option PyData:=fun η=>(f η).bind fun ds=>some (.list ds)
theorem EO.toE (he:EO X B e fs):E X B e (oE fs):=PE.imp he fun σ H Q ⟨F,η,d,sr,hd,q⟩=>by
  obtain ⟨ds,hx,hd⟩:=bind_some hd
  cases hd
  refine ⟨F,η,ds,sr,hx,fun p xs F' H' g1 hp fp hp' rs=>?_⟩
  have sn:=same_new (H:=F') fp (.lst xs)
  refine q (.ref p) (upd F' p (.lst xs)) H' ⟨g1.ff.trans sn,g1.hh,fun b u z=>?_,fun b z=>?_⟩ (rel_lst (SqL.of upd_same) (rs.mono sn))
  · by_cases e:b=p
    · subst e; rw [upd_same] at z; rw [← z]; exact hp'
    · rw [upd_ne e] at z; exact g1.fh _ _ z
  · by_cases e:b=p
    · subst e; exact .inr hp
    · rw [upd_ne e] at z; exact g1.new b z
def asB:PyData→Option Bool
  | .bool b=>some b
  | _=>none
def bT (f:En→Option PyData):En→Option Bool:=fun η=>(f η).bind asB
theorem asB_some {d:PyData} {b:Bool} (h:asB d=some b):d=.bool b:=by
  cases d <;> simp [asB] at h
  rw [h]
theorem T.val (he:E X B e f) (hi:∀ whole,isTrue e X.env whole=(do let v ← whole; standAt e.pos; holding [v] (truthy v)):=by intro _; rfl):T X B e (bT f):=PT.imp (pt_val he hi) fun σ H Q ⟨F,η,b,sr,hd,q⟩=>by
  obtain ⟨x,hx,hd⟩:=bind_some hd
  obtain rfl:=asB_some hd
  exact ⟨F,η,_,sr,hx,fun v F1 H1 g1 rv=>⟨b,rv.bl,q F1 H1 g1⟩⟩
theorem T.cmp {op:CmpOp} {r:R2} {o:PyData→PyData→Option PyData} (ho:OpR X (compareOp op) r) (ad:Ad2 X.K r o) (hm:behindInMarks op b=false) (ha:E X B a f) (hb:E X B b g):T X B (.Compare a [op] [b] pos) (bT (l2 o f g)) :=
  PT.imp (pt_cmpR ho ha hb hm) fun σ H Q ⟨F,η,b,sr,hd,q⟩=>by
    obtain ⟨x,hx,hd⟩:=bind_some hd
    obtain rfl:=asB_some hd
    exact t2 ad σ H _ ⟨F,η,_,sr,hx,fun v F1 H1 g1 rv=>⟨b,rv.bl,q F1 H1 g1⟩⟩
def lch (o o':PyData→PyData→Option PyData) (f g h:En→Option PyData):En→Option PyData:=fun η=>(f η).bind fun x=>(g η).bind fun y=>(o x y).bind fun z=>(asB z).bind fun k =>
  if k=true then (h η).bind fun w=>o' y w else some (.bool false)
theorem T.chain {op op':CmpOp} {r r':R2} {o o':PyData→PyData→Option PyData} (ho:OpR X (compareOp op) r) (ad:Ad2 X.K r o) (ho':OpR X (compareOp op') r') (ad':Ad2 X.K r' o') (ha:E X B a f) (hb:E X B b g) (hc:E X B c h)
    (hm:lastMarks [op,op'] [b,c]=false:=by with_unfolding_all rfl):T X B (.Compare a [op,op'] [b,c] pos) (bT (lch o o' f g h)):=PT.imp (pt_chain ho ho' ha hb hc hm) fun σ H Q ⟨F,η,d',sr,hd',q'⟩=>by
  obtain ⟨d,hd,hdb⟩:=bind_some hd'
  obtain rfl:=asB_some hdb
  obtain ⟨x,hx,hd⟩:=bind_some hd
  obtain ⟨y,hy,hd⟩:=bind_some hd
  obtain ⟨z,hz,hd⟩:=bind_some hd
  obtain ⟨k,hk,hd2⟩:=bind_some hd
  clear hd
  obtain rfl:=asB_some hk
  have hd:=hd2
  refine ⟨F,η,x,sr,hx,fun v F1 H1 g1 rv=>⟨F1,η,y,sr.grow g1,hy,fun u F2 H2 g2 ru=>?_⟩⟩
  refine ad F2 H2 v u x y _ _ g2.fh (rv.mono g2.ff) ru hz fun w F3 H3 g3 rw'=>⟨k,rw'.bl,?_⟩
  cases k with
  | false =>
    rw [if_neg Bool.false_ne_true] at hd ⊢
    cases hd
    exact ⟨_,rfl,q' F3 H3 ((g1.trans g2).trans g3)⟩
  | true =>
    rw [if_pos rfl] at hd ⊢
    obtain ⟨w2,hw2,hd⟩:=bind_some hd
    refine ⟨F3,η,w2,(sr.grow (g1.trans g2)).grow g3,hw2,fun t F4 H4 g4 rt=>?_⟩
    exact ad' F4 H4 u t y w2 _ _ g4.fh (ru.mono (g3.ff.trans g4.ff)) rt hd fun w5 F5 H5 g5 r5=>⟨_,r5.bl,q' F5 H5 (((g1.trans g2).trans g3).trans (g4.trans g5))⟩
def bAnd (f g:En→Option Bool):En→Option Bool:=fun η=>(f η).bind fun c=>if c=true then g η else some false
def bNot (f:En→Option Bool):En→Option Bool:=fun η=>(f η).bind fun c=>some (!c)
variable {p q r:En→Option Bool} {rest:List Expr}
theorem T.not (ha:T X B a p):T X B (.UnaryOp .Not a pos) (bNot p):=PT.imp (pt_not ha) fun σ H Q ⟨F,η,b,sr,hd,q⟩=>by
  obtain ⟨x,hx,hd⟩:=bind_some hd
  cases hd
  exact ⟨F,η,x,sr,hx,q⟩
theorem TW.t (h:TW X B a p):T X B a p:=PW.pt h
theorem TW.and1 (ha:T X B a p):TW X B (.BoolOp .And [a] pos) p:=pw_and1 ha
theorem TW.and (ha:T X B a p) (hb:TW X B (.BoolOp .And (b::rest) pos) q):TW X B (.BoolOp .And (a::b::rest) pos) (bAnd p q):=PW.imp (pw_and ha hb) fun σ H Q ⟨F,η,b,sr,hd,k⟩=>by
  obtain ⟨x,hx,hd⟩:=bind_some hd
  refine ⟨F,η,x,sr,hx,fun F1 H1 g1=>?_⟩
  cases x with
  | false =>
    rw [if_neg Bool.false_ne_true] at hd ⊢
    cases hd
    exact k F1 H1 g1
  | true =>
    rw [if_pos rfl] at hd ⊢
    exact ⟨F1,η,b,sr.grow g1,hd,fun F2 H2 g2=>k F2 H2 (g1.trans g2)⟩
def vIf (c:En→Option Bool) (f g:En→Option PyData):En→Option PyData:=fun η=>(c η).bind fun c=>if c=true then f η else g η
theorem E.ifE (hc:T X B c p) (ha:E X B a f) (hb:E X B b g):E X B (.IfExp c a b pos) (vIf p f g):=PE.imp (pe_ifExp hc ha hb) fun σ H Q ⟨F,η,d,sr,hd,k⟩=>by
  obtain ⟨x,hx,hd⟩:=bind_some hd
  refine ⟨F,η,x,sr,hx,fun F1 H1 g1=>?_⟩
  cases x with
  | false =>
    rw [if_neg Bool.false_ne_true] at hd ⊢
    exact ⟨F1,η,d,sr.grow g1,hd,fun u F2 H2 g2=>k u F2 H2 (g1.trans g2)⟩
  | true =>
    rw [if_pos rfl] at hd ⊢
    exact ⟨F1,η,d,sr.grow g1,hd,fun u F2 H2 g2=>k u F2 H2 (g1.trans g2)⟩
def spP (K:PySem.W.Frag) (fn:List PyData→Option PyData):Sp:=fun vs H Q _=>∃ F ds d,Same F H∧RelL K F ds vs∧fn ds=some d∧∀ v F' H',Gr F H F' H'→Rel K F' d v→Q v H'
theorem E.call {k k':Nat} {fa:Addr} {fd:FuncData} {ps:List Str} {x:Str} {ppos:Pos} {fn:List PyData→Option PyData} (G:FnOk X.prog X.w X.K X.mg X.base CX0 k fa fd ps (spP X.K fn)) (hr:Room k' X.A) (hkk:k≤k') (hm:X.mg x=some (.ref fa)) (hk:PySem.W.keepIn X.K (.ref fa)=true) (hb:Binds X.K fd ps [])
    (ha:A X B (e::es) fs) (hg:Gl X x:=by rfl) (hdb:(x==("__debug__" : Str))=false:=by decide) (he:starEach (e::es) X.env=(false,eval e X.env)::starEach es X.env:=by exact star_of rfl) (hpl:(backTo pos (starEach es X.env)).any (·.1)=false:=by exact plain_of rfl) :
    E X B (.Call (.Name x ppos) (e::es) [] pos) (lA fn fs):=PE.imp (pe_call G (hr.mono hkk) hg hm hk hb .nil pass0 ha hdb he hpl) fun σ H Q ⟨F,η,d,sr,hd,q⟩=>by
  obtain ⟨ds,hx,hd⟩:=bind_some hd
  refine ⟨F,η,ds,sr,hx,fun vs F1 H1 g1 rs=>?_⟩
  show spP X.K fn (vs++[]) H1 Q E0
  rw [List.append_nil]
  exact ⟨F1,ds,d,g1.fh,rs,hd,fun v F2 H2 g2 rv=>q v F2 H2 (g1.trans g2) rv⟩
end
inductive Out where
  | nx (η:En)
  | rt (d:PyData)
  | bk (η:En)
  | ct (η:En)
def OutOk (K:PySem.W.Frag) (B:Bd) (F:Hp) (D:Ends):Out→Prop
  | .nx η=>∀ σ' F' H',SR K B F' H' σ' η→Same F F'→D.nx σ' H'
  | .rt d=>∀ v F' H',Gr B.F B.H F' H'→Rel K F' d v→D.rt v H'
  | .bk η=>∀ σ' F' H',SR K B F' H' σ' η→Same F F'→D.bk σ' H'
  | .ct η=>∀ σ' F' H',SR K B F' H' σ' η→Same F F'→D.ct σ' H'
def tS (K:PySem.W.Frag) (B:Bd) (f:En→Option Out):TS:=fun D σ H=>∃ F η o,SR K B F H σ η∧f η=some o∧OutOk K B F D o
def S (X:Cx) (B:Bd) (st:Stmt) (f:En→Option Out):Prop:=PS X st (tS X.K B f)
def Ss (X:Cx) (B:Bd) (st:List Stmt) (f:En→Option Out):Prop:=PSs X st (tS X.K B f)
theorem PS.imp {X:Cx} {e:Stmt} {t t':TS} (h:PS X e t) (i:∀ D σ H,t' D σ H→t D σ H):PS X e t':=fun pins s σ H D I q=>h pins s σ H D I (i D σ H q)
theorem PSs.imp {X:Cx} {e:List Stmt} {t t':TS} (h:PSs X e t) (i:∀ D σ H,t' D σ H→t D σ H):PSs X e t':=fun pins s σ H D I q=>h pins s σ H D I (i D σ H q)
theorem OutOk.up {K:PySem.W.Frag} {B:Bd} {F F1:Hp} {D:Ends} {o:Out} (h:OutOk K B F D o) (s:Same F F1):OutOk K B F1 D o:=by
  cases o with
  | nx η=>exact fun σ' F' H' r e=>h σ' F' H' r (s.trans e)
  | rt d=>exact h
  | bk η=>exact fun σ' F' H' r e=>h σ' F' H' r (s.trans e)
  | ct η=>exact fun σ' F' H' r e=>h σ' F' H' r (s.trans e)
def sNx:En→Option Out:=fun η=>some (.nx η)
def sSeq (f g:En→Option Out):En→Option Out:=fun η=>(f η).bind fun o=>match o with
  | .nx η'=>g η'
  | o=>some o
def sRet (f:En→Option PyData):En→Option Out:=fun η=>(f η).bind fun d=>some (.rt d)
def sRetO (i:Nat):En→Option Out:=fun η=>match η[i]? with | some (.own ds)=>some (.rt (.list ds)) | _=>none
def sIf (c:En→Option Bool) (f g:En→Option Out):En→Option Out:=fun η=>(c η).bind fun b=>if b=true then f η else g η
def sSet (i:Nat) (f:En→Option PyData):En→Option Out:=fun η=>(f η).bind fun d=>some (.nx (η.set i (.val d)))
def sSetO (i:Nat) (f:En→Option (List PyData)):En→Option Out:=fun η=>(f η).bind fun ds=>some (.nx (η.set i (.own ds)))
def sExt (i:Nat) (f:En→Option (List PyData)):En→Option Out:=fun η=>(f η).bind fun es=>match η[i]? with
  | some (.own ds)=>if ds.length+es.length≤sizeLine then some (.nx (η.set i (.own (ds++es)))) else none
  | _=>none
def frz (i:Nat) (η:En):En:=match η[i]? with | some (.own ds)=>η.set i (.val (.list ds)) | some (.odc kvs)=>η.set i (.val (.dict (prs kvs))) | _=>η
section
variable {X:Cx} {B:Bd} {st:Stmt} {sts sts':List Stmt} {u v:En→Option Out} {a b c e:Expr} {f g:En→Option PyData} {fs:En→Option (List PyData)} {p:En→Option Bool} {pos pos':Pos}
theorem Ss.nil:Ss X B [] sNx:=PSs.imp pss_nil fun D σ H ⟨F,η,o,sr,hd,q⟩=>by
  cases hd
  exact q σ F H sr (.refl _)
theorem Ss.one (h:S X B st u):Ss X B [st] u:=pss_one h
theorem Ss.cons (h:S X B st u) (k:Ss X B sts v):Ss X B (st::sts) (sSeq u v):=PSs.imp (pss_cons h k) fun D σ H ⟨F,η,o,sr,hd,q⟩=>by
  obtain ⟨o1,h1,hd⟩:=bind_some hd
  refine ⟨F,η,o1,sr,h1,?_⟩
  cases o1 with
  | nx η'=>exact fun σ' F' H' r e=>⟨F',η',o,r,hd,q.up e⟩
  | rt d=>cases hd; exact q
  | bk η'=>cases hd; exact q
  | ct η'=>cases hd; exact q
theorem S.never:S X B st (fun _=>none):=PS.imp ps_never fun D σ H ⟨F,η,o,sr,hd,q⟩=>by cases hd
theorem S.ret (he:E X B e f):S X B (.Return (some e) pos) (sRet f):=PS.imp (ps_ret he) fun D σ H ⟨F,η,o,sr,hd,q⟩=>by
  obtain ⟨d,h1,hd⟩:=bind_some hd
  cases hd
  exact ⟨F,η,d,sr,h1,fun v F' H' g rv=>q v F' H' (sr.gr.trans g) rv⟩
theorem S.retO (i:Nat) {x:Str} (hN:X.N[i]?=some x:=by rfl) (hv:Vis X.env.scope x:=by first | exact Or.inl rfl | exact Or.inr (Or.inl rfl) | exact Or.inr (Or.inr rfl)) (hd:(x==("__debug__" : Str))=false:=by decide)
    (hcd:(x==("__classdict__" : Str))=false:=by decide):S X B (.Return (some (.Name x pos')) pos) (sRetO i):=PS.imp (ps_ret (pe_var hN hv hd hcd)) fun D σ H ⟨F,η,o,sr,hd,q⟩=>by
  unfold sRetO at hd
  split at hd
  · rename_i ds e
    cases hd
    obtain ⟨F',p,e1,sf,sr',rel⟩:=sr.freeze e
    exact ⟨_,e1,q _ F' H sr'.gr rel⟩
  · cases hd
theorem S.ifS (hc:T X B c p) (ha:Ss X B sts u) (hb:Ss X B sts' v):S X B (.If c sts sts' pos) (sIf p u v):=PS.imp (ps_if hc ha hb) fun D σ H ⟨F,η,o,sr,hd,q⟩=>by
  obtain ⟨b,h1,hd⟩:=bind_some hd
  refine ⟨F,η,b,sr,h1,fun F1 H1 g1=>?_⟩
  cases b with
  | false =>
    rw [if_neg Bool.false_ne_true] at hd ⊢
    exact ⟨F1,η,o,sr.grow g1,hd,q.up g1.ff⟩
  | true =>
    rw [if_pos rfl] at hd ⊢
    exact ⟨F1,η,o,sr.grow g1,hd,q.up g1.ff⟩
theorem asg_of {K:PySem.W.Frag} {i:Nat}:∀ D σ H,tS K B (sSet i f) D σ H→tAsg (tE K B f) (gName i) D σ H:=fun D σ H ⟨F,η,o,sr,hd,q⟩=>by
  obtain ⟨d,h1,hd⟩:=bind_some hd
  cases hd
  refine ⟨F,η,d,sr,h1,fun v F1 H1 g1 rv=>q _ F1 H1 ⟨sr.gr.trans g1,(sr.en.grow g1).set i rv⟩ g1.ff⟩
theorem asgO_of {K:PySem.W.Frag} {i:Nat}:∀ D σ H,tS K B (sSetO i fs) D σ H→tAsg (tO K B fs) (gName i) D σ H:=fun D σ H ⟨F,η,o,sr,hd,q⟩=>by
  obtain ⟨d,h1,hd⟩:=bind_some hd
  cases hd
  refine ⟨F,η,d,sr,h1,fun p xs F1 H1 g1 hp fp hp' rs=>q _ F1 H1 ⟨sr.gr.trans g1,(sr.en.grow g1).setOwn i fp (sr.gr.hh.free hp) hp' rs fun j ej=>sr.en.notown hp j ej⟩ g1.ff⟩
theorem S.set (i:Nat) {x:Str} (hN:X.N.Nodup) (he:E X B e f) (hi:X.N[i]?=some x:=by rfl) (hx:Loc X.env.scope x:=by first | exact Or.inl rfl | exact Or.inr rfl) (hs:swapsWith e (some (.Name x pos')) pos.line X.env=pure false:=by rfl)
    (hf:X.fn x=true∨X.env.scope.names.lookup x=some .local:=by first | exact .inl rfl | exact .inr rfl):S X B (.Assign [.Name x pos'] e pos) (sSet i f):=PS.imp (ps_set hN hi hx he hs hf) asg_of
theorem S.setO (i:Nat) {x:Str} (hN:X.N.Nodup) (he:EO X B e fs) (hi:X.N[i]?=some x:=by rfl) (hx:Loc X.env.scope x:=by first | exact Or.inl rfl | exact Or.inr rfl) (hs:swapsWith e (some (.Name x pos')) pos.line X.env=pure false:=by rfl)
    (hf:X.fn x=true∨X.env.scope.names.lookup x=some .local:=by first | exact .inl rfl | exact .inr rfl):S X B (.Assign [.Name x pos'] e pos) (sSetO i fs):=PS.imp (ps_set hN hi hx he hs hf) asgO_of
theorem Ss.frz (i:Nat) (h:Ss X B sts u):Ss X B sts (fun η=>u (frz i η)):=PSs.imp h fun D σ H ⟨F,η,o,sr,hd,q⟩=>by
  have hd:u (PU.frz i η)=some o:=hd
  unfold PU.frz at hd
  split at hd
  · rename_i ds e
    obtain ⟨F',p,e1,sf,sr',rel⟩:=sr.freeze e
    exact ⟨F',_,o,sr',hd,q.up sf⟩
  · rename_i kvs e
    obtain ⟨F',p,e1,sf,sr',rel⟩:=sr.freezeD e
    exact ⟨F',_,o,sr',hd,q.up sf⟩
  · exact ⟨F,η,o,sr,hd,q⟩
def ItP (K:PySem.W.Frag) (J:It) (F:Hp) (ds:List PyData):Prop:=∀ F1 H1 (i:Nat),Same F F1→Same F1 H1 →
  (∀ d,ds[i]?=some d→J.go i H1∧∀ x H2,J.yld i H1 x H2→∃ F2,Gr F1 H1 F2 H2∧Rel K F2 d x)∧(i=ds.length→J.stop i H1)
def tI (K:PySem.W.Frag) (B:Bd) (f:En→Option (List PyData)):TI:=fun σ H R=>∃ F η ds,SR K B F H σ η∧f η=some ds∧∀ J F' H',Gr F H F' H'→ItP K J F' ds→R J H'
def I (X:Cx) (B:Bd) (tg iter:Expr) (f:En→Option (List PyData)):Prop:=PI X tg iter (tI X.K B f)
theorem PI.imp {X:Cx} {tg it:Expr} {t t':TI} (h:PI X tg it t) (i:∀ σ H Q,t' σ H Q→t σ H Q):PI X tg it t':=fun pins s σ H Q I q=>h pins s σ H Q I (i σ H Q q)
def TgP (K:PySem.W.Frag) (ks:List Nat) (g:TG) (t:En→PyData→Option En):Prop:=∀ (B:Bd) F H σ η d x η',SR K B F H σ η→Rel K F d x→t η d=some η'→∀ Q:St→Hp→Prop,
  (∀ σ' F' H',SR K B F' H' σ' η'→Gr F H F' H'→σ'.length=σ.length→(∀ i,i∉ks→σ'[i]?=σ[i]?)→Q σ' H')→g x σ H Q
def tgN (i:Nat):En→PyData→Option En:=fun η d=>some (η.set i (.val d))
theorem TgP.name {K:PySem.W.Frag} {i:Nat}:TgP K [i] (gName i) (tgN i):=fun B F H σ η d x η' sr rx e Q q=>by
  cases e
  exact q _ F H ⟨sr.gr,sr.en.set i rx⟩ (.refl sr.same) (List.length_set ..) fun j hj=>List.getElem?_set_ne (fun e=>hj (by simp [e])) ..
def TgsP (K:PySem.W.Frag) (ks:List Nat) (g:TGs) (t:En→List PyData→Option En):Prop:=∀ (B:Bd) F H σ η ds xs η',SR K B F H σ η→RelL K F ds xs→t η ds=some η'→∀ Q:St→Hp→Prop,
  (∀ σ' F' H',SR K B F' H' σ' η'→Gr F H F' H'→σ'.length=σ.length→(∀ i,i∉ks→σ'[i]?=σ[i]?)→Q σ' H')→g xs σ H Q
def tgNil:En→List PyData→Option En:=fun η ds=>match ds with | []=>some η | _=>none
def tgCons (t:En→PyData→Option En) (r:En→List PyData→Option En):En→List PyData→Option En:=fun η ds=>match ds with | []=>none | d::ds=>(t η d).bind fun η1=>r η1 ds
theorem TgsP.nil {K:PySem.W.Frag}:TgsP K [] gNil tgNil:=fun B F H σ η ds xs η' sr rx e Q q=>by
  cases ds with
  | nil =>
    cases e
    exact ⟨rx.nil_of,q _ F H sr (.refl sr.same) rfl fun _ _=>rfl⟩
  | cons d ds=>cases e
theorem TgsP.cons {K:PySem.W.Frag} {ks ls:List Nat} {g:TG} {gs:TGs} {t:En→PyData→Option En} {r:En→List PyData→Option En} (h:TgP K ks g t) (k:TgsP K ls gs r):TgsP K (ks++ls) (gCons g gs) (tgCons t r):=fun B F H σ η ds xs η' sr rx e Q q=>by
  cases ds with
  | nil=>cases e
  | cons d ds =>
    obtain ⟨x,r',rfl,h1,h2⟩:=rx.cons_of
    obtain ⟨η1,e1,e2⟩:=bind_some e
    refine ⟨x,r',rfl,h B F H σ η d x η1 sr h1 e1 _ fun σ1 F1 H1 sr1 g1 l1 n1=>?_⟩
    refine k B F1 H1 σ1 η1 ds r' η' sr1 (h2.mono g1.ff) e2 _ fun σ2 F2 H2 sr2 g2 l2 n2=>?_
    exact q σ2 F2 H2 sr2 (g1.trans g2) (l2.trans l1) fun i hi=>(n2 i fun z=>hi (List.mem_append_right _ z)).trans (n1 i fun z=>hi (List.mem_append_left _ z))
def tgT (t:En→List PyData→Option En):En→PyData→Option En:=fun η d=>match d with | .tuple ds=>t η ds | _=>none
theorem TgP.tup {K:PySem.W.Frag} {ks:List Nat} {n:Nat} {g:TGs} {t:En→List PyData→Option En} (h:TgsP K ks g t) (hn:∀ η ds η',t η ds=some η'→ds.length=n):TgP K ks (gTup K n g) (tgT t):=fun B F H σ η d x η' sr rx e Q q=>by
  cases d with
  | tuple ds =>
    obtain ⟨a,xs,rfl,hq,rs⟩:=rx.tup
    exact ⟨a,xs,rfl,same_seqT sr.same hq,by rw [rs.length]; exact hn η ds η' e,h B F H σ η ds xs η' sr rs e Q q⟩
  | none=>cases e
  | bool _=>cases e
  | int _=>cases e
  | str _=>cases e
  | list _=>cases e
  | dict _=>cases e
def sGo (t:En→PyData→Option En) (body:En→Option Out):List PyData→En→Option Out
  | [],η=>some (.nx η)
  | d::ds,η=>(t η d).bind fun η1=>(body η1).bind fun o=>match o with
    | .nx η2=>sGo t body ds η2
    | .ct η2=>sGo t body ds η2
    | .bk η2=>some (.nx η2)
    | .rt d=>some (.rt d)
def sFor (it:En→Option (List PyData)) (t:En→PyData→Option En) (body:En→Option Out):En→Option Out:=fun η=>(it η).bind fun ds=>sGo t body ds η
theorem S.for {tg iter:Expr} {body:List Stmt} {gt:TG} {ks:List Nat} {t:En→PyData→Option En} (hp:PassesOwn (model X.prog X.w) X.A X.env X.xe) (hc:X.calm=true) (hi:I X B tg iter fs) (hg:PG X tg gt) (ht:TgP X.K ks gt t) (hb:Ss X B body u)
    (hs:∀ x,foldedSetIterable iter X.env x=pure x:=by intro _; rfl):S X B (.For tg iter body [] pos) (sFor fs t u):=PS.imp (ps_for hp hc hi hg hb hs) fun D σ H ⟨F,η,o,sr,hd,q⟩=>by
  obtain ⟨ds,h1,hd⟩:=bind_some hd
  refine ⟨F,η,ds,sr,h1,fun J F1 H1 g1 ip=>?_⟩
  refine ⟨fun i m σ H=>m=ds.length - i∧i≤ds.length∧∃ Fc ηc,SR X.K B Fc H σ ηc∧Same F1 Fc∧sGo t u (ds.drop i) ηc=some o,⟨_,rfl,Nat.zero_le _,F1,η,sr.grow g1,.refl _,by simpa using hd⟩,?_⟩
  rintro i m σc Hc ⟨rfl,hi,Fc,ηc,src,sc,hgo⟩
  obtain ⟨ip1,ip2⟩:=ip Fc Hc i sc src.same
  by_cases hlt:i < ds.length
  · have e:ds[i]?=some ds[i]:=List.getElem?_eq_getElem hlt
    obtain ⟨go,yl⟩:=ip1 _ e
    rw [List.drop_eq_getElem_cons hlt] at hgo
    unfold sGo at hgo
    obtain ⟨η1,e1,hgo⟩:=bind_some hgo
    obtain ⟨o1,e2,hgo⟩:=bind_some hgo
    have cont:∀ (η2:En),sGo t u (ds.drop (i+1)) η2=some o→∀ σ' F' H',SR X.K B F' H' σ' η2→Same F1 F' →
        ∃ m',m' < ds.length - i∧(fun i m σ H=>m=ds.length - i∧i≤ds.length∧∃ Fc ηc,SR X.K B Fc H σ ηc∧Same F1 Fc∧sGo t u (ds.drop i) ηc=some o) (i+1) m' σ' H':=fun η2 h2 σ' F' H' r s =>
      ⟨ds.length - (i+1),by omega,rfl,hlt,F',η2,r,s,h2⟩
    refine .inr ⟨go,fun σ' H'=>∃ m',m' < ds.length - i∧(fun i m σ H=>m=ds.length - i∧i≤ds.length∧∃ Fc ηc,SR X.K B Fc H σ ηc∧Same F1 Fc∧sGo t u (ds.drop i) ηc=some o) (i+1) m' σ' H',fun σ' H' n=>n,fun x H' y=>?_⟩
    obtain ⟨F2,g2,rx⟩:=yl x H' y
    refine ht B F2 H' σc ηc _ x η1 (src.grow g2) rx e1 _ fun σ3 F3 H3 sr3 g3 _ _=>?_
    refine ⟨F3,η1,o1,sr3,e2,?_⟩
    have s3:Same F1 F3:=sc.trans (g2.ff.trans g3.ff)
    cases o1 with
    | nx η2=>exact fun σ' F' H' r s=>cont η2 hgo σ' F' H' r (s3.trans s)
    | ct η2=>exact fun σ' F' H' r s=>cont η2 hgo σ' F' H' r (s3.trans s)
    | bk η2 =>
      cases hgo
      exact fun σ' F' H' r s=>q σ' F' H' r (g1.ff.trans (s3.trans s))
    | rt d =>
      cases hgo
      exact q
  · have ei:i=ds.length:=by omega
    subst ei
    rw [List.drop_length] at hgo
    cases hgo
    exact .inl ⟨ip2 rfl,q σc Fc Hc src (g1.ff.trans sc)⟩
def asL:PyData→Option (List PyData)
  | .list ds=>some ds
  | _=>none
def asTu:PyData→Option (List PyData)
  | .tuple ds=>some ds
  | _=>none
def lI (k:PyData→Option (List PyData)) (f:En→Option PyData):En→Option (List PyData):=fun η=>(f η).bind k
theorem itp_list {K:PySem.W.Frag} {F:Hp} {a:Addr} {xs:List V} {ds:List PyData} (h:SqL K F a xs) (r:RelL K F ds xs):ItP K (Itl K a) F ds:=fun F1 H1 i s1 s2=>by
  have q:=s2.seq (s1.seq h)
  refine ⟨fun d e=>?_,fun e=>⟨xs,q,by rw [r.length,e]; exact Nat.le_refl _⟩⟩
  obtain ⟨x,ex,rx⟩:=r.get e
  refine ⟨⟨xs,x,q,ex⟩,fun x' H2 y=>?_⟩
  obtain ⟨e2,y⟩:=y
  subst e2
  have z:=y xs q
  rw [ex] at z
  cases z
  exact ⟨F1,.refl s2,rx.mono s1⟩
theorem itp_tup {K:PySem.W.Frag} {F:Hp} {a:Addr} {xs:List V} {ds:List PyData} (h:SqT K F a xs) (r:RelL K F ds xs):ItP K (Itt K a) F ds:=fun F1 H1 i s1 s2=>by
  have q:=same_seqT s2 (same_seqT s1 h)
  refine ⟨fun d e=>?_,fun e=>⟨xs,q,by rw [r.length,e]; exact Nat.le_refl _⟩⟩
  obtain ⟨x,ex,rx⟩:=r.get e
  refine ⟨⟨xs,x,q,ex⟩,fun x' H2 y=>?_⟩
  obtain ⟨e2,y⟩:=y
  subst e2
  have z:=y xs q
  rw [ex] at z
  cases z
  exact ⟨F1,.refl s2,rx.mono s1⟩
theorem I.list {tg:Expr} (he:E X B e f):I X B tg e (lI asL f):=PI.imp (pi_list he) fun σ H Q ⟨F,η,ds,sr,hd,q⟩=>by
  obtain ⟨d,h1,hd⟩:=bind_some hd
  cases d <;> simp only [asL,Option.some.injEq,reduceCtorEq] at hd
  subst hd
  refine ⟨F,η,_,sr,h1,fun v F1 H1 g1 rv=>?_⟩
  obtain ⟨a,xs,rfl,hq,rs⟩:=rv.lst
  exact ⟨a,rfl,⟨xs,g1.fh.seq hq⟩,q _ F1 H1 g1 (itp_list hq rs)⟩
theorem I.tup {tg:Expr} (he:E X B e f):I X B tg e (lI asTu f):=PI.imp (pi_tup he) fun σ H Q ⟨F,η,ds,sr,hd,q⟩=>by
  obtain ⟨d,h1,hd⟩:=bind_some hd
  cases d <;> simp only [asTu,Option.some.injEq,reduceCtorEq] at hd
  subst hd
  refine ⟨F,η,_,sr,h1,fun v F1 H1 g1 rv=>?_⟩
  obtain ⟨a,xs,rfl,hq,rs⟩:=rv.tup
  exact ⟨a,rfl,⟨xs,same_seqT g1.fh hq⟩,q _ F1 H1 g1 (itp_tup hq rs)⟩
def rngL (lo:Int) (n:Nat):List PyData:=(List.range n).map fun (k:Nat)=>PyData.int (lo+k)
theorem itp_rng {K:PySem.W.Frag} {F:Hp} {lo:Int} {n:Nat}:ItP K (Itr lo n) F (rngL lo n):=fun F1 H1 i s1 s2=>by
  have hl:(rngL lo n).length=n:=by unfold rngL; rw [List.length_map,List.length_range]
  refine ⟨fun d e=>?_,fun e=>by show n≤i; omega⟩
  have hi:i < n:=by rw [← hl]; exact (List.getElem?_eq_some_iff.mp e).1
  refine ⟨hi,fun x H2 y=>?_⟩
  obtain ⟨e2,e3⟩:=y
  subst e2 e3
  have:d=.int (lo+i):=by
    unfold rngL at e
    rw [List.getElem?_map,List.getElem?_range hi] at e
    exact (Option.some.inj e).symm
  subst this
  exact ⟨F1,.refl s2,rel_int⟩
def rng1 (ds:List PyData):Option (List PyData):=match ds with
  | [.int j]=>if -(2 ^ 62)≤j∧j < 2 ^ 62 then some (rngL 0 j.toNat) else none
  | _=>none
theorem I.rng1 {tg:Expr} {pp:Pos} (hm:X.mg "range" = none) (ha:A X B [a] fs) (hg:Gl X "range" := by rfl) (hs:starEach [a] X.env=[(false,eval a X.env)]:=by exact star_of rfl):I X B tg (.Call (.Name "range" pp) [a] [] pos) (fun η=>(fs η).bind PU.rng1) :=
  PI.imp (pi_range1 hg hm ha hs) fun σ H Q ⟨F,η,ds,sr,hd,q⟩=>by
    obtain ⟨es,h1,hd⟩:=bind_some hd
    unfold PU.rng1 at hd
    split at hd
    · rename_i j
      split at hd
      · rename_i hj
        cases hd
        refine ⟨F,η,_,sr,h1,fun vs F1 H1 g1 rs=>?_⟩
        obtain ⟨x,r,rfl,rx,rr⟩:=rs.cons_of
        obtain rfl:=rr.nil_of
        exact ⟨j,by rw [rx.int],hj.1,hj.2,q _ F1 H1 g1 itp_rng⟩
      · cases hd
    · cases hd
end
def inEn (mp:List (Option Nat)) (η:En):En:=mp.map fun o=>match o with
  | some j=>(match η[j]? with | some (.val d)=>.val d | some (.ob fs)=>.ob fs | _=>.un)
  | none=>.un
def cGo (t:En→PyData→Option En) (p:En→Option Bool) (f:En→Option PyData) (η:En):List PyData→Option (List PyData)
  | []=>some []
  | d::ds=>(t η d).bind fun η1=>(p η1).bind fun ok=>if ok=true then (f η1).bind fun y=>(cGo t p f η ds).bind fun r=>some (y::r) else cGo t p f η ds
def sComp (mp:List (Option Nat)) (fi:En→Option (List PyData)) (t:En→PyData→Option En) (p:En→Option Bool) (f:En→Option PyData):En→Option (List PyData):=fun η =>
  (fi η).bind fun ds=>if ds.length≤sizeLine then cGo t p f (inEn mp η) ds else none
def Ts (X:Cx) (B:Bd) (ifs:List Expr) (p:En→Option Bool):Prop:=PTs X ifs (tT X.K B p)
def tTrue:En→Option Bool:=fun _=>some true
section
variable {X:Cx} {B:Bd}
theorem Ts.nil:Ts X B [] tTrue:=fun pins s σ H Q I ⟨F,η,b,sr,hd,q⟩=>by
  cases hd
  exact pts_nil pins s σ H Q I (q F H (.refl sr.same))
theorem Ts.one {c:Expr} {p:En→Option Bool} (h:T X B c p):Ts X B [c] p:=pts_one h
theorem inEn_no {mp:List (Option Nat)} {η:En} {i:Nat} {a:Sl} (e:(inEn mp η)[i]?=some a):isOwn a=false:=by
  unfold inEn at e
  rw [List.getElem?_map] at e
  cases q:mp[i]? with
  | none=>rw [q] at e; cases e
  | some o =>
    rw [q] at e
    cases o with
    | none=>cases e; rfl
    | some j =>
      have e':(match η[j]? with | some (.val d)=>Sl.val d | some (.ob fs)=>.ob fs | _=>.un)=a:=Option.some.inj e
      split at e' <;> (subst e'; rfl)
theorem EnR.inner {K:PySem.W.Frag} {He F H:Hp} {σ:St} {η:En} (r:EnR K He F H σ η) (mp:List (Option Nat)):EnR K He F H (inSt mp σ) (inEn mp η) where
  len:=by unfold inEn inSt; rw [List.length_map,List.length_map]
  val:=fun i d e=>by
    unfold inEn at e
    rw [List.getElem?_map] at e
    cases q:mp[i]? with
    | none=>rw [q] at e; cases e
    | some o =>
      rw [q] at e
      cases o with
      | none=>cases e
      | some j =>
        have e':(match η[j]? with | some (.val d)=>Sl.val d | some (.ob fs)=>.ob fs | _=>.un)=.val d:=Option.some.inj e
        split at e'
        · rename_i d' ed
          have:d'=d:=by injection e'
          subst this
          obtain ⟨v,e1,e2⟩:=r.val j d' ed
          refine ⟨v,?_,e2⟩
          unfold inSt
          rw [List.getElem?_map,q]
          show some ((σ[j]?).join)=_
          rw [e1]
          rfl
        · cases e'
        · cases e'
  obs:=fun i fs e=>by
    unfold inEn at e
    rw [List.getElem?_map] at e
    cases q:mp[i]? with
    | none=>rw [q] at e; cases e
    | some o =>
      rw [q] at e
      cases o with
      | none=>cases e
      | some j =>
        have e':(match η[j]? with | some (.val d)=>Sl.val d | some (.ob fs)=>.ob fs | _=>.un)=.ob fs:=Option.some.inj e
        split at e'
        · cases e'
        · rename_i d' ed
          have:d'=fs:=by injection e'
          subst this
          obtain ⟨p,C,dx,xs,e1,e2⟩:=r.obs j d' ed
          refine ⟨p,C,dx,xs,?_,e2⟩
          unfold inSt
          rw [List.getElem?_map,q]
          show some ((σ[j]?).join)=_
          rw [e1]
          rfl
        · cases e'
  cel:=fun i a e ha=>by rw [inEn_no e] at ha; cases ha
  apart:=fun i j a b e _ ha _ _=>by rw [inEn_no e] at ha; cases ha
variable {elt iter tg:Expr} {ifs:List Expr} {scope:Scope} {pos:Pos} {N':List Str} {mp:List (Option Nat)} {ks:List Nat} {gt:TG} {t:En→PyData→Option En} {fi:En→Option (List PyData)} {p:En→Option Bool} {f:En→Option PyData}
theorem comp_of {K:PySem.W.Frag} (ht:TgP K ks gt t) (hks:∀ k∈ks,mp[k]?=some none):∀ σ H Q,tO K B (sComp mp fi t p f) σ H Q→tComp mp (tI K B fi) gt (tT K B p) (tE K B f) σ H Q:=fun σ H Q ⟨F,η,rs,sr,hd,q⟩=>by
  obtain ⟨ds,h1,hd⟩:=bind_some hd
  split at hd
  rotate_left
  · cases hd
  rename_i hz
  refine ⟨F,η,ds,sr,h1,fun J F1 H1 g1 ip D hD=>?_⟩
  have fD:F1 D=none:=g1.fh.free hD
  have kept:∀ {σ2:St},σ2.length=(inSt mp σ).length→(∀ i,i∉ks→σ2[i]?=(inSt mp σ)[i]?)→KeepsSt (inSt mp σ) σ2:=fun {σ2} hl hn=>⟨hl,fun i v e=>by
    by_cases hi:i∈ks
    · have z:=hks i hi
      unfold inSt at e
      rw [List.getElem?_map,z] at e
      cases e
    · rw [hn i hi]; exact e⟩
  refine ⟨fun i m Hc=>m=ds.length - i∧i≤ds.length∧∃ Fc ys done rest,Gr F1 H1 Fc Hc∧Fc D=none∧Hc D=some (.lst ys)∧RelL K Fc done ys∧done.length≤i∧cGo t p f (inEn mp η) (ds.drop i)=some rest∧rs=done++rest,
    ⟨_,rfl,Nat.zero_le _,F1,[],[],rs,⟨.refl _,same_new hD _,fun b u z=>same_new hD _ b u (g1.fh b u z),fun b z=>.inl z⟩,fD,upd_same,.nil,Nat.le_refl _,by simpa using hd,rfl⟩,?_⟩
  rintro i m Hc ⟨rfl,hi,Fc,ys,done,rest,gc,fcD,hcD,rd,hdl,hgo,hrs⟩
  obtain ⟨ip1,ip2⟩:=ip Fc Hc i gc.ff gc.fh
  by_cases hlt:i < ds.length
  · have e:ds[i]?=some ds[i]:=List.getElem?_eq_getElem hlt
    obtain ⟨go,yl⟩:=ip1 _ e
    rw [List.drop_eq_getElem_cons hlt] at hgo
    unfold cGo at hgo
    obtain ⟨η1,e1,hgo⟩:=bind_some hgo
    obtain ⟨ok,e2,hgo⟩:=bind_some hgo
    refine .inr ⟨go,fun H'=>∃ m',m' < ds.length - i∧(m'=ds.length - (i+1)∧i+1≤ds.length∧∃ Fc ys done rest,Gr F1 H1 Fc H'∧Fc D=none∧H' D=some (.lst ys)∧RelL K Fc done ys∧done.length≤i+1∧cGo t p f (inEn mp η) (ds.drop (i+1))=some rest∧rs=done++rest),fun H' n=>n,fun x H' y=>?_⟩
    obtain ⟨F2,g2,rx⟩:=yl x H' y
    have sin:SR K B F2 H' (inSt mp σ) (inEn mp η):=⟨(sr.gr.trans g1).trans (gc.trans g2),((sr.en.grow g1).inner mp).grow (gc.trans g2)⟩
    refine ht B F2 H' (inSt mp σ) (inEn mp η) _ x η1 sin rx e1 _ fun σ3 F3 H3 sr3 g3 l3 n3=>⟨kept l3 n3,F3,η1,ok,sr3,e2,fun F4 H4 g4=>?_⟩
    have gall:Gr Fc Hc F4 H4:=(g2.trans g3).trans g4
    have nD:∀ {F5 H5:Hp},Gr Fc Hc F5 H5→F5 D=none:=fun {F5 H5} g=>by
      cases z:F5 D with
      | none=>rfl
      | some o =>
        rcases g.new D (by rw [z]; simp) with w | w
        · exact absurd fcD w
        · rw [hcD] at w; cases w
    cases ok with
    | false =>
      rw [if_neg Bool.false_ne_true] at hgo
      refine iteF ?_
      exact ⟨ds.length - (i+1),by omega,rfl,hlt,F4,ys,done,rest,gc.trans gall,nD gall,gall.hh _ _ hcD,rd.mono gall.ff,Nat.le_succ_of_le hdl,hgo,hrs⟩
    | true =>
      rw [if_pos rfl] at hgo
      refine iteT ?_
      obtain ⟨yv,e3,hgo⟩:=bind_some hgo
      obtain ⟨r,e4,hgo⟩:=bind_some hgo
      cases hgo
      refine ⟨F4,η1,yv,sr3.grow g4,e3,fun v F5 H5 g5 rv=>?_⟩
      have ga:=gall.trans g5
      have h5D:=ga.hh _ _ hcD
      refine ⟨ys,h5D,by rw [rd.length]; omega,ds.length - (i+1),by omega,rfl,hlt,F5,ys++[v],done++[yv],r,?_,nD ga,upd_same,(rd.mono ga.ff).append (.cons rv .nil),by rw [List.length_append,List.length_singleton]; omega,e4,by rw [hrs,List.append_assoc]; rfl⟩
      have gt':=gc.trans ga
      refine ⟨gt'.ff,fun b u z=>?_,fun b u z=>?_,gt'.new⟩
      · have nb:b≠D:=ne_of_none z hD
        rw [upd_ne nb]; exact gt'.hh b u z
      · have nb:b≠D:=ne_of_none z (nD ga)
        rw [upd_ne nb]; exact gt'.fh b u z
  · have ei:i=ds.length:=by omega
    subst ei
    rw [List.drop_length] at hgo
    cases hgo
    rw [List.append_nil] at hrs
    subst hrs
    exact .inl ⟨ip2 rfl,q D ys Fc Hc (g1.trans gc) (g1.hh.free hD) fcD hcD rd⟩
theorem EO.comp (hc:X.calm=true) (ck:CompSc X scope N' mp) (ht:TgP X.K ks gt t) (hks:∀ k∈ks,mp[k]?=some none) (hi:I X B tg iter fi)
    (hb:∀ s H fp,PG (compCx X scope N' s H fp) tg gt∧Ts (compCx X scope N' s H fp) B ifs p∧E (compCx X scope N' s H fp) B elt f)
    (hs:∀ x,foldedSetIterable iter X.env x=pure x:=by intro _; rfl):EO X B (.ListComp elt [⟨tg,iter,ifs,0⟩] scope pos) (sComp mp fi t p f):=PE.imp (pe_comp hc ck hi hb hs) (comp_of ht hks)
theorem S.setC (i:Nat) {y:Str} {py spos:Pos} (hc:X.calm=true) (hN:X.N.Nodup) (ck:CompSc X scope N' mp) (ht:TgP X.K ks gt t) (hks:∀ k∈ks,mp[k]?=some none) (hi:I X B tg iter fi)
    (hb:∀ s H fp,PG (compCx X scope N' s H fp) tg gt∧Ts (compCx X scope N' s H fp) B ifs p∧E (compCx X scope N' s H fp) B elt f)
    (hiy:X.N[i]?=some y:=by rfl) (hy:X.env.scope.names.lookup y=some .local:=by rfl) (hsw:swapsWith (.ListComp elt [⟨tg,iter,ifs,0⟩] scope pos) (some (.Name y py)) spos.line X.env=pure true:=by rfl)
    (hs:∀ x,foldedSetIterable iter X.env x=pure x:=by intro _; rfl):S X B (.Assign [.Name y py] (.ListComp elt [⟨tg,iter,ifs,0⟩] scope pos) spos) (sSetO i (sComp mp fi t p f)) :=
  PS.imp (ps_setComp hc hN hiy hy ck hi hb hsw hs) fun D σ H h=>by
    have h':=asgO_of D σ H h
    exact comp_of ht hks σ H _ h'
end
def runF (n m:Nat) (g:En→Option Out) (ds:List PyData):Option PyData:=if ds.length=n then (g (ds.map Sl.val++List.replicate (m - n) .un)).bind fun o=>match o with
  | .rt d=>some d
  | .nx _=>some .none
  | _=>none else none
section
variable {P:Program} {w:World} {K:PySem.W.Frag} {mg:Str→Option Value} {base:Heap}
theorem start_no {n:Nat} {ds:List PyData} {i:Nat} {a:Sl} (e:(ds.map Sl.val++List.replicate n .un)[i]?=some a):isOwn a=false:=by
  by_cases hi:i < ds.length
  · rw [List.getElem?_append_left (by rw [List.length_map]; exact hi),List.getElem?_map] at e
    cases q:ds[i]? with
    | none=>rw [q] at e; cases e
    | some d'=>rw [q] at e; cases e; rfl
  · rw [List.getElem?_append_right (by rw [List.length_map]; omega),List.getElem?_replicate] at e
    split at e <;> cases e
    rfl
theorem EnR.start {F H:Hp} {N:List Str} {ds:List PyData} {vs:List V} (r:RelL K F ds vs):EnR K H F H (L2.start N vs) (ds.map Sl.val++List.replicate (N.length - ds.length) .un) where
  len:=by unfold L2.start; rw [List.length_append,List.length_append,List.length_map,List.length_map,List.length_replicate,List.length_replicate,r.length]
  val:=fun i d e=>by
    unfold L2.start
    by_cases hi:i < ds.length
    · rw [List.getElem?_append_left (by rw [List.length_map]; exact hi),List.getElem?_map] at e
      rw [List.getElem?_append_left (by rw [List.length_map,r.length]; exact hi),List.getElem?_map]
      cases q:ds[i]? with
      | none=>rw [q] at e; cases e
      | some d' =>
        rw [q] at e
        have:d'=d:=by injection (Option.some.inj e)
        subst this
        obtain ⟨x,e1,e2⟩:=r.get q
        exact ⟨x,by rw [e1]; rfl,e2⟩
    · rw [List.getElem?_append_right (by rw [List.length_map]; omega),List.getElem?_replicate] at e
      split at e <;> cases e
  cel:=fun i a e ha=>by rw [start_no e] at ha; cases ha
  obs:=fun i fs e=>by
    by_cases hi:i < ds.length
    · rw [List.getElem?_append_left (by rw [List.length_map]; exact hi),List.getElem?_map] at e
      cases q:ds[i]? with
      | none=>rw [q] at e; cases e
      | some d'=>rw [q] at e; cases e
    · rw [List.getElem?_append_right (by rw [List.length_map]; omega),List.getElem?_replicate] at e
      split at e <;> cases e
  apart:=fun i _ a _ e _ ha _ _=>by rw [start_no e] at ha; cases ha
theorem fnP {x qual:Str} {st:Stmt} {f:Addr} {fd:FuncData} {N ps:List Str} {k:Nat} {g:En→Option Out} (Fn:Fun K x qual st f fd) (Sc:FnScope N ps (defScope st))
    (hb:∀ (cdv:Value) (A:Around) (outer:List Env) (s:Shared) (H:Hp) (E:XK) (F:Hp),Room k (A.deeper (envOfC qual (defScope st) s.heap.objs.size f cdv)) →
      Ss (cxOf CX0 P w K mg base N qual (defScope st) f cdv A outer s H E).nox ⟨F,H⟩ (defBody st) g) :
    FnOk P w K mg base CX0 (k+1) f fd ps (spP K (runF ps.length N.length g)):=by
  have len:∀ {F:Hp} {ds:List PyData} {vs:List V} {d:PyData},RelL K F ds vs→runF ps.length N.length g ds=some d→ds.length=ps.length∧vs.length=ps.length:=fun {F ds vs d} r e=>by
    unfold runF at e
    split at e
    · rename_i hl
      exact ⟨hl,by rw [r.length]; exact hl⟩
    · cases e
  refine Fn.ok Sc (fun vs H Q E h=>?_) (fun cdv A outer s H vs Q E hr h=>?_)
  · obtain ⟨F,ds,d,_,r,e,_⟩:=h
    exact (len r e).2
  · obtain ⟨F,ds,d,sm,r,e,q⟩:=h
    obtain ⟨l1,l2⟩:=len r e
    refine ⟨_,hb cdv A outer s H E F hr,?_⟩
    unfold runF at e
    rw [if_pos l1] at e
    obtain ⟨o,e1,e2⟩:=bind_some e
    refine ⟨F,_,o,⟨.refl sm,?_⟩,e1,?_⟩
    · have z:=EnR.start (K:=K) (H:=H) (N:=N) r
      rw [l1] at z
      exact z
    · cases o with
      | rt d' =>
        cases e2
        exact fun v F' H' g rv=>q v F' H' g rv
      | nx η' =>
        cases e2
        exact fun σ' F' H' sr _=>q .non F' H' sr.gr rel_non
      | bk η'=>cases e2
      | ct η'=>cases e2
theorem fn0 {f:Addr} {fd:FuncData} {ps:List Str} {k:Nat}:FnOk P w K mg base CX0 k f fd ps (spP K (fun _=>none)) :=
  ⟨fun vs H Q E h=>(by obtain ⟨_,_,_,_,_,e,_⟩:=h; cases e),fun A outer s H args us vs Q E _ _ _ _ h=>(by obtain ⟨_,_,_,_,_,e,_⟩:=h; cases e)⟩
end
section
variable {X:Cx}
mutual
theorem Rel.reads {pins:List (Addr×Obj)} {σ:St} {F H:Hp} {s:Shared} (I:Inv X pins σ H s) (sm:Same F H):∀ {d:PyData} {v:V} {u:Value},PyData.canLay0 d=true→Rel X.K F d v→RelV v u→∃ as,Reads s.heap u d as
  | .none,v,u,_,h,r=>by
    rw [h.non] at r; cases r
    exact ⟨_,.none⟩
  | .bool b,v,u,_,h,r=>by
    rw [h.bl] at r; cases r
    exact ⟨_,.bool b⟩
  | .int i,v,u,_,h,r=>by
    rw [h.int] at r; obtain ⟨t,rfl⟩:=r
    exact ⟨_,.int i t⟩
  | .str x,v,u,_,h,r=>by
    rw [h.str] at r; obtain ⟨t,rfl⟩:=r
    exact ⟨_,.str x t⟩
  | .tuple ds,v,u,c,h,r=>by
    unfold PyData.canLay0 at c
    obtain ⟨a,xs,rfl,hq,rs⟩:=h.tup
    cases r
    obtain ⟨its,rv,⟨o,ho,hc,n,hd⟩,_⟩:=I.tuple (same_seqT sm hq)
    obtain ⟨as,h'⟩:=RelL.reads I sm c rs rv
    exact ⟨as,.tuple ho hc hd (by simpa using h')⟩
  | .list ds,v,u,c,h,r=>by
    unfold PyData.canLay0 at c
    obtain ⟨a,xs,rfl,hq,rs⟩:=h.lst
    cases r
    obtain ⟨its,rv,p,_⟩:=I.list (sm.seq hq)
    obtain ⟨o,ho,hc,n,hd⟩:=p.isList
    obtain ⟨as,h'⟩:=RelL.reads I sm c rs rv
    exact ⟨a::as,.list ho hc hd (by simpa using h')⟩
  | .dict _,v,u,c,h,r=>by unfold PyData.canLay0 at c; cases c
theorem RelL.reads {pins:List (Addr×Obj)} {σ:St} {F H:Hp} {s:Shared} (I:Inv X pins σ H s) (sm:Same F H):∀ {ds:List PyData} {vs:List V} {us:List Value},PyData.canLayAll0 ds=true→RelL X.K F ds vs→Vals vs us→∃ as,ReadsAll s.heap us ds as
  | [],vs,us,_,h,r=>by
    rw [h.nil_of] at r; cases r
    exact ⟨_,.nil⟩
  | d::ds,vs,us,c,h,r=>by
    unfold PyData.canLayAll0 at c
    obtain ⟨c1,c2⟩:=Bool.and_eq_true_iff.mp c
    obtain ⟨x,xs,rfl,h1,h2⟩:=h.cons_of
    cases r with
    | cons r1 r2 =>
      obtain ⟨as,e1⟩:=Rel.reads I sm c1 h1 r1
      obtain ⟨bs,e2⟩:=RelL.reads I sm c2 h2 r2
      exact ⟨as++bs,.cons e1 e2⟩
end
def rEqD (K:PySem.W.Frag) (neg:Bool):R2:=fun x y H Q=>∃ F dx dy,Same F H∧Rel K F dx x∧Rel K F dy y∧SeqAt.shaped dx=true∧SeqAt.shaped dy=true∧Q (.bl (if neg then !PyData.eqv dx dy else PyData.eqv dx dy)) H
theorem op_eqD (hu:X.A.units+64 < cLine):OpR X (compareOp .Eq) (rEqD X.K false):=by
  intro pins s σ H x y v u Q I rx ry h
  obtain ⟨F,dx,dy,sm,h1,h2,s1,s2,q⟩:=h
  obtain ⟨as,ra⟩:=Rel.reads I sm (SeqAt.canLay_of_shaped s1) h1 rx
  obtain ⟨bs,rb⟩:=Rel.reads I sm (SeqAt.canLay_of_shaped s2) h2 ry
  exact SeqAt.compareEq_shaped ra rb s1 s2 hu ⟨.bl _,H,I,rfl,q⟩
theorem op_neD (hu:X.A.units+64 < cLine):OpR X (compareOp .NotEq) (rEqD X.K true):=by
  intro pins s σ H x y v u Q I rx ry h
  obtain ⟨F,dx,dy,sm,h1,h2,s1,s2,q⟩:=h
  obtain ⟨as,ra⟩:=Rel.reads I sm (SeqAt.canLay_of_shaped s1) h1 rx
  obtain ⟨bs,rb⟩:=Rel.reads I sm (SeqAt.canLay_of_shaped s2) h2 ry
  exact SeqAt.compareNe_shaped ra rb s1 s2 hu ⟨.bl _,H,I,rfl,q⟩
def pEq (x y:PyData):Option PyData:=if SeqAt.shaped x=true∧SeqAt.shaped y=true then some (.bool (PyData.eqv x y)) else none
def pNe (x y:PyData):Option PyData:=if SeqAt.shaped x=true∧SeqAt.shaped y=true then some (.bool (!PyData.eqv x y)) else none
theorem ad_eq {K:PySem.W.Frag}:Ad2 K (rEqD K false) pEq:=fun F H x y dx dy d Q sm rx ry e q=>by
  unfold pEq at e
  split at e
  · rename_i hs
    cases e
    exact ⟨F,dx,dy,sm,rx,ry,hs.1,hs.2,q _ F H (.refl sm) rel_bl⟩
  · cases e
theorem ad_ne {K:PySem.W.Frag}:Ad2 K (rEqD K true) pNe:=fun F H x y dx dy d Q sm rx ry e q=>by
  unfold pNe at e
  split at e
  · rename_i hs
    cases e
    exact ⟨F,dx,dy,sm,rx,ry,hs.1,hs.2,q _ F H (.refl sm) rel_bl⟩
  · cases e
def pI (C:Int→Int→Prop) [∀ i j,Decidable (C i j)] (g:Int→Int→PyData) (x y:PyData):Option PyData:=match x,y with
  | .int i,.int j=>if C i j then some (g i j) else none
  | _,_=>none
instance:∀ i j,Decidable (CMul i j):=fun i j=>by unfold CMul; infer_instance
instance:∀ i j,Decidable (CDiv i j):=fun i j=>by unfold CDiv; infer_instance
theorem ad_I {K:PySem.W.Frag} {C:Int→Int→Prop} [∀ i j,Decidable (C i j)] {g:Int→Int→PyData} {gv:Int→Int→V} (hg:∀ F i j,Rel K F (g i j) (gv i j)):Ad2 K (rI C gv) (pI C g):=fun F H x y dx dy d Q sm rx ry e q=>by
  cases dx <;> cases dy <;> simp only [pI,reduceCtorEq] at e
  split at e
  · rename_i hc
    cases e
    exact ⟨_,_,rx.int,ry.int,hc,q _ F H (.refl sm) (hg F _ _)⟩
  · cases e
theorem ad_I0 {K:PySem.W.Frag} {g:Int→Int→PyData} {gv:Int→Int→V} (hg:∀ F i j,Rel K F (g i j) (gv i j)):Ad2 K (rI0 gv) (pI (fun _ _=>True) g):=fun F H x y dx dy d Q sm rx ry e q=>by
  cases dx <;> cases dy <;> simp only [pI,reduceCtorEq,if_true] at e
  cases e
  exact ⟨_,_,rx.int,ry.int,q _ F H (.refl sm) (hg F _ _)⟩
def pSub:=pI (fun _ _=>True) fun i j=>.int (i - j)
def pMul:=pI CMul fun i j=>.int (i*j)
def pFdiv:=pI CDiv fun i j=>.int (i / j)
def pMod:=pI (fun _ j=>0 < j) fun i j=>.int (i % j)
def pLt:=pI (fun _ _=>True) fun i j=>.bool (decide (i < j))
def pLe:=pI (fun _ _=>True) fun i j=>.bool (decide (i≤j))
def pGt:=pI (fun _ _=>True) fun i j=>.bool (decide (j < i))
def pGe:=pI (fun _ _=>True) fun i j=>.bool (decide (j≤i))
section
variable {B:Bd} {a b:Expr} {f g:En→Option PyData} {pos:Pos}
theorem E.sub (ha:E X B a f) (hb:E X B b g):E X B (.BinOp a .Sub b pos) (l2 pSub f g):=E.op op_sub (ad_I0 fun _ _ _=>rel_int) ha hb
theorem E.mul (ha:E X B a f) (hb:E X B b g):E X B (.BinOp a .Mult b pos) (l2 pMul f g):=E.op op_mul (ad_I fun _ _ _=>rel_int) ha hb
theorem E.fdiv (ha:E X B a f) (hb:E X B b g):E X B (.BinOp a .FloorDiv b pos) (l2 pFdiv f g):=E.op op_fdiv (ad_I fun _ _ _=>rel_int) ha hb
theorem E.mod (ha:E X B a f) (hb:E X B b g):E X B (.BinOp a .Mod b pos) (l2 pMod f g):=E.op op_mod (ad_I fun _ _ _=>rel_int) ha hb
theorem E.eq {k:Nat} (hr:Room k X.A) (ha:E X B a f) (hb:E X B b g):E X B (.Compare a [.Eq] [b] pos) (l2 pEq f g):=E.cmp (op_eqD hr.units) ad_eq (nomark b) ha hb
theorem T.eq {k:Nat} (hr:Room k X.A) (ha:E X B a f) (hb:E X B b g):T X B (.Compare a [.Eq] [b] pos) (bT (l2 pEq f g)):=T.cmp (op_eqD hr.units) ad_eq (nomark b) ha hb
theorem T.ne {k:Nat} (hr:Room k X.A) (ha:E X B a f) (hb:E X B b g):T X B (.Compare a [.NotEq] [b] pos) (bT (l2 pNe f g)):=T.cmp (op_neD hr.units) ad_ne (nomark b) ha hb
theorem T.lt (ha:E X B a f) (hb:E X B b g):T X B (.Compare a [.Lt] [b] pos) (bT (l2 pLt f g)):=T.cmp op_lt (ad_I0 fun _ _ _=>rel_bl) (nomark b) ha hb
theorem T.gt (ha:E X B a f) (hb:E X B b g):T X B (.Compare a [.Gt] [b] pos) (bT (l2 pGt f g)):=T.cmp op_gt (ad_I0 fun _ _ _=>rel_bl) (nomark b) ha hb
theorem T.ge (ha:E X B a f) (hb:E X B b g):T X B (.Compare a [.GtE] [b] pos) (bT (l2 pGe f g)):=T.cmp op_ge (ad_I0 fun _ _ _=>rel_bl) (nomark b) ha hb
end
def rCatS (K:PySem.W.Frag):R2:=fun x y H Q=>∃ l b xs zs,x=.ref l∧y=.ref b∧SqL K H l xs∧SqL K H b zs∧xs.length+zs.length≤sizeLine∧∀ p,H p=none→Q (.ref p) (upd H p (.lst (xs++zs)))
theorem op_catS:OpR X (binaryOp .Add) (rCatS X.K):=by
  intro pins s σ H x y v u Q I rx ry h
  obtain ⟨l,b,xs,zs,rfl,rfl,hH,hB,hz,q⟩:=h
  cases rx
  cases ry
  obtain ⟨its,r,⟨⟨c1,d1,t1,sl1⟩,n,e,ec,ed,es⟩,z⟩:=I.list hH
  obtain ⟨its2,r2,⟨⟨c2,d2,t2,sl2⟩,n2,e2,ec2,ed2,es2⟩,z2⟩:=I.list hB
  have hl:=r.length
  have hl2:=r2.length
  simp only at ec ed es ec2 ed2 es2
  subst ec ed es ec2 ed2 es2
  have ea:its.toArray++its2.toArray=(its++its2).toArray:=by simp
  refine concat_meets ⟨_,e,rfl⟩ ⟨_,e2,rfl⟩ PySem.noFill_list_add PySem.seq_list_add PySem.F.slot_list_add PySem.F.entry_list_add (PySem.F.args_list_add_2 _ _)
      (list_addW l b its.toArray its2.toArray n n2 none none sl1 sl2 (by rw [List.size_toArray,List.size_toArray]; omega)) ⟨e,e2,?_⟩
  rw [ea]
  exact ⟨.ref _,_,I.lnew (t':=s.toks) (r.append r2) (by rw [List.length_append]; omega),rfl,q _ I.fresh⟩
def rCatTT (K:PySem.W.Frag):R2:=fun x y H Q=>∃ a b xs ys,x=.ref a∧y=.ref b∧SqT K H a xs∧SqT K H b ys∧xs.length+ys.length≤sizeLine ∧
  (xs=[]→Q (.ref b) H)∧(xs≠[]→ys=[]→Q (.ref a) H)∧(∀ p,H p=none→Q (.ref p) (upd H p (.tup (xs++ys))))
theorem op_catTT:OpR X (binaryOp .Add) (rCatTT X.K):=by
  intro pins s σ H x y v u Q I rx ry h
  obtain ⟨a,b,xs,ys,rfl,rfl,ha,hb,hz,q0,q1,q2⟩:=h
  cases rx
  cases ry
  obtain ⟨its,r1,p1,_⟩:=I.tuple ha
  obtain ⟨its2,r2,p2,_⟩:=I.tuple hb
  by_cases hx:xs=[]
  · have hi:its=[]:=r1.nil_iff.mpr hx
    obtain ⟨⟨cls,dd,data,sl⟩,ho,hc,n,hd⟩:=id p1
    obtain ⟨⟨cls2,dd2,data2,sl2⟩,ho2,hc2,n2,hd2⟩:=id p2
    simp only at hc hd hc2 hd2
    subst hc hd hc2 hd2
    exact concat_meets ⟨_,ho,rfl⟩ ⟨_,ho2,rfl⟩ noFill_tuple_add seq_tuple_add PySem.F.slot_tuple_add PySem.F.entry_tuple_add (PySem.F.args_tuple_add_2 _ _)
      (tuple_addW0 a b its.toArray its2.toArray n n2 dd dd2 sl sl2 (by simp [hi])) ⟨ho,ho2,⟨.ref b,H,I,rfl,q0 hx⟩⟩
  · refine HT.cat_tup p1 p2 (fun z=>hx (r1.nil_iff.mp z)) (fun z=>⟨.ref a,H,I,rfl,q1 hx (r2.nil_iff.mp z)⟩) (fun z=>?_) (by rw [← r1.length,← r2.length]; exact hz)
    refine ⟨.ref s.heap.objs.size,_,I.laid (t':=s.toks) (o:=.tup (xs++ys)) (fun b ob q=>Heap.get?_push_of_some _ q) (Nat.le_refl _) ?_,rfl,q2 _ (I.hok.fresh (Nat.le_refl _))⟩
    exact ⟨by rw [List.length_append]; exact hz,_,r1.append r2,IsTup.new _ _⟩
def pAdd (x y:PyData):Option PyData:=match x,y with
  | .int i,.int j=>some (.int (i+j))
  | .str i,.str j=>if i.length+j.length≤sizeLine then some (.str (i++j)) else none
  | .list i,.list j=>if i.length+j.length≤sizeLine then some (.list (i++j)) else none
  | .tuple i,.tuple j=>if i.length+j.length≤sizeLine then some (.tuple (i++j)) else none
  | _,_=>none
theorem op_addA:OpR X (binaryOp .Add) (fun x y H Q=>(∃ i j,x=.int i∧y=.int j∧Q (.int (i+j)) H)∨(∃ i j,x=.str i∧y=.str j∧i.length+j.length≤sizeLine∧Q (.str (i++j)) H)∨rCatS X.K x y H Q∨rCatTT X.K x y H Q) :=
  op_add.or (op_add_str.or (op_catS.or op_catTT))
theorem ad_add {K:PySem.W.Frag}:Ad2 K (fun x y H Q=>(∃ i j,x=.int i∧y=.int j∧Q (.int (i+j)) H)∨(∃ i j,x=.str i∧y=.str j∧i.length+j.length≤sizeLine∧Q (.str (i++j)) H)∨rCatS K x y H Q∨rCatTT K x y H Q) pAdd:=fun F H x y dx dy d Q sm rx ry e q=>by
  unfold pAdd at e
  split at e
  · cases e
    exact .inl ⟨_,_,rx.int,ry.int,q _ F H (.refl sm) rel_int⟩
  · split at e
    · rename_i hz
      cases e
      exact .inr (.inl ⟨_,_,rx.str,ry.str,hz,q _ F H (.refl sm) rel_str⟩)
    · cases e
  · split at e
    · rename_i hz
      cases e
      obtain ⟨a,xs,rfl,h1,r1⟩:=rx.lst
      obtain ⟨b,ys,rfl,h2,r2⟩:=ry.lst
      refine .inr (.inr (.inl ⟨a,b,xs,ys,rfl,rfl,sm.seq h1,sm.seq h2,by rw [r1.length,r2.length]; exact hz,fun p hp=>?_⟩))
      have g:=Gr.one (o:=.lst (xs++ys)) sm hp
      exact q _ _ _ g (rel_lst (SqL.of upd_same) ((r1.append r2).mono g.ff))
    · cases e
  · rename_i i j
    split at e
    · rename_i hz
      cases e
      obtain ⟨a,xs,rfl,h1,r1⟩:=rx.tup
      obtain ⟨b,ys,rfl,h2,r2⟩:=ry.tup
      refine .inr (.inr (.inr ⟨a,b,xs,ys,rfl,rfl,same_seqT sm h1,same_seqT sm h2,by rw [r1.length,r2.length]; exact hz,fun z=>?_,fun z1 z2=>?_,fun p hp=>?_⟩))
      · subst z
        have:=List.eq_nil_of_length_eq_zero r1.length.symm
        subst this
        exact q _ F H (.refl sm) (rel_tup h2 (by simpa using r2))
      · subst z2
        have:=List.eq_nil_of_length_eq_zero r2.length.symm
        subst this
        exact q _ F H (.refl sm) (rel_tup h1 (by simpa using r1))
      · have g:=Gr.one (o:=.tup (xs++ys)) sm hp
        exact q _ _ _ g (rel_tup (SqT.of upd_same) ((r1.append r2).mono g.ff))
    · cases e
  · cases e
section
variable {B:Bd} {a b e:Expr} {es:List Expr} {f g:En→Option PyData} {fs:En→Option (List PyData)} {pos pp:Pos}
theorem E.add (ha:E X B a f) (hb:E X B b g):E X B (.BinOp a .Add b pos) (l2 pAdd f g):=E.op op_addA ad_add ha hb
def pNeg:PyData→Option PyData
  | .int i=>some (.int (-i))
  | _=>none
theorem E.neg (ha:E X B a f):E X B (.UnaryOp .USub a pos) (l1 pNeg f):=PE.imp (pe_un un_neg ha) fun σ H Q ⟨F,η,d,sr,hd,q⟩=>by
  obtain ⟨x,hx,hd⟩:=bind_some hd
  cases x <;> simp only [pNeg,reduceCtorEq,Option.some.injEq] at hd
  subst hd
  exact ⟨F,η,_,sr,hx,fun v F1 H1 g1 rv=>⟨_,rv.int,q _ F1 H1 g1 rel_int⟩⟩
def pIx (x y:PyData):Option PyData:=match x,y with
  | .list ds,.int i=>atI ds i
  | .tuple ds,.int i=>atI ds i
  | .str z,.int i=>if z.length≤sizeLine then (atI z.cps.toList i).bind fun c=>some (.str ⟨#[c]⟩) else none
  | _,_=>none
theorem atI_rel {K:PySem.W.Frag} {F:Hp} {ds:List PyData} {xs:List V} {i:Int} {d:PyData} (r:RelL K F ds xs) (e:atI ds i=some d):∃ x,atI xs i=some x∧Rel K F d x:=by
  unfold atI at e ⊢
  rw [r.length]
  obtain ⟨j,h1,h2⟩:=bind_some e
  rw [h1]
  obtain ⟨x,h3,h4⟩:=r.get h2
  exact ⟨x,h3,h4⟩
theorem ad_ix {K:PySem.W.Frag}:Ad2 K (rIx K) pIx:=fun F H x y dx dy d Q sm rx ry e q=>by
  unfold pIx at e
  split at e
  · obtain ⟨a,xs,rfl,h1,r1⟩:=rx.lst
    obtain ⟨v,h2,h3⟩:=atI_rel r1 e
    exact .inl ⟨a,xs,_,v,rfl,ry.int,sm.seq h1,h2,q _ F H (.refl sm) h3⟩
  · obtain ⟨a,xs,rfl,h1,r1⟩:=rx.tup
    obtain ⟨v,h2,h3⟩:=atI_rel r1 e
    exact .inr (.inl ⟨a,xs,_,v,rfl,ry.int,same_seqT sm h1,h2,q _ F H (.refl sm) h3⟩)
  · split at e
    · rename_i hz
      obtain ⟨c,h1,h2⟩:=bind_some e
      cases h2
      exact .inr (.inr ⟨_,_,c,rx.str,ry.int,hz,h1,q _ F H (.refl sm) rel_str⟩)
    · cases e
  · cases e
theorem E.at (ha:E X B a f) (hb:E X B b g) (hs:PlainIx b:=by intro _ _; rfl):E X B (.Subscript a b pos) (l2 pIx f g):=E.ix ix_seq ad_ix ha hb hs
def flatD:PyData→Bool
  | .none=>true
  | .bool _=>true
  | .int _=>true
  | .str _=>true
  | _=>false
theorem flat_of {K:PySem.W.Frag} {F:Hp} {d:PyData} {v:V} (h:flatD d=true) (r:Rel K F d v):flatV v=true:=by
  cases d <;> simp [flatD] at h
  · rw [r.non]; rfl
  · rw [r.bl]; rfl
  · rw [r.int]; rfl
  · rw [r.str]; rfl
theorem flats_of {K:PySem.W.Frag} {F:Hp}:∀ {ds:List PyData} {vs:List V},ds.all flatD=true→RelL K F ds vs→vs.all flatV=true
  | [],vs,_,r=>by rw [r.nil_of]; rfl
  | d::ds,vs,h,r=>by
    obtain ⟨x,xs,rfl,r1,r2⟩:=r.cons_of
    rw [List.all_cons,Bool.and_eq_true] at h ⊢
    exact ⟨flat_of h.1 r1,flats_of h.2 r2⟩
theorem eqV_of {K:PySem.W.Frag} {F:Hp} {d e:PyData} {x y:V} (hd:flatD d=true) (he:flatD e=true) (r:Rel K F d x) (s:Rel K F e y):eqV x y=PyData.eqv d e:=by
  cases d <;> simp [flatD] at hd <;> cases e <;> simp [flatD] at he
  all_goals (first | rw [r.non] | rw [r.bl] | rw [r.int] | rw [r.str]) <;> (first | rw [s.non] | rw [s.bl] | rw [s.int] | rw [s.str])
  all_goals first | rfl | simp [eqV,PyData.eqv]
theorem inV_of {K:PySem.W.Frag} {F:Hp} {d:PyData} {x:V} (hd:flatD d=true) (r:Rel K F d x):∀ {ds:List PyData} {vs:List V},ds.all flatD=true→RelL K F ds vs→inV x vs=ds.any fun y=>PyData.eqv y d
  | [],vs,_,rs=>by rw [rs.nil_of]; rfl
  | e::ds,vs,h,rs=>by
    obtain ⟨y,xs,rfl,r1,r2⟩:=rs.cons_of
    rw [List.all_cons,Bool.and_eq_true] at h
    have ih:=inV_of hd r h.2 r2
    unfold inV at ih ⊢
    rw [List.any_cons,List.any_cons,ih,eqV_of h.1 hd r1 r]
def pIn (neg:Bool) (x y:PyData):Option PyData:=match y with
  | .list ds=>if flatD x=true∧ds.all flatD=true then some (.bool (if neg then !(ds.any fun y=>PyData.eqv y x) else ds.any fun y=>PyData.eqv y x)) else none
  | .tuple ds=>if flatD x=true∧ds.all flatD=true then some (.bool (if neg then !(ds.any fun y=>PyData.eqv y x) else ds.any fun y=>PyData.eqv y x)) else none
  | .str j=>match x with
    | .str i=>some (.bool (if neg then !(!(Builtin.Str.occurrences j i 0 j.length 1).isEmpty) else !(Builtin.Str.occurrences j i 0 j.length 1).isEmpty))
    | _=>none
  | _=>none
def rInA (K:PySem.W.Frag) (neg:Bool):R2:=fun x y H Q=>rIn K neg x y H Q∨(∃ i j,x=.str i∧y=.str j∧Q (.bl (if neg then !(!(Builtin.Str.occurrences j i 0 j.length 1).isEmpty) else !(Builtin.Str.occurrences j i 0 j.length 1).isEmpty)) H)
theorem op_inA:OpR X (compareOp .In) (rInA X.K false):=op_in_seq.or op_in_str
theorem op_notInA:OpR X (compareOp .NotIn) (rInA X.K true):=op_notIn_seq.or op_notIn_str
theorem ad_in {K:PySem.W.Frag} {neg:Bool}:Ad2 K (rInA K neg) (pIn neg):=fun F H x y dx dy d Q sm rx ry e q=>by
  unfold pIn at e
  split at e
  · split at e
    · rename_i hf
      cases e
      obtain ⟨b,ys,rfl,h2,r2⟩:=ry.lst
      refine .inl ⟨b,ys,rfl,.inl (sm.seq h2),flat_of hf.1 rx,flats_of hf.2 r2,?_⟩
      rw [inV_of hf.1 rx hf.2 r2]
      exact q _ F H (.refl sm) rel_bl
    · cases e
  · split at e
    · rename_i hf
      cases e
      obtain ⟨b,ys,rfl,h2,r2⟩:=ry.tup
      refine .inl ⟨b,ys,rfl,.inr (same_seqT sm h2),flat_of hf.1 rx,flats_of hf.2 r2,?_⟩
      rw [inV_of hf.1 rx hf.2 r2]
      exact q _ F H (.refl sm) rel_bl
    · cases e
  · split at e
    · cases e
      exact .inr ⟨_,_,rx.str,ry.str,q _ F H (.refl sm) rel_bl⟩
    · cases e
  · cases e
theorem T.in (ha:E X B a f) (hb:E X B b g) (hm:behindInMarks .In b=false:=by with_unfolding_all rfl):T X B (.Compare a [.In] [b] pos) (bT (l2 (pIn false) f g)):=T.cmp op_inA ad_in hm ha hb
theorem T.notIn (ha:E X B a f) (hb:E X B b g) (hm:behindInMarks .NotIn b=false:=by with_unfolding_all rfl):T X B (.Compare a [.NotIn] [b] pos) (bT (l2 (pIn true) f g)):=T.cmp op_notInA ad_in hm ha hb
def AdA (K:PySem.W.Frag) (r:List V→Hp→VK→Prop) (o:List PyData→Option PyData):Prop :=
  ∀ F H xs ds d Q,Same F H→RelL K F ds xs→o ds=some d→(∀ v F' H',Gr F H F' H'→Rel K F' d v→Q v H')→r xs H Q
theorem tCB_of {K:PySem.W.Frag} {r:List V→Hp→VK→Prop} {o:List PyData→Option PyData} (ad:AdA K r o):∀ σ H Q,tE K B (lA o fs) σ H Q→tCB r (tA K B fs) σ H Q:=fun σ H Q ⟨F,η,d,sr,hd,q⟩=>by
  obtain ⟨ds,hx,hd⟩:=bind_some hd
  exact ⟨F,η,ds,sr,hx,fun vs F1 H1 g1 rs=>ad F1 H1 vs ds d Q g1.fh rs hd fun v F2 H2 g2 rv=>q v F2 H2 (g1.trans g2) rv⟩
theorem E.callB {x:Str} {id:String} {r:List V→Hp→VK→Prop} {o:List PyData→Option PyData} (hc:CallR X (.builtin id) r) (ad:AdA X.K r o) (hm:X.mg x=none) (hv:bootBuiltins x=some (.builtin id)) (ha:A X B (e::es) fs) (hg:Gl X x:=by rfl) (hn:x ≠ "__name__" := by decide) (hdb:(x==("__debug__" : Str))=false:=by decide)
    (he:starEach (e::es) X.env=(false,eval e X.env)::starEach es X.env:=by exact star_of rfl) (hpl:(backTo pos (starEach es X.env)).any (·.1)=false:=by exact plain_of rfl):E X B (.Call (.Name x pp) (e::es) [] pos) (lA o fs) :=
  PE.imp (pe_callB hc hg hm hv ha hn hdb he hpl) (tCB_of ad)
theorem E.callTy {x:Str} {id:String} {r:List V→Hp→VK→Prop} {o:List PyData→Option PyData} (hc:CallR X (.type id) r) (ad:AdA X.K r o) (hm:X.mg x=none) (hv:bootBuiltins x=some (.type id)) (ha:A X B (e::es) fs) (hg:Gl X x:=by rfl) (hn:x ≠ "__name__" := by decide) (hdb:(x==("__debug__" : Str))=false:=by decide)
    (he:starEach (e::es) X.env=(false,eval e X.env)::starEach es X.env:=by exact star_of rfl) (hpl:(backTo pos (starEach es X.env)).any (·.1)=false:=by exact plain_of rfl):E X B (.Call (.Name x pp) (e::es) [] pos) (lA o fs) :=
  PE.imp (pe_callTy hc hg hm hv ha hn hdb he hpl) (tCB_of ad)
def pLen (ds:List PyData):Option PyData:=match ds with
  | [.list xs]=>some (.int xs.length)
  | [.tuple xs]=>some (.int xs.length)
  | [.str z]=>if z.length≤sizeLine then some (.int z.length) else none
  | _=>none
theorem ad_len {K:PySem.W.Frag}:AdA K (fun xs H Q=>(∃ p ys,xs=[.ref p]∧(SqL K H p ys∨SqT K H p ys)∧Q (.int ys.length) H)∨(∃ z,xs=[.str z]∧z.length≤sizeLine∧Q (.int z.length) H)) pLen:=fun F H xs ds d Q sm rs e q=>by
  unfold pLen at e
  split at e
  · cases e
    obtain ⟨x,r,rfl,rx,rr⟩:=rs.cons_of
    obtain rfl:=rr.nil_of
    obtain ⟨a,ys,rfl,h1,r1⟩:=rx.lst
    exact .inl ⟨a,ys,rfl,.inl (sm.seq h1),by rw [r1.length]; exact q _ F H (.refl sm) rel_int⟩
  · cases e
    obtain ⟨x,r,rfl,rx,rr⟩:=rs.cons_of
    obtain rfl:=rr.nil_of
    obtain ⟨a,ys,rfl,h1,r1⟩:=rx.tup
    exact .inl ⟨a,ys,rfl,.inr (same_seqT sm h1),by rw [r1.length]; exact q _ F H (.refl sm) rel_int⟩
  · split at e
    · rename_i hz
      cases e
      obtain ⟨x,r,rfl,rx,rr⟩:=rs.cons_of
      obtain rfl:=rr.nil_of
      exact .inr ⟨_,by rw [rx.str],hz,q _ F H (.refl sm) rel_int⟩
    · cases e
  · cases e
theorem E.len (hm:X.mg "len" = none) (ha:A X B [e] fs) (hg:Gl X "len" := by rfl) (he:starEach [e] X.env=(false,eval e X.env)::starEach [] X.env:=by exact star_of rfl) (hpl:(backTo pos (starEach [] X.env)).any (·.1)=false:=by rfl):E X B (.Call (.Name "len" pp) [e] [] pos) (lA pLen fs) :=
  E.callB (call_len_seq.or call_len_str) ad_len hm PySem.boot_len ha hg (by decide) (by decide) he hpl
def pTup (ds:List PyData):Option PyData:=match ds with
  | [.list xs]=>some (.tuple xs)
  | [.tuple xs]=>some (.tuple xs)
  | _=>none
theorem ad_tup {K:PySem.W.Frag}:AdA K (fun xs H Q=>∃ p ys,xs=[.ref p]∧((SqL K H p ys∧∀ l,H l=none→Q (.ref l) (upd H l (.tup ys)))∨(SqT K H p ys∧Q (.ref p) H))) pTup:=fun F H xs ds d Q sm rs e q=>by
  unfold pTup at e
  split at e
  · cases e
    obtain ⟨x,r,rfl,rx,rr⟩:=rs.cons_of
    obtain rfl:=rr.nil_of
    obtain ⟨a,ys,rfl,h1,r1⟩:=rx.lst
    refine ⟨a,ys,rfl,.inl ⟨sm.seq h1,fun p hp=>?_⟩⟩
    have g:=Gr.one (o:=.tup ys) sm hp
    exact q _ _ _ g (rel_tup (SqT.of upd_same) (r1.mono g.ff))
  · cases e
    obtain ⟨x,r,rfl,rx,rr⟩:=rs.cons_of
    obtain rfl:=rr.nil_of
    obtain ⟨a,ys,rfl,h1,r1⟩:=rx.tup
    exact ⟨a,ys,rfl,.inr ⟨same_seqT sm h1,q _ F H (.refl sm) (rel_tup h1 r1)⟩⟩
  · cases e
theorem E.tuple (hm:X.mg "tuple" = none) (ha:A X B [e] fs) (hg:Gl X "tuple" := by rfl) (he:starEach [e] X.env=(false,eval e X.env)::starEach [] X.env:=by exact star_of rfl) (hpl:(backTo pos (starEach [] X.env)).any (·.1)=false:=by rfl):E X B (.Call (.Name "tuple" pp) [e] [] pos) (lA pTup fs) :=
  E.callTy call_tuple_of ad_tup hm (by decide +kernel) ha hg (by decide) (by decide) he hpl
end
end
def cutL {α:Type} (xs:List α) (lo hi:Option Int):List α:=(xs.drop (HT.sIx xs.length 0 lo)).take (HT.sIx xs.length xs.length hi - HT.sIx xs.length 0 lo)
section
variable {X:Cx}
theorem RelL.cut {K:PySem.W.Frag} {F:Hp} {ds:List PyData} {xs:List V} (r:RelL K F ds xs) (lo hi:Option Int):RelL K F (cutL ds lo hi) (cutV xs lo hi):=by
  unfold cutL cutV
  rw [r.length]
  exact (r.drop _).take _
theorem sl_tupW:SlR X (fun x lo hi H Q=>∃ a xs,x=.ref a∧SqT X.K H a xs∧(HT.sIx xs.length 0 lo=0∧HT.sIx xs.length xs.length hi=xs.length)∧Q (.ref a) H):=by
  intro pins s σ H x v vl vu lo hi sl Q I rx hs pl pu h
  obtain ⟨a,xs,rfl,hx,hw,q⟩:=h
  cases rx
  obtain ⟨its,r,ht,hz⟩:=I.tuple hx
  have hlen:its.toArray.size=xs.length:=by rw [List.size_toArray]; exact r.length.symm
  refine ⟨"tuple", _,PyProof.Rows.slot_tuple_getitem.lookup,ht.typeIs,?_⟩
  obtain ⟨os,hos,hcs,hds⟩:=id hs
  have hTs:s.TypeIs (.ref sl) "slice" := ⟨os,hos,hcs⟩
  unfold getItem
  try with_reducible refine wpAny_holding ?_
  first | refine wpAny_bind (wpAny_pure ?_) | skip
  refine wpAny_bind (wpAny_sequenceKey ht.typeIs (by decide) ?_)
  refine wpAny_bind (wpAny_callSpecial?_slot (name:=Str.ofString "__getitem__") ht.typeIs PyProof.Rows.slot_tuple_getitem
    (wpAny_call_entry PyProof.Rows.slot_tuple_getitem ht.typeIs entry_tuple_getitem ?_ (args_tuple_getitem _ _)))
  show wpAny _ _ (Builtin.Tuple.tupleItemsOf (.ref a) >>= _) _ _ s
  refine wpAny_bind (tupleItemsOf_ ht ?_)
  refine wpAny_bind (wpAny_typeOf hTs ?_)
  rw [if_pos (by decide)]
  refine wpAny_bind (HT.sliceApplied_gen hs pl pu ?_)
  rw [hlen]
  have hyes:((((HT.sIx xs.length 0 lo:Nat):Int)==0&&(1:Int)==1&&(HT.sIx xs.length xs.length hi - HT.sIx xs.length 0 lo)==xs.length)=true):=by
    rw [hw.1,hw.2]; simp
  show wpAny _ _ (if (((HT.sIx xs.length 0 lo:Nat):Int)==0&&(1:Int)==1&&(HT.sIx xs.length xs.length hi - HT.sIx xs.length 0 lo)==xs.length)=true then _ else _) _ _ s
  rw [if_pos hyes]
  have fin:EP X pins σ Q (.ref a) s:=⟨.ref a,H,I,rfl,q⟩
  refine wpAny_bind ?_
  unfold Builtin.Tuple.tupleIsExact
  refine wpAny_bind (wpAny_typeOf ht.typeIs (wpAny_pure ?_))
  rw [if_pos (by decide)]
  exact wpAny_bind (wpAny_rule (wpAny_pure ⟨_,rfl,wpAny_pure fin⟩))
def pSl (x:PyData) (lo hi:Option Int):Option PyData:=match x with
  | .list ds=>some (.list (cutL ds lo hi))
  | .tuple ds=>some (.tuple (cutL ds lo hi))
  | _=>none
def rSlA (K:PySem.W.Frag):V→Option Int→Option Int→Hp→VK→Prop:=fun x lo hi H Q=>rSlL K x lo hi H Q∨rSlT K x lo hi H Q∨(∃ a xs,x=.ref a∧SqT K H a xs∧(HT.sIx xs.length 0 lo=0∧HT.sIx xs.length xs.length hi=xs.length)∧Q (.ref a) H)
theorem sl_A:SlR X (rSlA X.K):=sl_list.or (sl_tup.or sl_tupW)
theorem ad_sl {K:PySem.W.Frag} {F H:Hp} {x:V} {dx d:PyData} {lo hi:Option Int} {Q:VK} (sm:Same F H) (rx:Rel K F dx x) (e:pSl dx lo hi=some d) (q:∀ v F' H',Gr F H F' H'→Rel K F' d v→Q v H'):rSlA K x lo hi H Q:=by
  unfold pSl at e
  split at e
  · cases e
    obtain ⟨a,xs,rfl,h1,r1⟩:=rx.lst
    refine .inl ⟨a,xs,rfl,sm.seq h1,fun p hp=>?_⟩
    have g:=Gr.one (o:=.lst (cutV xs lo hi)) sm hp
    exact q _ _ _ g (rel_lst (SqL.of upd_same) ((r1.cut lo hi).mono g.ff))
  · cases e
    obtain ⟨a,xs,rfl,h1,r1⟩:=rx.tup
    by_cases hw:HT.sIx xs.length 0 lo=0∧HT.sIx xs.length xs.length hi=xs.length
    · refine .inr (.inr ⟨a,xs,rfl,same_seqT sm h1,hw,q _ F H (.refl sm) (rel_tup h1 ?_)⟩)
      have:=r1.cut lo hi
      have e2:cutV xs lo hi=xs:=by
        unfold cutV
        rw [hw.1,hw.2]
        simp
      rw [e2] at this
      exact this
    · refine .inr (.inl ⟨a,xs,rfl,same_seqT sm h1,hw,fun p hp=>?_⟩)
      have g:=Gr.one (o:=.tup (cutV xs lo hi)) sm hp
      exact q _ _ _ g (rel_tup (SqT.of upd_same) ((r1.cut lo hi).mono g.ff))
  · cases e
section
variable {B:Bd} {a b e:Expr} {es:List Expr} {f g:En→Option PyData} {fs:En→Option (List PyData)} {pos pp p2:Pos} {lo hi:Option Expr} {fl fh:En→Option (Option Int)}
def tP (K:PySem.W.Frag) (B:Bd) (f:En→Option (Option Int)):TO:=fun σ H Q=>∃ F η o,SR K B F H σ η∧f η=some o∧∀ F' H',Gr F H F' H'→Q o H'
def P (X:Cx) (B:Bd) (e:Option Expr) (f:En→Option (Option Int)):Prop:=PO X e (tP X.K B f)
def pN:En→Option (Option Int):=fun _=>some none
def asI:PyData→Option Int
  | .int i=>some i
  | _=>none
theorem asI_some {d:PyData} {i:Int} (h:asI d=some i):d=.int i:=by
  cases d <;> simp [asI] at h
  rw [h]
def pS (f:En→Option PyData):En→Option (Option Int):=fun η=>(f η).bind fun d=>(asI d).bind fun i=>some (some i)
theorem PO.imp {X:Cx} {e:Option Expr} {t t':TO} (h:PO X e t) (i:∀ σ H Q,t' σ H Q→t σ H Q):PO X e t':=fun pins s σ H Q I q=>h pins s σ H Q I (i σ H Q q)
theorem P.none:P X B none pN:=PO.imp po_none fun σ H Q ⟨F,η,d,sr,hd,q⟩=>by
  cases hd
  exact q F H (.refl sr.same)
theorem P.some (h:E X B e f):P X B (some e) (pS f):=PO.imp (po_some h) fun σ H Q ⟨F,η,d,sr,hd,q⟩=>by
  obtain ⟨x,hx,hd⟩:=bind_some hd
  obtain ⟨i,hi,hd⟩:=bind_some hd
  cases hd
  obtain rfl:=asI_some hi
  exact ⟨F,η,_,sr,hx,fun v F1 H1 g1 rv=>⟨i,rv.int,q F1 H1 g1⟩⟩
def eSl (f:En→Option PyData) (fl fh:En→Option (Option Int)):En→Option PyData:=fun η=>(f η).bind fun x=>(fl η).bind fun l=>(fh η).bind fun h=>pSl x l h
theorem E.sl (he:E X B e f) (hl:P X B lo fl) (hu:P X B hi fh):E X B (.Subscript e (.Slice lo hi none p2) pos) (eSl f fl fh):=PE.imp (pe_slice sl_A he hl hu) fun σ H Q ⟨F,η,d,sr,hd,q⟩=>by
  obtain ⟨x,hx,hd⟩:=bind_some hd
  obtain ⟨l,hl,hd⟩:=bind_some hd
  obtain ⟨h,hh,hd⟩:=bind_some hd
  refine ⟨F,η,x,sr,hx,fun v F1 H1 g1 rv=>⟨F1,η,l,sr.grow g1,hl,fun F2 H2 g2=>⟨F2,η,h,(sr.grow g1).grow g2,hh,fun F3 H3 g3=>?_⟩⟩⟩
  exact ad_sl g3.fh (rv.mono (g2.ff.trans g3.ff)) hd fun w F4 H4 g4 rw'=>q w F4 H4 (((g1.trans g2).trans g3).trans g4) rw'
theorem list_extendW (l b:Addr) (items items2:Array Value) (n n2:Nat) (dd2:Option Addr) (sl2:Array (Option Value)) (hc0:¬(!items.isEmpty&&Builtin.List.listTooLong (items.size+items2.size))=true) (hc1:items.size≤sizeLine) (hs2:items.size+items2.size≤sizeLine+1) :
    Meets (Builtin.«list.extend» ⟨[.ref l,.ref b],[]⟩) (fun _ R s=>s.heap.get? l=some { cls:=.type "list", dict:=none,data:=.seq items n,slots:=#[] }∧s.heap.get? b=some { cls:=.type "list", dict:=dd2,data:=.seq items2 n2,slots:=sl2 }∧R (.ok (.ret Value.none)) { s with heap:=s.heap.update l (Obj.mapSeq fun x=>x++items2),toks:=s.toks }) :=
  .of_wp fun prog w A R s h=>by
    obtain ⟨hp,g,d,tk,os⟩:=s; obtain ⟨hl,hb,h⟩:=h; have f1:=AutoSeq1.idx_int; have f2:=AutoSeq1.sub_tuple_tuple; have f3:=AutoSeq1.sub_list_list; have f4:=AutoSeq1.sub_tuple_list; have f5:=AutoSeq1.sub_list_tuple
    have hz':(items++items2).size≤sizeLine+1:=by rw [Array.size_append]; exact hs2
    wp_walk using (wpAny_updateSeq hl rfl (hz:=hc1) (_hz':=hz')),AutoSeq1.wpAny_loadPart' hl,AutoSeq1.wpAny_loadPart' hb; exact ⟨_,rfl,h⟩
def rExtS (K:PySem.W.Frag):V→List V→Hp→VK→Prop:=fun x vs H Q=>∃ l b xs zs,x=.ref l∧vs=[.ref b]∧H l=some (.lst xs)∧SqL K H b zs∧xs.length+zs.length≤sizeLine∧Q .non (upd H l (.lst (xs++zs)))
theorem mt_extS:MtM X "list.extend" (rExtS X.K):=by
  intro pins s σ H x vs v us Q I rx rv h
  obtain ⟨l,b,xs,zs,rfl,rfl,hH,hB,hz,q⟩:=h
  cases rx
  obtain ⟨u,rfl,ru⟩:=rv.one
  cases ru
  obtain ⟨z,its,n,r,hl,e⟩:=I.lstM hH
  obtain ⟨its2,r2,⟨⟨c2,d2,t2,sl2⟩,n2,e2,ec2,ed2,es2⟩,z2⟩:=I.list hB
  simp only at ec2 ed2 es2
  subst ec2 ed2 es2
  have hl2:=r2.length
  have hsz:its.toArray.size+its2.toArray.size≤sizeLine:=by rw [List.size_toArray,List.size_toArray]; omega
  have hlong:¬ (!its.toArray.isEmpty&&Builtin.List.listTooLong (its.toArray.size+its2.toArray.size))=true:=by
    rw [notLongL hsz,Bool.and_false]
    exact Bool.false_ne_true
  refine call_meets F.slot_list_extend ⟨_,e,rfl⟩ F.entry_list_extend (F.args_list_extend_2 _ _)
    (list_extendW l b its.toArray its2.toArray n n2 none sl2 hlong (by rw [List.size_toArray]; omega) (by omega)) ⟨e,e2,?_⟩
  refine ⟨.non,_,I.lset (its':=its++its2) hH e (by simp) (r.append r2) ?_,rfl,q⟩
  rw [List.length_append]
  omega
variable {apos cpos:Pos}
theorem S.ext (i:Nat) {x:Str} {npos:Pos} (he:E X B e f) (hN:X.N[i]?=some x:=by rfl) (hv:Vis X.env.scope x:=by first | exact Or.inl rfl | exact Or.inr (Or.inl rfl) | exact Or.inr (Or.inr rfl)) (hd:(x==("__debug__" : Str))=false:=by decide) (hcd:(x==("__classdict__" : Str))=false:=by decide)
    (hbase:attributeBase (.Name x npos) "extend" X.env (eval (.Name x npos) X.env)=eval (.Name x npos) X.env:=by rfl)
    (hfew:((backTo cpos (starEach [e] X.env)).all (fun x=>!x.1)&&(backToKw cpos (keywordEach [] X.env)).all (fun x=>x.1.isSome)
      && decide ([e].length+([]:List Keyword).length+(if ([]:List Keyword).isEmpty then 0 else 1) < 30))=true:=by rfl)
    (hline:(apos.endLine==cpos.line)=true:=by rfl) (hs:starEach [e] X.env=(false,eval e X.env)::starEach [] X.env:=by exact star_of rfl) (hplain:(backTo cpos (starEach [] X.env)).any (·.1)=false:=by rfl)
    (hsw:swapsWith (.Call (.Attribute (.Name x npos) "extend" apos) [e] [] cpos) none pos.line X.env=pure false:=by rfl) :
    S X B (.Expr (.Call (.Attribute (.Name x npos) "extend" apos) [e] [] cpos) pos) (sExt i (lI asL f)) :=
  PS.imp (ps_expr (pe_bm PySem.F.plainAttrs_list PySem.F.slot_list_extend PySem.F.type_list_extend mt_extS (pe_var hN hv hd hcd) (A.cons he A.nil hs) hbase hfew hline hs hplain) hsw) fun D σ H ⟨F,η,o,sr,hd,q⟩=>by
    obtain ⟨es,h1,hd⟩:=bind_some hd
    split at hd
    · rename_i ds ed
      split at hd
      · rename_i hz
        cases hd
        obtain ⟨dl,h2,h3⟩:=bind_some h1
        cases dl <;> simp only [asL,Option.some.injEq,reduceCtorEq] at h3
        subst h3
        obtain ⟨p,xs,e1,e2,e3,e4,e5⟩:=sr.en.own i ds ed
        refine ⟨_,e1,.inl ⟨rfl,xs,SqL.of e4⟩,F,η,_,sr,(by show (f η).bind _=_; rw [h2]; rfl),fun vs F1 H1 g1 rs=>?_⟩
        obtain ⟨y,r,rfl,ry,rr⟩:=rs.cons_of
        obtain rfl:=rr.nil_of
        obtain ⟨b,zs,rfl,hq,r1⟩:=ry.lst
        have sr1:=sr.grow g1
        obtain ⟨p',xs',q1,q2,q3,q4,q5⟩:=sr1.en.own i ds ed
        rw [e1] at q1
        have ep:p=p':=by injection (Option.some.inj (Option.some.inj q1))
        subst ep
        refine ⟨p,b,xs',zs,rfl,rfl,q4,g1.fh.seq hq,by rw [q5.length,r1.length]; exact hz,?_⟩
        refine q σ F1 _ ⟨⟨sr1.gr.ff,fun c u z=>?_,fun c u z=>?_,sr1.gr.new⟩,sr1.en.putOwn ed e1 (q5.append r1)⟩ g1.ff
        · have nb:c≠p:=ne_of_none z q3
          rw [upd_ne nb]; exact sr1.gr.hh c u z
        · have nb:c≠p:=ne_of_none z q2
          rw [upd_ne nb]; exact sr1.gr.fh c u z
      · cases hd
    · cases hd
end
end
def signD (x:Str):List PyData:=x.cps.toList.map fun c=>PyData.str ⟨#[c]⟩
def enumD (ds:List PyData) (i:Nat):List PyData:=match ds with
  | []=>[]
  | d::r=>.tuple [.int i,d]::enumD r (i+1)
theorem enumD_get:∀ (ds:List PyData) (k i:Nat) (d:PyData),(enumD ds k)[i]?=some d→∃ c,ds[i]?=some c∧d=.tuple [.int ((k+i:Nat):Int),c]
  | [],k,i,d,h=>by simp [enumD] at h
  | c::r,k,0,d,h=>by
    simp [enumD] at h
    exact ⟨c,rfl,h.symm⟩
  | c::r,k,i+1,d,h=>by
    have h':(enumD r (k+1))[i]?=some d:=by simpa [enumD] using h
    obtain ⟨c',h1,h2⟩:=enumD_get r (k+1) i d h'
    exact ⟨c',by simpa using h1,by rw [h2,show k+1+i=k+(i+1) by omega]⟩
theorem enumD_len:∀ (ds:List PyData) (k:Nat),(enumD ds k).length=ds.length
  | [],_=>rfl
  | _::r,k=>by rw [enumD,List.length_cons,List.length_cons,enumD_len r]
def Ite (x:Str):It:=⟨fun i _=>i < x.cps.size,fun i H v H'=>∃ T c,H T=none∧x.cps[i]?=some c∧v=.ref T∧H'=upd H T (.tup [.int (i:Nat),.str ⟨#[c]⟩]),fun i _=>i=x.cps.size⟩
section
theorem turn_enum {P:Program} {w:World} {K:PySem.W.Frag} {elts:List Expr} {k:Nat} {tp:Pos} {e it:Addr} {x:Str} {St:Nat→Heap→Prop} (hei:e≠it)
    (D:∀ A:Around,A.handled=none→Draws P w A it [it] x.cps.size (fun i v=>∃ c u,x.cps[i]?=some c∧v=.str ⟨#[c]⟩ u) St) (hcell:∀ i h,St i h→∃ o,h.get? it=some o∧∀ v,o.data≠.cell v) :
    Turn P w K (.Tuple elts k tp) (Ite x) [e,it] e (fun i h=>(∃ old,IsEnum h e it i old)∧St i h) where
  mem:=by simp
  obj:=fun i h st b hb=>by
    obtain ⟨⟨old,he⟩,hs⟩:=st
    rcases List.mem_cons.mp hb with rfl | hb
    · exact ⟨_,he,fun v z=>by cases z⟩
    · rw [List.mem_singleton.mp hb]
      exact hcell i h hs
  keep:=fun i h h' st kk=>by
    obtain ⟨⟨old,he⟩,hs⟩:=st
    refine ⟨⟨old,kk e (by simp) _ he⟩,?_⟩
    exact (D { frames:=none,units:=0,depth:=0,handled:=none } rfl).frame i h h' hs fun b hb o q=>kk b (by rw [List.mem_singleton.mp hb]; simp) o q
  item:=by
    intro X hP hw hK hc i pins s σ H E I hf st hg
    subst hP hw hK
    have W:=WalksT.enumerateD (prog:=X.prog) (w:=X.w) (A:=X.A) (D X.A.in1 (I.ok.hd hc)) e hei (by simpa using hei) (by simp)
    refine W.item i s _ _ hg st fun T vals h' tk Pt hT hIs Md kp=>⟨.ref T,rfl,?_⟩
    refine W.go elts k tp i T _ _ _ Md fun h'' st'' kp''=>?_
    obtain ⟨t,xv,⟨c,u,hcx,rfl⟩,rfl⟩:=Pt
    have nT:H T=none:=I.hok.fresh hT
    have aT:T∉[e,it]:=W.apart i T _ Md
    have kall:∀ b o,b∉[e,it]→s.heap.get? b=some o→h''.get? b=some o:=fun b o hb q=>kp'' b o hb (kp b o hb q)
    have hIs'':IsTup h'' T #[.int i t,.str ⟨#[c]⟩ u]:=by
      obtain ⟨o,ho,hcl,n,hd⟩:=hIs
      exact ⟨o,kp'' T o aT ho,hcl,n,hd⟩
    have ltT:∀ b o,s.heap.get? b=some o→b≠T:=fun b o q=>Nat.ne_of_lt (Nat.lt_of_lt_of_le (Heap.lt_size q) hT)
    have nfp:∀ b o,H b=some o→b∉[e,it]:=fun b o q hb=>by rw [(hf b hb).1] at q; cases q
    have J:Inv X pins σ (upd H T (.tup [.int (i:Nat),.str ⟨#[c]⟩])) { s with heap:=h'',toks:=tk }:=by
      refine I.step (h':=h'') (g':=s.gens) (d':=s.drawn) (t':=tk) (ch:=[e,it]) (fun b hb=>⟨(hf b hb).2.2.2.1,(hf b hb).2.1,(hf b hb).2.2.2.2.1,(hf b hb).2.2.2.2.2⟩)
        (fun b o _ _ hb q _=>kall b o hb q) (fun b o _ _ hb q _=>⟨o.slots,kall b o hb q⟩) (fun b o _ q n=>by rw [upd_ne (ltT b o q)]; exact n) (fun b o hb q=>⟨o,kall b o hb q⟩)
        (fun b xs q=>by rw [upd_ne (ne_of_none q nT)]; exact q) (fun b o xs q=>by rw [upd_ne (ne_of_none q nT)]; exact q) (fun b ps q=>⟨#[],by rw [upd_ne (ne_of_none q nT),q]; simp⟩) (fun m hm=>?_) (fun b o q=>?_) I.bare
      · obtain ⟨o,es,ep,ho,r⟩:=hm
        refine ⟨o,es,ep,kall _ o (fun hb=>?_) ho,r⟩
        exact (hf _ hb).2.1 rfl
      · by_cases hb:b=T
        · subst hb
          rw [upd_same] at q
          cases q
          exact ⟨by show 2≤sizeLine; decide,[.int i t,.str ⟨#[c]⟩ u],.cons ⟨t,rfl⟩ (.cons ⟨u,rfl⟩ .nil),hIs''⟩
        · rw [upd_ne hb] at q
          refine (I.hok b o q).stay (fun c' v hc' z=>kall c' v ?_ z) (fun c' z=>by rw [upd_ne (ne_of_none z nT)]; exact z) fun c' xs z=>by rw [upd_ne (ne_of_none z nT)]; exact z
          rcases hc' with rfl | hc'
          · exact nfp _ _ q
          · exact nfp _ _ hc'
    refine ⟨.ref T,upd H T (.tup [.int (i:Nat),.str ⟨#[c]⟩]),J,rfl,⟨T,c,nT,hcx,rfl,rfl⟩,st'',fun b hb=>?_⟩
    have nb:b≠T:=fun z=>aT (by rw [← z]; exact hb)
    rw [upd_ne nb]; exact (hf b hb).1
  done:=by
    intro X hP hw hK hc i pins s σ H E I hf st hg
    subst hP hw hK
    have W:=WalksT.enumerateD (prog:=X.prog) (w:=X.w) (A:=X.A) (D X.A.in1 (I.ok.hd hc)) e hei (by simpa using hei) (by simp)
    have hg':i=x.cps.size:=hg
    rw [hg'] at st
    refine W.done s _ _ st fun h' tk kp=>⟨rfl,?_⟩
    have nfp:∀ b o,H b=some o→b∉[e,it]:=fun b o q hb=>by rw [(hf b hb).1] at q; cases q
    refine I.step (h':=h') (g':=s.gens) (d':=s.drawn) (t':=tk) (ch:=[e,it]) (fun b hb=>⟨(hf b hb).2.2.2.1,(hf b hb).2.1,(hf b hb).2.2.2.2.1,(hf b hb).2.2.2.2.2⟩)
      (fun b o _ _ hb q _=>kp b o hb q) (fun b o _ _ hb q _=>⟨o.slots,kp b o hb q⟩) (fun _ _ _ _ n=>n) (fun b o hb q=>⟨o,kp b o hb q⟩)
      (fun _ _ q=>q) (fun _ _ _ q=>q) (fun b ps q=>⟨#[],by rw [q]; simp⟩) (fun m hm=>?_) (fun b o q=>?_) I.bare
    · obtain ⟨o,es,ep,ho,r⟩:=hm
      exact ⟨o,es,ep,kp _ o (fun hb=>(hf _ hb).2.1 rfl) ho,r⟩
    · refine (I.hok b o q).stay (fun c' v hc' z=>kp c' v ?_ z) (fun _ z=>z) fun _ _ z=>z
      rcases hc' with rfl | hc'
      · exact nfp _ _ q
      · exact nfp _ _ hc'
  self:=fun A i s Q E st h=>by
    obtain ⟨⟨old,he⟩,hs⟩:=st
    exact wpAny_pyIter_enum he h
variable {X:Cx} {B:Bd} {a:Expr} {fs:En→Option (List PyData)} {pos pp:Pos}
def enS (ds:List PyData):Option (List PyData):=match ds with
  | [.str x]=>some (enumD (signD x) 0)
  | _=>none
theorem itp_enum {K:PySem.W.Frag} {F:Hp} {x:Str}:ItP K (Ite x) F (enumD (signD x) 0):=fun F1 H1 i s1 s2=>by
  have hl:(enumD (signD x) 0).length=x.cps.size:=by rw [enumD_len]; unfold signD; rw [List.length_map,Array.length_toList]
  refine ⟨fun d e=>?_,fun e=>by show i=_; rw [e,hl]⟩
  have hi:i < x.cps.size:=by rw [← hl]; exact (List.getElem?_eq_some_iff.mp e).1
  refine ⟨hi,fun v H2 y=>?_⟩
  obtain ⟨T,c,hT,hc,rfl,rfl⟩:=y
  obtain ⟨cd,h1,h2⟩:=enumD_get _ _ _ _ e
  have:cd=.str ⟨#[c]⟩:=by
    unfold signD at h1
    rw [List.getElem?_map] at h1
    have hc':x.cps.toList[i]?=some c:=by simpa using hc
    rw [hc'] at h1
    exact (Option.some.inj h1).symm
  subst this
  rw [Nat.zero_add] at h2
  subst h2
  have g:=Gr.one (o:=.tup [.int (i:Nat),.str ⟨#[c]⟩]) s2 hT
  exact ⟨_,g,rel_tup (SqT.of upd_same) (.cons rel_int (.cons rel_str .nil))⟩
theorem I.enum {elts:List Expr} {k:Nat} {tp:Pos} (hc:X.calm=true) (hm:X.mg "enumerate" = none) (ha:A X B [a] fs) (hg:Gl X "enumerate" := by rfl) (hs:starEach [a] X.env=[(false,eval a X.env)]:=by exact star_of rfl) :
    I X B (.Tuple elts k tp) (.Call (.Name "enumerate" pp) [a] [] pos) (fun η=>(fs η).bind enS):=by
  intro pins s σ H R I ⟨F,η,ds,sr,hd,q⟩
  obtain ⟨es,h1,hd⟩:=bind_some hd
  unfold enS at hd
  split at hd
  · rename_i x
    cases hd
    refine Call_ (ld_blt I hg hm boot_enumerate (PyProof.Rows.callWith_type1 (thn (ha pos pins s σ H (fun vs H1=>∃ F',Gr F H F' H1∧RelL X.K F' [.str x] vs) I ⟨F,η,_,sr,h1,fun vs F' H' g r=>⟨F',g,r⟩⟩) fun us s1 ⟨vs,H1,I1,r1,F1,g1,rl⟩=>?_) hs rfl))
    obtain ⟨y,r,rfl,ry,rr⟩:=rl.cons_of
    obtain rfl:=rr.nil_of
    obtain ⟨u,rfl,ru⟩:=vals1 r1
    rw [ry.str] at ru
    obtain ⟨t,rfl⟩:=ru
    refine call_enumerate_str fun h' he hit hsz hk=>?_
    refine wpAny_pyIter_enum he ?_
    have I2:Inv X pins σ H1 { s1 with heap:=h' }:=I1.kept (t':=s1.toks) hk
    have nw:∀ b,s1.heap.objs.size≤b→FpOk X pins H1 b:=fun b hb=>I1.fpOk hb (I1.hok.fresh hb)
    have fpo:∀ b∈[s1.heap.objs.size+1,s1.heap.objs.size],FpOk X pins H1 b:=fun b hb=>by
      rcases List.mem_cons.mp hb with rfl | hb
      · exact nw _ (Nat.le_succ _)
      · rw [List.mem_singleton.mp hb]; exact nw _ (Nat.le_refl _)
    have cel:∀ (ty:String) (i:Nat) (h:Heap),h.IsStrIter s1.heap.objs.size ty x t i→∃ o,h.get? s1.heap.objs.size=some o∧∀ v,o.data≠.cell v:=fun ty i h st=>by
      obtain ⟨o,ho,hcl,hd⟩:=st
      exact ⟨o,ho,fun v z=>by rw [hd] at z; cases z⟩
    cases ha':x.cps.all (· < 128)
    · have hit':h'.IsStrIter s1.heap.objs.size "str_iterator" x t 0:=by simpa [strIterType,ha'] using hit
      exact ⟨_,_,_,_,H1,rfl,I2,turn_enum (Nat.succ_ne_self _) (fun A hA=>Draws.strWide hA _ x t) (cel _),⟨⟨_,he⟩,hit'⟩,fpo,q _ F1 H1 g1 itp_enum⟩
    · have hit':h'.IsStrIter s1.heap.objs.size "str_ascii_iterator" x t 0:=by simpa [strIterType,ha'] using hit
      exact ⟨_,_,_,_,H1,rfl,I2,turn_enum (Nat.succ_ne_self _) (fun A hA=>Draws.strAscii hA _ x t) (cel _),⟨⟨_,he⟩,hit'⟩,fpo,q _ F1 H1 g1 itp_enum⟩
  · cases hd
end
theorem str_ext {a b:Str} (h:a.cps.toList=b.cps.toList):a=b:=by
  obtain ⟨a⟩:=a
  obtain ⟨b⟩:=b
  have:a=b:=Array.toList_inj.mp h
  rw [this]
section
variable {X:Cx}
variable {B:Bd} {a b e:Expr} {es:List Expr} {f g:En→Option PyData} {fs:En→Option (List PyData)} {pos pp apos cpos:Pos}
def rIdx (K:PySem.W.Frag):V→List V→Hp→VK→Prop:=fun x vs H Q=>∃ l xs y j,x=.ref l∧vs=[y]∧SqL K H l xs∧flatV y=true∧xs.all flatV=true∧xs.findIdx? (fun z=>eqV z y)=some j∧Q (.int (j:Nat)) H
theorem mt_idx:MtM X "list.index" (rIdx X.K):=by
  intro pins s σ H x vs v us Q I rx rv h
  obtain ⟨l,xs,y,j,rfl,rfl,hq,fy,fxs,hj,q⟩:=h
  cases rx
  obtain ⟨u,rfl,ru⟩:=rv.one
  obtain ⟨its,r,⟨⟨c2,d2,t2,sl2⟩,n2,e2,ec2,ed2,es2⟩,z2⟩:=I.list hq
  simp only at ec2 ed2 es2
  subst ec2 ed2 es2
  have hl:=r.length
  obtain ⟨hlt,h1,h2⟩:=List.findIdx?_eq_some_iff_getElem.mp hj
  have at':∀ (m:Nat) (hm:m < xs.length),eqU y (its[m]'(by omega))=eqV xs[m] y:=fun m hm=>by
    obtain ⟨w,hw,rw'⟩:=r.get (i:=m) (x:=xs[m]) (List.getElem?_eq_getElem hm)
    have:its[m]'(by omega)=w:=by
      rw [List.getElem?_eq_getElem (by omega)] at hw
      exact Option.some.inj hw
    rw [this]
    exact eqU_of rw' (List.all_eq_true.mp fxs _ (List.getElem_mem hm))
  have hn:=line63
  refine call_meets F.slot_list_index ⟨_,e2,rfl⟩ F.entry_list_index (F.args_list_index_2 _ _) (SeqAt.list_indexAt l its.toArray n2 none sl2 u (eqU y) j (by simp; omega) (by omega) ?_ ?_) ⟨e2,fun w hw=>mem_eqAt ru fy r fxs w (by simpa using hw),?_⟩
  · have:=at' j hlt
    simpa [this] using h1
  · intro m hm hmj
    have hm':m < xs.length:=by simp at hm; omega
    have:=at' m hm'
    have h3:=h2 m hmj
    simpa [this] using h3
  · exact ⟨.int (j:Nat),H,I.tok _,⟨_,rfl⟩,q⟩
def pIdx (x y:PyData):Option PyData:=match x with
  | .list ds=>if flatD y=true∧ds.all flatD=true then (ds.findIdx? fun z=>PyData.eqv z y).bind fun j=>some (.int (j:Nat)) else none
  | _=>none
theorem find_of {K:PySem.W.Frag} {F:Hp} {d:PyData} {x:V} (hd:flatD d=true) (r:Rel K F d x):∀ {ds:List PyData} {vs:List V},ds.all flatD=true→RelL K F ds vs→vs.findIdx? (fun z=>eqV z x)=ds.findIdx? fun y=>PyData.eqv y d
  | [],vs,_,rs=>by rw [rs.nil_of]; rfl
  | e::ds,vs,h,rs=>by
    obtain ⟨y,xs,rfl,r1,r2⟩:=rs.cons_of
    rw [List.all_cons,Bool.and_eq_true] at h
    rw [List.findIdx?_cons,List.findIdx?_cons,eqV_of h.1 hd r1 r,find_of hd r h.2 r2]
theorem E.index (ha:E X B a f) (he:E X B e g) (hbase:attributeBase a "index" X.env (eval a X.env)=eval a X.env:=by rfl)
    (hfew:((backTo cpos (starEach [e] X.env)).all (fun x=>!x.1)&&(backToKw cpos (keywordEach [] X.env)).all (fun x=>x.1.isSome)
      && decide ([e].length+([]:List Keyword).length+(if ([]:List Keyword).isEmpty then 0 else 1) < 30))=true:=by rfl)
    (hline:(apos.endLine==cpos.line)=true:=by rfl) (hs:starEach [e] X.env=(false,eval e X.env)::starEach [] X.env:=by exact star_of rfl) (hplain:(backTo cpos (starEach [] X.env)).any (·.1)=false:=by rfl) :
    E X B (.Call (.Attribute a "index" apos) [e] [] cpos) (l2 pIdx f g) :=
  PE.imp (pe_bm PySem.F.plainAttrs_list PySem.F.slot_list_index PySem.F.type_list_index mt_idx ha (A.cons he A.nil hs) hbase hfew hline hs hplain) fun σ H Q ⟨F,η,d,sr,hd,q⟩=>by
    obtain ⟨x,hx,hd⟩:=bind_some hd
    obtain ⟨y,hy,hd⟩:=bind_some hd
    cases x <;> simp only [pIdx,reduceCtorEq] at hd
    rename_i ds
    split at hd
    · rename_i hf
      obtain ⟨j,hj,hd⟩:=bind_some hd
      cases hd
      refine ⟨F,η,_,sr,hx,fun v F1 H1 g1 rv=>?_⟩
      obtain ⟨p,xs,rfl,hq,r1⟩:=rv.lst
      refine ⟨.inl ⟨rfl,xs,g1.fh.seq hq⟩,F1,η,[y],sr.grow g1,(by show (g η).bind _=_; rw [hy]; rfl),fun vs F2 H2 g2 rs=>?_⟩
      obtain ⟨w,r,rfl,rw',rr⟩:=rs.cons_of
      obtain rfl:=rr.nil_of
      have r1':=r1.mono g2.ff
      exact ⟨p,xs,w,j,rfl,rfl,g2.fh.seq (g2.ff.seq hq),flat_of hf.1 rw',flats_of hf.2 r1',by rw [find_of hf.1 rw' hf.2 r1']; exact hj,q _ F2 H2 (g1.trans g2) rel_int⟩
    · cases hd
end
def compChk (N:List Str) (sc scope:Scope) (N':List Str) (mp:List (Option Nat)):Bool :=
  decide (scope.kind=.function)&&decide (sc.kind=.function)&&decide (∀ x∈scope.names,x.2≠.cell)&&decide (∀ x∈scope.names,x.2=.local→scope.names.lookup x.1=some .local) &&
  decide (∀ x∈scope.names,x.2=.free→sc.names.lookup x.1=some .cell)&&decide (mp.length=N'.length) &&
  (N'.zip mp).all fun p=>match p.2 with
    | none=>true
    | some j=>decide (N[j]?=some p.1)&&decide (scope.names.lookup p.1=some .free)
theorem lookup_relabel_free {env:Env} (hk:env.scope.kind=.function):∀ {names:List (Str×NameKind)} {x:Str},names.lookup x=some .free→env.kindOf x=some .cell →
    (names.map fun (n,k)=>if (k==NameKind.free&&env.scope.kind==.function&&env.kindOf n==some .cell) then (n,NameKind.cell) else (n,k)).lookup x=some .cell
  | [],_,h,_=>by simp at h
  | (n,k)::r,x,h,hc=>by
    have ih:=@lookup_relabel_free env hk r x
    show List.lookup x ((if (k==NameKind.free&&env.scope.kind==.function&&env.kindOf n==some .cell)=true then (n,NameKind.cell) else (n,k))::_)=_
    cases hx:x==n with
    | true =>
      have en:x=n:=by simpa using hx
      subst en
      simp only [List.lookup_cons,hx] at h
      cases h
      rw [if_pos (by rw [hk,hc]; rfl)]
      simp [List.lookup_cons]
    | false =>
      simp only [List.lookup_cons,hx] at h
      split <;> simp only [List.lookup_cons,hx] <;> exact ih h hc
theorem CompSc.of {X:Cx} {scope:Scope} {N':List Str} {mp:List (Option Nat)} (h:compChk X.N X.env.scope scope N' mp=true):CompSc X scope N' mp:=by
  unfold compChk at h
  simp only [Bool.and_eq_true,decide_eq_true_eq] at h
  obtain ⟨⟨⟨⟨⟨⟨h1,h0⟩,h2⟩,h3⟩,h4⟩,h5⟩,h6⟩:=h
  refine ⟨h1,h2,h3,fun x hx hf=>.inl (h4 x hx hf),h5,fun i x j e1 e2=>?_⟩
  have hm:(x,some j)∈N'.zip mp:=by
    have:(N'.zip mp)[i]?=some (x,some j):=by rw [List.getElem?_zip_eq_some]; exact ⟨e1,e2⟩
    exact List.mem_of_getElem? this
  have h7:=List.all_eq_true.mp h6 _ hm
  simp only [Bool.and_eq_true,decide_eq_true_eq] at h7
  have hmem:(x,NameKind.free)∈scope.names:=PySem.mem_of_lookup h7.2
  exact ⟨h7.1,hmem,.inl (lookup_relabel_free h0 h7.2 (h4 _ hmem rfl))⟩
theorem E.globI {X:Cx} {B:Bd} {x:Str} {i:Int} {t:Tok} {pos:Pos} (hm:X.mg x=some (.int i t)) (hg:Gl X x:=by rfl) (hd:(x==("__debug__" : Str))=false:=by decide):E X B (.Name x pos) (eC (.int i)):=E.glob hm (v:=.int i) ⟨t,rfl⟩ (fun _=>rel_int) hg hd
theorem tg_len1 {t:En→PyData→Option En}:∀ η ds η',tgCons t tgNil η ds=some η'→ds.length=1:=fun η ds η' h=>by
  match ds,h with
  | [_],_=>rfl
  | _::_::_,h=>obtain ⟨_,_,h⟩:=bind_some h; cases h
theorem tg_len2 {t u:En→PyData→Option En}:∀ η ds η',tgCons t (tgCons u tgNil) η ds=some η'→ds.length=2:=fun η ds η' h=>by
  match ds,h with
  | d::r,h =>
    obtain ⟨η1,_,h⟩:=bind_some h
    rw [List.length_cons,tg_len1 _ _ _ h]
theorem tg_len3 {t u v:En→PyData→Option En}:∀ η ds η',tgCons t (tgCons u (tgCons v tgNil)) η ds=some η'→ds.length=3:=fun η ds η' h=>by
  match ds,h with
  | d::r,h =>
    obtain ⟨η1,_,h⟩:=bind_some h
    rw [List.length_cons,tg_len2 _ _ _ h]
theorem tg_len4 {t u v w:En→PyData→Option En}:∀ η ds η',tgCons t (tgCons u (tgCons v (tgCons w tgNil))) η ds=some η'→ds.length=4:=fun η ds η' h=>by
  match ds,h with
  | d::r,h =>
    obtain ⟨η1,_,h⟩:=bind_some h
    rw [List.length_cons,tg_len3 _ _ _ h]
theorem CompSc.of' {X:Cx} {scope:Scope} {N':List Str} {mp:List (Option Nat)} (N:List Str) (sc:Scope) (hN:X.N=N) (hs:X.env.scope=sc) (h:compChk N sc scope N' mp=true):CompSc X scope N' mp:=CompSc.of (by rw [hN,hs]; exact h)
section
variable {X:Cx}
variable {B:Bd} {a b e:Expr} {es:List Expr} {f g:En→Option PyData} {fs:En→Option (List PyData)} {pos pp tp apos cpos pos':Pos} {sts:List Stmt} {u:En→Option Out} {p:En→Option Bool}
def asBs:List PyData→Option (List Bool)
  | []=>some []
  | .bool i::r=>(asBs r).bind fun ns=>some (i::ns)
  | _::_=>none
theorem asBs_some:∀ {ds:List PyData} {ns:List Bool},asBs ds=some ns→ds=ns.map PyData.bool
  | [],ns,h=>by cases h; rfl
  | .bool i::r,ns,h=>by
    obtain ⟨ms,h1,h2⟩:=bind_some h
    cases h2
    rw [asBs_some h1]; rfl
  | .none::_,_,h=>by cases h
  | .str _::_,_,h=>by cases h
  | .int _::_,_,h=>by cases h
  | .list _::_,_,h=>by cases h
  | .tuple _::_,_,h=>by cases h
  | .dict _::_,_,h=>by cases h
theorem asBs_bools (ns:List Bool):asBs (ns.map PyData.bool)=some ns:=by
  induction ns with
  | nil=>rfl
  | cons n r ih=>rw [List.map_cons]; unfold asBs; rw [ih]; rfl
theorem RelL.bools_of {K:PySem.W.Frag} {F:Hp}:∀ {ns:List Bool} {xs:List V},RelL K F (ns.map PyData.bool) xs→xs=ns.map V.bl
  | [],xs,h=>h.nil_of
  | n::r,xs,h=>by
    obtain ⟨x,ys,rfl,h1,h2⟩:=h.cons_of
    rw [h1.bl,RelL.bools_of h2]; rfl
theorem range_any (bs:List Bool):(List.range bs.length).any (fun i=>bs.getD i false)=bs.any id:=by
  rw [Bool.eq_iff_iff,List.any_eq_true,List.any_eq_true]
  constructor
  · rintro ⟨i,hi,h⟩
    have hi:=List.mem_range.mp hi
    rw [List.getD_eq_getElem?_getD,List.getElem?_eq_getElem hi] at h
    exact ⟨_,List.getElem_mem hi,h⟩
  · rintro ⟨x,hx,h⟩
    obtain ⟨i,hi,rfl⟩:=List.mem_iff_getElem.mp hx
    exact ⟨i,List.mem_range.mpr hi,by rw [List.getD_eq_getElem?_getD,List.getElem?_eq_getElem hi]; exact h⟩
def rBools (K:PySem.W.Frag) (r:List Bool→Bool):List V→Hp→VK→Prop:=fun xs H Q=>∃ (p:Addr) (bs:List Bool),xs=[.ref p]∧SqL K H p (bs.map V.bl)∧Q (.bl (r bs)) H
theorem bools_walk (hc:X.calm=true) {pins:List (Addr×Obj)} {s:Shared} {σ:St} {H:Hp} {p:Addr} {bs:List Bool} {Q:Bool→Value→Shared→Prop} {r:(Nat→Bool)→Nat→Bool} (I:Inv X pins σ H s) (hq:SqL X.K H p (bs.map V.bl))
    (hQ:∀ h' tk,(∀ b o,s.heap.get? b=some o→h'.get? b=some o)→Q true (.bool (r (fun i=>bs.getD i false) bs.length)) { s with heap:=h',toks:=tk }) :
    wpAny (model X.prog X.w) X.A.in1 (pyIter (.ref p)) (fun it s₂=>∃ I fp wr n P St tr,it=.ref I∧Walks X.prog X.w X.A.in1 I fp wr n P St∧St 0 s₂.heap∧TruthOf X.prog X.w X.A.in1 P tr ∧
      ∀ h' tk,(∀ b o,b∉wr→s₂.heap.get? b=some o→h'.get? b=some o)→Q true (.bool (r tr n)) { s₂ with heap:=h',toks:=tk }) X.xe s:=by
  obtain ⟨its,rv,pl,hz⟩:=I.list hq
  have hl:=rv.length
  rw [List.length_map] at hl
  have hlt:p < s.heap.objs.size:=by
    obtain ⟨o,ho,_⟩:=pl.isList
    exact Heap.lt_size ho
  refine wpAny_pyIter_list pl.isList ?_
  refine ⟨s.heap.objs.size,_,_,_,_,_,fun i=>bs.getD i false,rfl,Walks.list (A:=X.A.in1) (I.ok.hd hc) s.heap.objs.size p (Nat.ne_of_lt hlt) its.toArray,⟨⟨_,Heap.get?_push_size _ rfl,rfl,rfl⟩,pl.isList.at fun o e=>Heap.get?_push_of_some _ e⟩,?_,fun h' tk hk=>?_⟩
  · intro i v s' Q' E' hv hq'
    have hv':its[i]?=some v:=by simpa using hv
    obtain ⟨hi,_⟩:=List.getElem?_eq_some_iff.mp hv'
    have hn:bs[i]?=some bs[i]:=List.getElem?_eq_getElem (by omega)
    obtain ⟨w,hw,rw'⟩:=rv.get (i:=i) (x:=.bl bs[i]) (by rw [List.getElem?_map,hn]; rfl)
    rw [hv'] at hw
    cases hw
    cases rw'
    have e:bs.getD i false=bs[i]:=by rw [List.getD_eq_getElem?_getD,hn]; rfl
    rw [show (fun i=>bs.getD i false) i=bs[i] from e] at hq'
    exact wpAny_truthy_bool hq'
  · have e:its.toArray.size=bs.length:=by rw [List.size_toArray]; exact hl.symm
    rw [e]
    refine hQ h' tk fun b o eb=>hk b o ?_ (Heap.get?_push_of_some _ eb)
    intro hb
    exact absurd (Heap.lt_size eb) (by rw [List.mem_singleton.mp hb]; exact Nat.lt_irrefl _)
theorem call_any (hc:X.calm=true):CallR X (.builtin "any") (rBools X.K fun bs=>bs.any id):=by
  intro pins s σ H xs us Q I r h
  obtain ⟨p,bs,rfl,hq,q⟩:=h
  obtain ⟨u,rfl,rx⟩:=vals1 r
  cases rx
  refine call_any_walk (bools_walk hc (Q:=fun _ v s'=>EP X pins σ Q v s') (r:=fun tr n=>(List.range n).any tr) I hq fun h' tk k=>?_)
  rw [range_any]
  exact ⟨.bl _,H,I.kept k,rfl,q⟩
def pBools (r:List Bool→Bool) (ds:List PyData):Option PyData:=match ds with
  | [.list xs]=>(asBs xs).bind fun bs=>some (.bool (r bs))
  | _=>none
theorem ad_bools {K:PySem.W.Frag} {r:List Bool→Bool}:AdA K (rBools K r) (pBools r):=fun F H xs ds d Q sm rs e q=>by
  unfold pBools at e
  split at e
  · obtain ⟨bs,h1,h2⟩:=bind_some e
    cases h2
    have:=asBs_some h1
    subst this
    obtain ⟨x,r,rfl,rx,rr⟩:=rs.cons_of
    obtain rfl:=rr.nil_of
    obtain ⟨a,ys,rfl,hq,r1⟩:=rx.lst
    have:=r1.bools_of
    subst this
    exact ⟨a,bs,rfl,sm.seq hq,q _ F H (.refl sm) rel_bl⟩
  · cases e
def pAny:=pBools fun bs=>bs.any id
theorem E.any (hc:X.calm=true) (hm:X.mg "any" = none) (ha:A X B [e] fs) (hg:Gl X "any" := by rfl) (he:starEach [e] X.env=(false,eval e X.env)::starEach [] X.env:=by exact star_of rfl) (hpl:(backTo pos (starEach [] X.env)).any (·.1)=false:=by rfl):E X B (.Call (.Name "any" pp) [e] [] pos) (lA pAny fs) :=
  E.callB (call_any hc) ad_bools hm (by decide +kernel) ha hg (by decide) (by decide) he hpl
def pMax (ds:List PyData):Option PyData:=match ds with
  | [.int i,.int j]=>some (.int (if j > i then j else i))
  | _=>none
def pMin (ds:List PyData):Option PyData:=match ds with
  | [.int i,.int j]=>some (.int (if j < i then j else i))
  | _=>none
theorem ad_two {K:PySem.W.Frag} {g:Int→Int→Int}:AdA K (fun xs H Q=>∃ i j,xs=[.int i,.int j]∧Q (.int (g i j)) H) (fun ds=>match ds with | [.int i,.int j]=>some (.int (g i j)) | _=>none):=fun F H xs ds d Q sm rs e q=>by
  dsimp only at e
  split at e
  · cases e
    obtain ⟨x,r,rfl,rx,rr⟩:=rs.cons_of
    obtain ⟨y,r2,rfl,ry,rr2⟩:=rr.cons_of
    obtain rfl:=rr2.nil_of
    exact ⟨_,_,by rw [rx.int,ry.int],q _ F H (.refl sm) rel_int⟩
  · cases e
theorem E.max (hc:X.calm=true) (hm:X.mg "max" = none) (ha:A X B [a,b] fs) (hg:Gl X "max" := by rfl) (he:starEach [a,b] X.env=(false,eval a X.env)::starEach [b] X.env:=by rfl) (hpl:(backTo pos (starEach [b] X.env)).any (·.1)=false:=by rfl):E X B (.Call (.Name "max" pp) [a,b] [] pos) (lA pMax fs) :=
  E.callB (call_max2 hc) ad_two hm (by decide +kernel) ha hg (by decide) (by decide) he hpl
theorem E.min (hc:X.calm=true) (hm:X.mg "min" = none) (ha:A X B [a,b] fs) (hg:Gl X "min" := by rfl) (he:starEach [a,b] X.env=(false,eval a X.env)::starEach [b] X.env:=by rfl) (hpl:(backTo pos (starEach [b] X.env)).any (·.1)=false:=by rfl):E X B (.Call (.Name "min" pp) [a,b] [] pos) (lA pMin fs) :=
  E.callB (call_min2 hc) ad_two hm (by decide +kernel) ha hg (by decide) (by decide) he hpl
def sWh (c:En→Option Bool) (body:En→Option Out):Nat→En→Option Out
  | 0,_=>none
  | n+1,η=>(c η).bind fun b=>if b=true then (body η).bind fun o=>match o with
    | .nx η'=>sWh c body n η'
    | .ct η'=>sWh c body n η'
    | .bk η'=>some (.nx η')
    | .rt d=>some (.rt d) else some (.nx η)
theorem S.while (n:Nat) {c:Expr} (hp:PassesOwn (model X.prog X.w) X.A X.env X.xe) (hc:T X B c p) (hb:Ss X B sts u):S X B (.While c sts [] pos) (sWh p u n):=PS.imp (ps_while hp hc hb) fun D σ H ⟨F,η,o,sr,hd,q⟩=>by
  refine ⟨fun m σ H=>∃ Fc ηc,SR X.K B Fc H σ ηc∧Same F Fc∧sWh p u m ηc=some o,⟨n,F,η,sr,.refl _,hd⟩,?_⟩
  rintro m σc Hc ⟨Fc,ηc,src,sc,hgo⟩
  cases m with
  | zero=>cases hgo
  | succ m =>
    unfold sWh at hgo
    obtain ⟨b,hb',hgo⟩:=bind_some hgo
    refine ⟨Fc,ηc,b,src,hb',fun F1 H1 g1=>?_⟩
    cases b with
    | false =>
      rw [if_neg Bool.false_ne_true] at hgo
      cases hgo
      refine iteF ?_
      exact q σc F1 H1 (src.grow g1) (sc.trans g1.ff)
    | true =>
      rw [if_pos rfl] at hgo
      refine iteT ?_
      obtain ⟨o1,e2,hgo⟩:=bind_some hgo
      refine ⟨fun σ' H'=>∃ m',m' < m+1∧∃ Fc ηc,SR X.K B Fc H' σ' ηc∧Same F Fc∧sWh p u m' ηc=some o,fun σ' H' z=>z,F1,ηc,o1,src.grow g1,e2,?_⟩
      have s1:Same F F1:=sc.trans g1.ff
      cases o1 with
      | nx η2=>exact fun σ' F' H' r s=>⟨m,Nat.lt_succ_self _,F',η2,r,s1.trans s,hgo⟩
      | ct η2=>exact fun σ' F' H' r s=>⟨m,Nat.lt_succ_self _,F',η2,r,s1.trans s,hgo⟩
      | bk η2 =>
        cases hgo
        exact fun σ' F' H' r s=>q σ' F' H' r (s1.trans s)
      | rt d =>
        cases hgo
        exact q
end
section
variable {X:Cx} {B:Bd} {e:Expr} {f:En→Option PyData} {tg:Expr}
end
section
variable {X:Cx} {B:Bd} {a b e:Expr} {f g:En→Option PyData} {apos cpos:Pos}
end
section
variable {X:Cx} {B:Bd} {a b e:Expr} {f g:En→Option PyData} {pos:Pos}
def sUnp (f:En→Option PyData) (t:En→PyData→Option En):En→Option Out:=fun η=>(f η).bind fun d=>(t η d).bind fun η'=>some (.nx η')
theorem S.unp {tg:Expr} {gt:TG} {ks:List Nat} {t:En→PyData→Option En} (he:E X B e f) (hg:PG X tg gt) (ht:TgP X.K ks gt t) (hs:swapsWithSole [tg] e pos.line X.env=pure false:=by rfl) (hw:swappedStores [tg] e X.env=pure none:=by rfl)
    (h1:(assignEach [tg] X.env).map (·.2)=[assign tg X.env]:=by rfl):S X B (.Assign [tg] e pos) (sUnp f t) :=
  PS.imp (ps_asg he hg hs hw h1) fun D σ H ⟨F,η,o,sr,hd,q⟩=>by
    obtain ⟨d,hx,hd⟩:=bind_some hd
    obtain ⟨η',hy,hd⟩:=bind_some hd
    cases hd
    refine ⟨F,η,d,sr,hx,fun v F1 H1 g1 rv=>?_⟩
    exact ht B F1 H1 σ η d v η' (sr.grow g1) rv hy D.nx fun σ' F2 H2 r g2 _ _=>q σ' F2 H2 r (g1.ff.trans g2.ff)
def isNn:PyData→Bool
  | .none=>true
  | _=>false
def pIsN (neg:Bool) (x y:PyData):Option PyData:=match y with
  | .none=>some (.bool (if neg then !isNn x else isNn x))
  | _=>none
theorem non_iff {K:PySem.W.Frag} {F:Hp} {d:PyData} {x:V} (r:Rel K F d x):decide (x=.non)=isNn d:=by
  cases d with
  | none=>rw [r.non]; rfl
  | bool b=>rw [r.bl]; rfl
  | int i=>rw [r.int]; rfl
  | str s=>rw [r.str]; rfl
  | list ds=>obtain ⟨a,xs,rfl,_⟩:=r.lst; rfl
  | tuple ds=>obtain ⟨a,xs,rfl,_⟩:=r.tup; rfl
  | dict es=>obtain ⟨a,xs,rfl,_⟩:=r.dct; rfl
theorem ad_notN {K:PySem.W.Frag}:Ad2 K (fun x y H Q=>y=.non∧Q (.bl (!decide (x=.non))) H) (pIsN true):=fun F H x y dx dy d Q sm rx ry e q=>by
  unfold pIsN at e
  split at e
  · cases e
    refine ⟨ry.non,?_⟩
    rw [non_iff rx]
    exact q _ F H (.refl sm) rel_bl
  · cases e
theorem T.notN (ha:E X B a f) (hb:E X B b g) (hm:behindInMarks .IsNot b=false:=by rfl):T X B (.Compare a [.IsNot] [b] pos) (bT (l2 (pIsN true) f g)):=T.cmp op_notN ad_notN hm ha hb
end
section
variable {X:Cx} {B:Bd} {a:Expr} {fs:En→Option (List PyData)} {pos pp:Pos}
end
section
variable {X:Cx} {B:Bd} {a b e:Expr} {f g:En→Option PyData} {fs:En→Option (List PyData)} {pos:Pos}
end
section
variable {X:Cx} {B:Bd} {e st:Expr} {f g:En→Option PyData} {pos p2:Pos}
end
section
variable {X:Cx} {B:Bd} {pos pp:Pos}
end
section
variable {X:Cx} {B:Bd} {o e e2 a b:Expr} {f g h:En→Option PyData} {pos pos' apos cpos npos:Pos}
end
section
variable {X:Cx}
variable {B:Bd} {a:Expr} {f:En→Option PyData} {pos:Pos}
end
section
variable {K:PySem.W.Frag} {F F':Hp}
theorem flat_rel {d:PyData} {v:V} (h:flatD d=true) (r:Rel K F' d v):Rel K F d v:=by
  cases d with
  | none=>rw [r.non]; exact rel_non
  | bool b=>rw [r.bl]; exact rel_bl
  | int i=>rw [r.int]; exact rel_int
  | str x=>rw [r.str]; exact rel_str
  | list ds=>cases h
  | tuple ds=>cases h
  | dict es=>cases h
end
theorem Gr.back {F H F1 F' H':Hp} (sm:Same F H) (g:Gr F1 H F' H'):Gr F H F H':=⟨.refl _,g.hh,sm.trans g.hh,fun _ z=>.inl z⟩
section
variable {X:Cx} {B:Bd} {e:Expr} {f:En→Option PyData} {fs:En→Option (List PyData)} {p:En→Option Bool}
end
section
variable {X:Cx} {B:Bd} {e o:Expr} {f g:En→Option PyData} {fs:En→Option (List PyData)} {pos pp rp rpos:Pos}
end
end L2.PU
namespace L2.PU
open PySem PySem.Spec PyProof.Rows
section
variable {X:Cx} {B:Bd} {pos npos:Pos} {tg:Expr}
end
end L2.PU
namespace L2.PU
open PySem PySem.Spec PyProof.Rows
section
variable {X:Cx} {B:Bd} {e o:Expr} {f g:En→Option PyData} {fs:En→Option (List PyData)} {pos pos' pp rp rpos:Pos}
end
section
variable {X:Cx} {B:Bd}
end
end L2.PU
namespace L2.PU
open PySem PySem.Spec PyProof.Rows
section
variable {X:Cx} {B:Bd} {a:Expr} {fs:En→Option (List PyData)} {pos pp:Pos}
end
end L2.PU
namespace L2.PU
open PySem PySem.Spec PyProof.Rows
section
variable {X:Cx} {B:Bd} {e:Expr} {f g:En→Option PyData} {fs:En→Option (List PyData)} {pos pp:Pos}
end
end L2.PU
namespace L2.PU
open PySem PySem.Spec PyProof.Rows
mutual
def cst:Expr→Option PyData
  | .Constant (.int i) _ _=>some (.int i)
  | .Constant (.str x) _ _=>some (.str x)
  | .Constant (.bool b) _ _=>some (.bool b)
  | .Constant .none _ _=>some .none
  | .UnaryOp .USub a _=>(cst a).bind pNeg
  | .Tuple es _ _=>(csts es).bind fun ds=>if ds.length≤1000 then some (.tuple ds) else none
  | .List es _=>(csts es).bind fun ds=>if ds.length≤1000 then some (.list ds) else none
  | _=>none
def csts:List Expr→Option (List PyData)
  | []=>some []
  | e::r=>(cst e).bind fun d=>(csts r).bind fun ds=>some (d::ds)
end
theorem cst_nst {e:Expr} {d:PyData} (h:cst e=some d):nst e=true:=by
  cases e <;> first | rfl | (unfold cst at h; cases h)
section
variable {X:Cx} {B:Bd}
theorem big1000 {n:Nat} (h:n≤1000):n≤sizeLine:=Nat.le_trans h (by show 1000≤2 ^ 24; decide)
theorem E.same {e:Expr} {f g:En→Option PyData} (h:E X B e f) (k:∀ η,g η=f η):E X B e g:=by
  have:g=f:=funext k
  rw [this]; exact h
theorem A.same {e:List Expr} {f g:En→Option (List PyData)} (h:A X B e f) (k:∀ η,g η=f η):A X B e g:=by
  have:g=f:=funext k
  rw [this]; exact h
mutual
theorem cst_ok:∀ {e:Expr} {d:PyData},cst e=some d→E X B e (eC d)
  | .Constant (.int i) _ _,d,h=>by unfold cst at h; cases h; exact E.int
  | .Constant (.str x) _ _,d,h=>by unfold cst at h; cases h; exact E.str
  | .Constant (.bool b) _ _,d,h=>by unfold cst at h; cases h; exact E.bl
  | .Constant .none _ _,d,h=>by unfold cst at h; cases h; exact E.non
  | .UnaryOp .USub a _,d,h=>by
    unfold cst at h
    obtain ⟨x,h1,h2⟩:=bind_some h
    exact E.same (E.neg (cst_ok h1)) fun η=>h2.symm
  | .Tuple es _ _,d,h=>by
    unfold cst at h
    obtain ⟨ds,h1,h2⟩:=bind_some h
    split at h2
    · rename_i hl
      cases h2
      exact E.same (E.tup (csts_ok h1)) fun η=>(if_pos (big1000 hl)).symm
    · cases h2
  | .List es _,d,h=>by
    unfold cst at h
    obtain ⟨ds,h1,h2⟩:=bind_some h
    split at h2
    · rename_i hl
      cases h2
      refine E.same (EO.toE (EO.lst (csts_ok h1))) fun η=>?_
      show some (PyData.list ds)=((gL ds).bind fun ds=>some (PyData.list ds))
      unfold gL
      rw [if_pos (big1000 hl)]; rfl
    · cases h2
theorem csts_ok:∀ {es:List Expr} {ds:List PyData},csts es=some ds→A X B es (fun _=>some ds)
  | [],ds,h=>by unfold csts at h; cases h; exact A.nil
  | e::r,ds,h=>by
    unfold csts at h
    obtain ⟨d,h1,h⟩:=bind_some h
    obtain ⟨ds',h2,h⟩:=bind_some h
    cases h
    exact A.same (A.cons (cst_ok h1) (csts_ok h2) (star_of (cst_nst h1))) fun η=>rfl
end
theorem E.cst {e:Expr} {d:PyData} (h:PU.cst e=some d):E X B e (eC d):=cst_ok h
end
end L2.PU
namespace L2.PU
open PySem PySem.Spec PyProof.Rows
section
variable {X:Cx} {B:Bd} {a b:Expr} {fs:En→Option (List PyData)} {pos pp:Pos}
end
section
variable {X:Cx} {B:Bd} {e:Expr} {fs:En→Option (List PyData)} {pos pp:Pos}
end
end L2.PU
namespace L2.PU
open PySem PySem.Spec PyProof.Rows
inductive D where
  | d (x:PyData)
  | r (n:Nat)
inductive Cell where
  | obj (k:Nat) (fs:List (Str×D))
  | lst (ds:List D)
  | dct (kvs:List (Key×D))
  | fz (x:PyData)
abbrev Sto:=List Cell
abbrev MEn:=List (Option D)
def DR (K:PySem.W.Frag) (θ:List Addr) (F:Hp):D→V→Prop
  | .d x,v=>Rel K F x v
  | .r n,v=>∃ a,θ[n]?=some a∧v=.ref a
abbrev DRs (K:PySem.W.Frag) (θ:List Addr) (F:Hp):List D→List V→Prop:=Paired (DR K θ F)
abbrev DRf (K:PySem.W.Frag) (θ:List Addr) (F:Hp):List (Str×D)→List (Str×V)→Prop:=Paired fun p q=>p.1=q.1∧DR K θ F p.2 q.2
abbrev DRk (K:PySem.W.Frag) (θ:List Addr) (F:Hp):List (Key×D)→List (Key×V)→Prop:=Paired fun p q=>p.1=q.1∧DR K θ F p.2 q.2
def CelR (K:PySem.W.Frag) (cl:Nat→Addr) (θ:List Addr) (F H:Hp) (a:Addr):Cell→Prop
  | .obj k fs=>F a=none∧Cls K (cl k)∧(∀ f∈fs.map (·.1),NoAttr K (cl k) f)∧∃ dx xs,H a=some (.ins (cl k) dx xs)∧DRf K θ F fs xs
  | .lst ds=>F a=none∧∃ xs,H a=some (.lst xs)∧DRs K θ F ds xs
  | .dct kvs=>F a=none∧∃ ks,H a=some (.dK ks)∧DRk K θ F kvs ks
  | .fz x=>Rel K F x (.ref a)∧∃ o,H a=some o
structure MR (K:PySem.W.Frag) (cl:Nat→Addr) (θ:List Addr) (F H:Hp) (s:Sto):Prop where
  sm:Same F H
  len:θ.length=s.length
  nd:θ.Nodup
  cel:∀ (n:Nat) a c,θ[n]?=some a→s[n]?=some c→CelR K cl θ F H a c
structure MV (K:PySem.W.Frag) (θ:List Addr) (F:Hp) (σ:St) (η:MEn):Prop where
  len:η.length=σ.length
  val:∀ (i:Nat) d,η[i]?=some (some d)→∃ v,σ[i]?=some (some v)∧DR K θ F d v
section
variable {K:PySem.W.Frag} {cl:Nat→Addr} {θ θ':List Addr} {F F' H H':Hp} {s:Sto} {σ:St} {η:MEn}
theorem pre_get {α:Type} {l l':List α} (h:l <+: l') {n:Nat} {a:α} (e:l[n]?=some a):l'[n]?=some a:=by
  obtain ⟨t,rfl⟩:=h
  rw [List.getElem?_append_left (List.getElem?_eq_some_iff.mp e).1]; exact e
theorem DR.mono (hp:θ <+: θ') (hs:Same F F'):∀ {d:D} {v:V},DR K θ F d v→DR K θ' F' d v
  | .d _,_,h=>Rel.mono hs h
  | .r _,_,⟨a,e1,e2⟩=>⟨a,pre_get hp e1,e2⟩
theorem DRs.mono (hp:θ <+: θ') (hs:Same F F') {ds:List D} {vs:List V} (h:DRs K θ F ds vs):DRs K θ' F' ds vs:=Paired.mapP h fun _ _ r=>DR.mono hp hs r
theorem DRf.mono (hp:θ <+: θ') (hs:Same F F') {ds:List (Str×D)} {vs:List (Str×V)} (h:DRf K θ F ds vs):DRf K θ' F' ds vs:=Paired.mapP h fun _ _ r=>⟨r.1,DR.mono hp hs r.2⟩
theorem DRk.mono (hp:θ <+: θ') (hs:Same F F') {ds:List (Key×D)} {vs:List (Key×V)} (h:DRk K θ F ds vs):DRk K θ' F' ds vs:=Paired.mapP h fun _ _ r=>⟨r.1,DR.mono hp hs r.2⟩
theorem MV.mono (hp:θ <+: θ') (hs:Same F F') (h:MV K θ F σ η):MV K θ' F' σ η:=⟨h.len,fun i d e=>let ⟨v,e1,e2⟩:=h.val i d e; ⟨v,e1,e2.mono hp hs⟩⟩
theorem MV.set (h:MV K θ F σ η) (i:Nat) {d:D} {v:V} (r:DR K θ F d v):MV K θ F (σ.set i (some v)) (η.set i (some d)):=by
  refine ⟨by rw [List.length_set,List.length_set]; exact h.len,fun j d' e=>?_⟩
  by_cases hj:i=j
  · subst hj
    by_cases hl:i < η.length
    · rw [List.getElem?_set_self hl] at e
      have e':d=d':=Option.some.inj (Option.some.inj e)
      subst e'
      exact ⟨v,by rw [List.getElem?_set_self (by rw [← h.len]; exact hl)],r⟩
    · rw [List.getElem?_eq_none (by rw [List.length_set]; omega)] at e; cases e
  · rw [List.getElem?_set_ne hj] at e ⊢; exact h.val j d' e
theorem DRs.get {ds:List D} {vs:List V} (h:DRs K θ F ds vs) {i:Nat} {d:D} (e:ds[i]?=some d):∃ v,vs[i]?=some v∧DR K θ F d v:=by
  induction h generalizing i with
  | nil=>simp at e
  | @cons a b as bs r t ih =>
    cases i with
    | zero=>simp at e; subst e; exact ⟨b,rfl,r⟩
    | succ i=>exact ih (by simpa using e)
theorem MR.grow (m:MR K cl θ F H s) (g:Gr F H F' H'):MR K cl θ F' H' s where
  sm:=g.fh
  len:=m.len
  nd:=m.nd
  cel:=fun n a c e1 e2=>by
    have q:=m.cel n a c e1 e2
    have fr:F a=none→∀ o,H a=some o→F' a=none:=fun hF o hH=>by
      cases z:F' a with
      | none=>rfl
      | some u =>
        rcases g.new a (by rw [z]; simp) with y | y
        · exact absurd hF y
        · rw [hH] at y; cases y
    cases c with
    | obj k fs =>
      obtain ⟨h1,h2,h3,dx,xs,h4,h5⟩:=q
      exact ⟨fr h1 _ h4,h2,h3,dx,xs,g.hh _ _ h4,h5.mono (List.prefix_refl _) g.ff⟩
    | lst ds =>
      obtain ⟨h1,xs,h4,h5⟩:=q
      exact ⟨fr h1 _ h4,xs,g.hh _ _ h4,h5.mono (List.prefix_refl _) g.ff⟩
    | dct kvs =>
      obtain ⟨h1,xs,h4,h5⟩:=q
      exact ⟨fr h1 _ h4,xs,g.hh _ _ h4,h5.mono (List.prefix_refl _) g.ff⟩
    | fz x=>exact ⟨Rel.mono g.ff q.1,let ⟨o,e⟩:=q.2; ⟨o,g.hh _ _ e⟩⟩
def Mu:Cell→Bool
  | .fz _=>false
  | _=>true
theorem CelR.mut {a:Addr} {c:Cell} (h:CelR K cl θ F H a c) (hm:Mu c=true):F a=none∧∃ o,H a=some o:=by
  cases c with
  | obj k fs=>obtain ⟨h1,_,_,dx,xs,h4,_⟩:=h; exact ⟨h1,_,h4⟩
  | lst ds=>obtain ⟨h1,xs,h4,_⟩:=h; exact ⟨h1,_,h4⟩
  | dct kvs=>obtain ⟨h1,xs,h4,_⟩:=h; exact ⟨h1,_,h4⟩
  | fz x=>cases hm
theorem CelR.else {a b:Addr} {o:HO} {c:Cell} (h:CelR K cl θ F H a c) (hne:a≠b):CelR K cl θ F (upd H b o) a c:=by
  cases c with
  | obj k fs=>obtain ⟨h1,h2,h3,dx,xs,h4,h5⟩:=h; exact ⟨h1,h2,h3,dx,xs,by rw [upd_ne hne]; exact h4,h5⟩
  | lst ds=>obtain ⟨h1,xs,h4,h5⟩:=h; exact ⟨h1,xs,by rw [upd_ne hne]; exact h4,h5⟩
  | dct kvs=>obtain ⟨h1,xs,h4,h5⟩:=h; exact ⟨h1,xs,by rw [upd_ne hne]; exact h4,h5⟩
  | fz x=>exact ⟨h.1,let ⟨o,e⟩:=h.2; ⟨o,by rw [upd_ne hne]; exact e⟩⟩
theorem CelR.pre {a:Addr} {c:Cell} (hp:θ <+: θ') (h:CelR K cl θ F H a c):CelR K cl θ' F H a c:=by
  cases c with
  | obj k fs=>obtain ⟨h1,h2,h3,dx,xs,h4,h5⟩:=h; exact ⟨h1,h2,h3,dx,xs,h4,h5.mono hp (.refl _)⟩
  | lst ds=>obtain ⟨h1,xs,h4,h5⟩:=h; exact ⟨h1,xs,h4,h5.mono hp (.refl _)⟩
  | dct kvs=>obtain ⟨h1,xs,h4,h5⟩:=h; exact ⟨h1,xs,h4,h5.mono hp (.refl _)⟩
  | fz x=>exact h
theorem nd_ne {l:List Addr} (h:l.Nodup) {i j:Nat} {a b:Addr} (e1:l[i]?=some a) (e2:l[j]?=some b) (hne:i≠j):a≠b:=fun z=>by
  subst z
  obtain ⟨l1,q1⟩:=List.getElem?_eq_some_iff.mp e1
  obtain ⟨l2,q2⟩:=List.getElem?_eq_some_iff.mp e2
  have pw:=List.pairwise_iff_getElem.mp h
  rcases Nat.lt_or_gt_of_ne hne with z | z
  · exact pw i j l1 l2 z (q1.trans q2.symm)
  · exact pw j i l2 l1 z (q2.trans q1.symm)
theorem MR.put (m:MR K cl θ F H s) {n:Nat} {a:Addr} {c c':Cell} {o:HO} (e1:θ[n]?=some a) (e2:s[n]?=some c) (hm:Mu c=true) (h:CelR K cl θ F (upd H a o) a c'):MR K cl θ F (upd H a o) (s.set n c') where
  sm:=fun b u q=>by
    have nb:b≠a:=ne_of_none q (CelR.mut (m.cel n a c e1 e2) hm).1
    rw [upd_ne nb]; exact m.sm b u q
  len:=by rw [List.length_set]; exact m.len
  nd:=m.nd
  cel:=fun k b c2 f1 f2=>by
    by_cases hk:n=k
    · subst hk
      rw [List.getElem?_set_self (List.getElem?_eq_some_iff.mp e2).1] at f2
      cases f2
      rw [e1] at f1
      cases f1
      exact h
    · rw [List.getElem?_set_ne hk] at f2
      exact (m.cel k b c2 f1 f2).else (nd_ne m.nd f1 e1 (Ne.symm hk))
theorem CelR.there {a:Addr} {c:Cell} (h:CelR K cl θ F H a c):∃ o,H a=some o:=by
  cases c with
  | obj k fs=>obtain ⟨_,_,_,dx,xs,h4,_⟩:=h; exact ⟨_,h4⟩
  | lst ds=>obtain ⟨_,xs,h4,_⟩:=h; exact ⟨_,h4⟩
  | dct kvs=>obtain ⟨_,xs,h4,_⟩:=h; exact ⟨_,h4⟩
  | fz x=>exact h.2
theorem MR.ne (m:MR K cl θ F H s) {a:Addr} (ha:H a=none) {k:Nat} {b:Addr} (e:θ[k]?=some b):b≠a:=fun z=>by
  subst z
  have hk:k < s.length:=by rw [← m.len]; exact (List.getElem?_eq_some_iff.mp e).1
  obtain ⟨o,h⟩:=(m.cel k b _ e (List.getElem?_eq_getElem hk)).there
  rw [ha] at h; cases h
theorem MR.new (m:MR K cl θ F H s) {a:Addr} {c:Cell} {o:HO} (ha:H a=none) (h:CelR K cl (θ++[a]) F (upd H a o) a c):MR K cl (θ++[a]) F (upd H a o) (s++[c]) where
  sm:=fun b u q=>by
    have nb:b≠a:=ne_of_none q (m.sm.free ha)
    rw [upd_ne nb]; exact m.sm b u q
  len:=by rw [List.length_append,List.length_append,m.len]; rfl
  nd:=by
    rw [List.nodup_append]
    refine ⟨m.nd,by simp,fun b hb b' hb'=>?_⟩
    rw [List.mem_singleton.mp hb']
    obtain ⟨k,hk⟩:=List.getElem?_of_mem hb
    exact m.ne ha hk
  cel:=fun k b c2 f1 f2=>by
    by_cases hk:k < θ.length
    · rw [List.getElem?_append_left hk] at f1
      rw [List.getElem?_append_left (by rw [← m.len]; exact hk)] at f2
      exact ((m.cel k b c2 f1 f2).else (m.ne ha f1)).pre (List.prefix_append _ _)
    · have hk1:k=θ.length:=by
        have:=(List.getElem?_eq_some_iff.mp f1).1
        rw [List.length_append] at this
        have e1:[a].length=1:=rfl
        omega
      subst hk1
      rw [List.getElem?_append_right (Nat.le_refl _),Nat.sub_self] at f1
      rw [List.getElem?_append_right (by rw [m.len]; exact Nat.le_refl _),m.len,Nat.sub_self] at f2
      cases f1
      cases f2
      exact h
theorem MR.more (m:MR K cl θ F H s) {a:Addr} {o:HO} (ha:H a=none):MR K cl θ F (upd H a o) s where
  sm:=fun b u q=>by
    have nb:b≠a:=ne_of_none q (m.sm.free ha)
    rw [upd_ne nb]; exact m.sm b u q
  len:=m.len
  nd:=m.nd
  cel:=fun k b c f1 f2=>(m.cel k b c f1 f2).else (m.ne ha f1)
end
end L2.PU
namespace L2.PU
open PySem PySem.Spec PyProof.Rows
structure Wd where
  η:MEn
  s:Sto
def pD (s:Sto):D→Option PyData
  | .d x=>some x
  | .r n=>match s[n]? with | some (.fz x)=>some x | _=>none
def dOnly:D→Option PyData
  | .d x=>some x
  | .r _=>none
def dAll:List D→Option (List PyData)
  | []=>some []
  | d::r=>(dOnly d).bind fun x=>(dAll r).bind fun xs=>some (x::xs)
def dKvs:List (Key×D)→Option (List (Key×PyData))
  | []=>some []
  | (k,d)::r=>(dOnly d).bind fun x=>(dKvs r).bind fun xs=>some ((k,x)::xs)
def lD (s:Sto):D→Option PyData
  | .d x=>some x
  | .r n=>match s[n]? with
    | some (.fz x)=>some x
    | some (.lst ds)=>(dAll ds).bind fun xs=>some (.list xs)
    | some (.dct kvs)=>(dKvs kvs).bind fun xs=>some (.dict (prs xs))
    | _=>none
def vwS (g:D→Option PyData) (s:Sto):Option D→Sl
  | none=>.un
  | some (.d x)=>.val x
  | some (.r n)=>match s[n]? with
    | some (.obj _ fs)=>.ob fun f=>(fs.lookup f).bind g
    | _=>match g (.r n) with | some x=>.val x | none=>.un
def vw (w:Wd):En:=w.η.map (vwS (pD w.s) w.s)
section
variable {K:PySem.W.Frag} {cl:Nat→Addr} {θ θ':List Addr} {F F' H H':Hp} {s:Sto} {σ:St} {η:MEn} {w:Wd}
theorem DRf.look {fs:List (Str×D)} {xs:List (Str×V)} (h:DRf K θ F fs xs) (f:Str):(∀ d,fs.lookup f=some d→∃ v,xs.lookup f=some v∧DR K θ F d v)∧(fs.lookup f=none→xs.lookup f=none):=by
  induction h with
  | nil=>exact ⟨fun d e=>(by cases e),fun _=>rfl⟩
  | @cons a b as bs r t ih =>
    obtain ⟨ka,da⟩:=a
    obtain ⟨kb,vb⟩:=b
    have e:ka=kb:=r.1
    subst e
    by_cases hk:f=ka
    · subst hk
      simp only [List.lookup_cons_self]
      exact ⟨fun d e=>(by cases e; exact ⟨vb,rfl,r.2⟩),fun e=>(by cases e)⟩
    · have hb:(f==ka)=false:=by simpa using hk
      simp only [List.lookup_cons,hb]
      exact ih
theorem look_mem {fs:List (Str×D)} {f:Str} {d:D} (h:fs.lookup f=some d):f∈fs.map (·.1):=by
  induction fs with
  | nil=>cases h
  | cons a r ih =>
    obtain ⟨k,x⟩:=a
    by_cases hk:f=k
    · subst hk; simp
    · have hb:(f==k)=false:=by simpa using hk
      simp only [List.lookup_cons,hb] at h
      exact List.mem_cons_of_mem _ (ih h)
def Sees (K:PySem.W.Frag) (θ:List Addr) (F Fv:Hp) (g:D→Option PyData):Prop:=∀ d x v,g d=some x→DR K θ F d v→Rel K Fv x v
theorem vw_sr {g:D→Option PyData} {Fv:Hp} (m:MR K cl θ F H s) (e:MV K θ F σ η) (hs:Same Fv H) (hg:Sees K θ F Fv g) (hd:∀ x,g (.d x)=some x):SR K ⟨Fv,H⟩ Fv H σ (η.map (vwS g s)):=by
  have no:∀ (i:Nat) a,(η.map (vwS g s))[i]?=some a→isOwn a=false:=fun i a q=>by
    rw [List.getElem?_map] at q
    cases h:η[i]? with
    | none=>rw [h] at q; cases q
    | some o =>
      rw [h] at q
      have q':vwS g s o=a:=Option.some.inj q
      subst q'
      unfold vwS
      split
      · rfl
      · rfl
      · split
        · rfl
        · split <;> rfl
  refine ⟨.refl hs,⟨by rw [List.length_map]; exact e.len,fun i x q=>?_,fun i a q ha=>(by rw [no i a q] at ha; cases ha),fun i _ a _ q _ ha _ _=>(by rw [no i a q] at ha; cases ha),fun i fs q=>?_⟩⟩
  · rw [List.getElem?_map] at q
    cases h:η[i]? with
    | none=>rw [h] at q; cases q
    | some o =>
      rw [h] at q
      have q':vwS g s o=.val x:=Option.some.inj q
      unfold vwS at q'
      split at q'
      · cases q'
      · rename_i y
        have:y=x:=by injection q'
        subst this
        obtain ⟨v,e1,e2⟩:=e.val i _ h
        exact ⟨v,e1,hg _ _ _ (hd y) e2⟩
      · rename_i n
        split at q'
        · cases q'
        · split at q'
          · rename_i y hy
            have:y=x:=by injection q'
            subst this
            obtain ⟨v,e1,e2⟩:=e.val i _ h
            exact ⟨v,e1,hg _ _ _ hy e2⟩
          · cases q'
  · rw [List.getElem?_map] at q
    cases h:η[i]? with
    | none=>rw [h] at q; cases q
    | some o =>
      rw [h] at q
      have q':vwS g s o=.ob fs:=Option.some.inj q
      unfold vwS at q'
      split at q'
      · cases q'
      · cases q'
      · rename_i n
        split at q'
        · rename_i k fs0 hc
          have:(fun f=>(fs0.lookup f).bind g)=fs:=by injection q'
          subst this
          obtain ⟨v,e1,a,e2,e3⟩:=e.val i _ h
          subst e3
          obtain ⟨h1,h2,h3,dx,xs,h4,h5⟩:=m.cel n a _ e2 hc
          refine ⟨a,cl k,dx,xs,e1,h4,h2,fun f d hf=>?_⟩
          obtain ⟨D',hl,hx⟩:=bind_some hf
          obtain ⟨v,e5,e6⟩:=(h5.look f).1 D' hl
          exact ⟨h3 f (look_mem hl),v,e5,hg _ _ _ hx e6⟩
        · split at q' <;> cases q'
theorem sees_p (m:MR K cl θ F H s):Sees K θ F F (pD s):=fun d x v h r=>by
  cases d with
  | d y=>cases h; exact r
  | r n =>
    have h:(match s[n]? with | some (.fz x)=>some x | _=>none)=some x:=h
    split at h
    · rename_i y hy
      cases h
      obtain ⟨a,e1,e2⟩:=r
      subst e2
      exact (m.cel n a _ e1 hy).1
    · cases h
theorem MR.vw (m:MR K cl θ F H w.s) (e:MV K θ F σ w.η):SR K ⟨F,H⟩ F H σ (vw w):=vw_sr m e m.sm (sees_p m) fun _=>rfl
def lentH (θ:List Addr) (F H:Hp):Hp:=fun b=>match F b with | some o=>some o | none=>if b∈θ then H b else none
theorem lent_of (θ:List Addr) (F H:Hp):Same F (lentH θ F H):=fun b u q=>by unfold lentH; rw [q]
theorem lent_in {θ:List Addr} {F H:Hp} (h:Same F H):Same (lentH θ F H) H:=fun b u q=>by
  unfold lentH at q
  split at q
  · rename_i o ho; rw [← q]; exact h _ _ ho
  · split at q
    · exact q
    · cases q
theorem lent_at {θ:List Addr} {F H:Hp} {n:Nat} {a:Addr} {o:HO} (e:θ[n]?=some a) (hF:F a=none) (hH:H a=some o):lentH θ F H a=some o:=by
  unfold lentH
  rw [hF]
  dsimp only
  rw [if_pos (List.mem_of_getElem? e)]; exact hH
theorem dAll_rel {ds:List D} {xs:List V} (h:DRs K θ F ds xs):∀ {ys:List PyData},dAll ds=some ys→RelL K F ys xs:=by
  induction h with
  | nil=>intro ys e; cases e; exact .nil
  | @cons a b as bs r t ih =>
    intro ys e
    unfold dAll at e
    obtain ⟨x,h1,e⟩:=bind_some e
    obtain ⟨zs,h2,e⟩:=bind_some e
    cases e
    cases a with
    | d y=>cases h1; exact .cons r (ih h2)
    | r n=>cases h1
theorem dKvs_rel {ds:List (Key×D)} {xs:List (Key×V)} (h:DRk K θ F ds xs):∀ {ys:List (Key×PyData)},dKvs ds=some ys→RelD K F (prs ys) xs:=by
  induction h with
  | nil=>intro ys e; cases e; exact .nil
  | @cons a b as bs r t ih =>
    intro ys e
    obtain ⟨ka,da⟩:=a
    obtain ⟨kb,vb⟩:=b
    have hk:ka=kb:=r.1
    subst hk
    unfold dKvs at e
    obtain ⟨x,h1,e⟩:=bind_some e
    obtain ⟨zs,h2,e⟩:=bind_some e
    cases e
    cases da with
    | d y=>cases h1; exact RelD.cons r.2 (ih h2)
    | r n=>cases h1
theorem sees_l (m:MR K cl θ F H s):Sees K θ F (lentH θ F H) (lD s):=fun d x v h r=>by
  have sm:=lent_of θ F H
  cases d with
  | d y=>cases h; exact Rel.mono sm r
  | r n =>
    have h:(match s[n]? with | some (.fz x)=>some x | some (.lst ds)=>(dAll ds).bind fun xs=>some (.list xs) | some (.dct kvs)=>(dKvs kvs).bind fun xs=>some (.dict (prs xs)) | _=>none)=some x:=h
    obtain ⟨a,e1,e2⟩:=r
    subst e2
    split at h
    · rename_i y hy
      cases h
      exact Rel.mono sm (m.cel n a _ e1 hy).1
    · rename_i ds hy
      obtain ⟨ys,h1,h2⟩:=bind_some h
      cases h2
      obtain ⟨q1,xs,q2,q3⟩:=m.cel n a _ e1 hy
      exact rel_lst (SqL.of (lent_at e1 q1 q2)) ((dAll_rel q3 h1).mono sm)
    · rename_i kvs hy
      obtain ⟨ys,h1,h2⟩:=bind_some h
      cases h2
      obtain ⟨q1,ks,q2,q3⟩:=m.cel n a _ e1 hy
      exact rel_dct (.inl (lent_at e1 q1 q2)) ((dKvs_rel q3 h1).mono sm)
    · cases h
end
end L2.PU
namespace L2.PU
open PySem PySem.Spec PyProof.Rows
abbrev MF:=Wd→Option (D×Sto)
abbrev MFs:=Wd→Option (List D×Sto)
section
variable (K:PySem.W.Frag) (cl:Nat→Addr)
def tM (f:MF):TE:=fun σ H Q=>∃ θ F w d s',MR K cl θ F H w.s∧MV K θ F σ w.η∧f w=some (d,s')∧∀ v θ' F' H',θ <+: θ'→Same F F'→MR K cl θ' F' H' s'→DR K θ' F' d v→Q v H'
def tMT (f:Wd→Option (Bool×Sto)):TT:=fun σ H Q=>∃ θ F w b s',MR K cl θ F H w.s∧MV K θ F σ w.η∧f w=some (b,s')∧∀ θ' F' H',θ <+: θ'→Same F F'→MR K cl θ' F' H' s'→Q b H'
def tMA (f:MFs):TA:=fun σ H Q=>∃ θ F w ds s',MR K cl θ F H w.s∧MV K θ F σ w.η∧f w=some (ds,s')∧∀ vs θ' F' H',θ <+: θ'→Same F F'→MR K cl θ' F' H' s'→DRs K θ' F' ds vs→Q vs H'
end
def ME (X:Cx) (cl:Nat→Addr) (e:Expr) (f:MF):Prop:=PE X e (tM X.K cl f)
abbrev MTF:=Wd→Option (Bool×Sto)
def MT (X:Cx) (cl:Nat→Addr) (e:Expr) (f:MTF):Prop:=PT X e (tMT X.K cl f)
def MTW (X:Cx) (cl:Nat→Addr) (e:Expr) (f:MTF):Prop:=PW X e (tMT X.K cl f)
def MA (X:Cx) (cl:Nat→Addr) (es:List Expr) (f:MFs):Prop:=PA X es (tMA X.K cl f)
def mP (f:En→Option PyData):MF:=fun w=>(f (vw w)).bind fun x=>some (.d x,w.s)
def mN (f:En→Option (List PyData)):MF:=fun w=>(f (vw w)).bind fun xs=>some (.r w.s.length,w.s++[.lst (xs.map .d)])
def mV (i:Nat):MF:=fun w=>match w.η[i]? with | some (some d)=>some (d,w.s) | _=>none
def tPv (f:En→Option Bool):MTF:=fun w=>(f (vw w)).bind fun b=>some (b,w.s)
section
variable {X:Cx} {cl:Nat→Addr} {a b c e o:Expr} {es:List Expr} {f g:MF} {fs:MFs} {p:En→Option PyData} {ps:En→Option (List PyData)} {pt:En→Option Bool} {pos:Pos}
theorem ME.pu (h:∀ B,E X B e p):ME X cl e (mP p):=fun pins s σ H Q I ⟨θ,F,w,d,s',m,v,hf,q⟩=>by
  obtain ⟨x,hx,hf⟩:=bind_some hf
  cases hf
  exact h ⟨F,H⟩ pins s σ H Q I ⟨F,vw w,x,m.vw v,hx,fun u F' H' g r=>q u θ F' H' (List.prefix_refl _) g.ff (m.grow g) r⟩
theorem rel_ds {K:PySem.W.Frag} {θ:List Addr} {F:Hp}:∀ {xs:List PyData} {vs:List V},RelL K F xs vs→DRs K θ F (xs.map .d) vs
  | [],_,h=>by rw [h.nil_of]; exact .nil
  | x::xs,vs,h=>by
    obtain ⟨v,r,rfl,h1,h2⟩:=h.cons_of
    exact .cons h1 (rel_ds h2)
theorem ME.nw (h:∀ B,EO X B e ps):ME X cl e (mN ps):=fun pins s σ H Q I ⟨θ,F,w,d,s',m,v,hf,q⟩=>by
  obtain ⟨x,hx,hf⟩:=bind_some hf
  cases hf
  refine h ⟨F,H⟩ pins s σ H Q I ⟨F,vw w,x,m.vw v,hx,fun p xs F' H' g hp fp hp' rs=>?_⟩
  have m1:=m.grow g
  have na:∀ (k:Nat) b,θ[k]?=some b→b≠p:=fun k b e=>m.ne hp e
  have pre:θ <+: θ++[p]:=List.prefix_append _ _
  refine q _ (θ++[p]) F' H' pre g.ff ⟨m1.sm,by rw [List.length_append,List.length_append,m1.len]; rfl,?_,fun k b c2 f1 f2=>?_⟩ ⟨p,by rw [← m.len,List.getElem?_append_right (Nat.le_refl _),Nat.sub_self]; rfl,rfl⟩
  · rw [List.nodup_append]
    refine ⟨m.nd,by simp,fun b hb b' hb'=>?_⟩
    rw [List.mem_singleton.mp hb']
    obtain ⟨k,hk⟩:=List.getElem?_of_mem hb
    exact na k b hk
  · by_cases hk:k < θ.length
    · rw [List.getElem?_append_left hk] at f1
      rw [List.getElem?_append_left (by rw [← m.len]; exact hk)] at f2
      exact (m1.cel k b c2 f1 f2).pre pre
    · have hk1:k=θ.length:=by
        have:=(List.getElem?_eq_some_iff.mp f1).1
        rw [List.length_append] at this
        have e1:[p].length=1:=rfl
        omega
      subst hk1
      rw [List.getElem?_append_right (Nat.le_refl _),Nat.sub_self] at f1
      rw [List.getElem?_append_right (by rw [m.len]; exact Nat.le_refl _),m.len,Nat.sub_self] at f2
      cases f1
      cases f2
      exact ⟨fp,xs,hp',rel_ds rs⟩
theorem ME.v (i:Nat) {x:Str} (hN:X.N[i]?=some x:=by rfl) (hv:Vis X.env.scope x:=by first | exact Or.inl rfl | exact Or.inr (Or.inl rfl) | exact Or.inr (Or.inr rfl)) (hd:(x==("__debug__" : Str))=false:=by decide)
    (hcd:(x==("__classdict__" : Str))=false:=by decide):ME X cl (.Name x pos) (mV i) :=
  PE.imp (pe_var hN hv hd hcd) fun σ H Q ⟨θ,F,w,d,s',m,v,hf,q⟩=>by
    unfold mV at hf
    split at hf
    · rename_i d' e
      cases hf
      obtain ⟨u,e1,e2⟩:=v.val i _ e
      exact ⟨u,e1,q u θ F H (List.prefix_refl _) (.refl _) m e2⟩
    · cases hf
theorem MT.pu (h:∀ B,T X B e pt):MT X cl e (tPv pt):=fun pins s σ H Q I ⟨θ,F,w,b,s',m,v,hf,q⟩=>by
  obtain ⟨c,hx,hf⟩:=bind_some hf
  cases hf
  exact h ⟨F,H⟩ pins s σ H Q I ⟨F,vw w,_,m.vw v,hx,fun F' H' g=>q θ F' H' (List.prefix_refl _) g.ff (m.grow g)⟩
def tmNot (f:MTF):MTF:=fun w=>(f w).bind fun r=>some (!r.1,r.2)
def tmOr (f g:MTF):MTF:=fun w=>(f w).bind fun r=>if r.1=true then some (true,r.2) else g ⟨w.η,r.2⟩
variable {ta tb:MTF} {rest:List Expr}
theorem MT.not (ha:MT X cl a ta):MT X cl (.UnaryOp .Not a pos) (tmNot ta):=PT.imp (pt_not ha) fun σ H Q ⟨θ,F,w,b,s',m,v,hf,q⟩=>by
  obtain ⟨⟨c,s1⟩,hx,hf⟩:=bind_some hf
  cases hf
  exact ⟨θ,F,w,c,_,m,v,hx,q⟩
theorem MTW.t (h:MTW X cl a ta):MT X cl a ta:=PW.pt h
theorem MTW.or1 (ha:MT X cl a ta):MTW X cl (.BoolOp .Or [a] pos) ta:=pw_or1 ha
theorem MTW.or (ha:MT X cl a ta) (hb:MTW X cl (.BoolOp .Or (b::rest) pos) tb):MTW X cl (.BoolOp .Or (a::b::rest) pos) (tmOr ta tb):=PW.imp (pw_or ha hb) fun σ H Q ⟨θ,F,w,b,s',m,v,hf,q⟩=>by
  obtain ⟨⟨c,s1⟩,hx,hf⟩:=bind_some hf
  refine ⟨θ,F,w,c,s1,m,v,hx,fun θ1 F1 H1 p1 q1 m1=>?_⟩
  cases c with
  | true =>
    rw [if_pos rfl] at hf ⊢
    cases hf
    exact q θ1 F1 H1 p1 q1 m1
  | false =>
    rw [if_neg Bool.false_ne_true] at hf ⊢
    exact ⟨θ1,F1,⟨w.η,s1⟩,b,s',m1,v.mono p1 q1,hf,fun θ2 F2 H2 p2 q2 m2=>q θ2 F2 H2 (p1.trans p2) (q1.trans q2) m2⟩
def mOpL (o:PyData→PyData→Option PyData) (f g:MF):MF:=fun w=>(f w).bind fun r=>(g ⟨w.η,r.2⟩).bind fun q=>(lD q.2 r.1).bind fun x=>(lD q.2 q.1).bind fun y=>(o x y).bind fun z=>if flatD z=true then some (.d z,q.2) else none
theorem opL_of {r:R2} {o:PyData→PyData→Option PyData} (ad:Ad2 X.K r o):∀ σ H Q,tM X.K cl (mOpL o f g) σ H Q→tOp r (tM X.K cl f) (tM X.K cl g) σ H Q:=fun σ H Q ⟨θ,F,w,d,s',m,v,hf,q⟩=>by
  obtain ⟨⟨d1,s1⟩,h1,hf⟩:=bind_some hf
  obtain ⟨⟨d2,s2⟩,h2,hf⟩:=bind_some hf
  obtain ⟨x,hx,hf⟩:=bind_some hf
  obtain ⟨y,hy,hf⟩:=bind_some hf
  obtain ⟨z,hz,hf⟩:=bind_some hf
  split at hf
  · rename_i hfl
    cases hf
    refine ⟨θ,F,w,d1,s1,m,v,h1,fun u θ1 F1 H1 p1 q1 m1 r1=>⟨θ1,F1,⟨w.η,s1⟩,d2,_,m1,v.mono p1 q1,h2,fun u2 θ2 F2 H2 p2 q2 m2 r2=>?_⟩⟩
    exact ad (lentH θ2 F2 H2) H2 u u2 x y z Q (lent_in m2.sm) (sees_l m2 _ _ _ hx (r1.mono p2 q2)) (sees_l m2 _ _ _ hy r2) hz fun t F3 H3 g3 rt=>q t θ2 F2 H3 (p1.trans p2) (q1.trans q2) (m2.grow (Gr.back m2.sm g3)) (flat_rel hfl rt)
  · cases hf
def mB (f:MF):MTF:=fun w=>(f w).bind fun r=>match r.1 with | .d x=>(asB x).bind fun b=>some (b,r.2) | _=>none
theorem MT.cmp {op:CmpOp} {r:R2} {oo:PyData→PyData→Option PyData} (ho:OpR X (compareOp op) r) (ad:Ad2 X.K r oo) (hm:behindInMarks op b=false) (ha:ME X cl a f) (hb:ME X cl b g):MT X cl (.Compare a [op] [b] pos) (mB (mOpL oo f g)) :=
  PT.imp (pt_cmpR ho ha hb hm) fun σ H Q ⟨θ,F,w,c,s',m,v,hf,q⟩=>by
    obtain ⟨⟨d,s1⟩,h1,hf⟩:=bind_some hf
    cases d with
    | r n=>cases hf
    | d x =>
      dsimp only at hf
      obtain ⟨b,hb,hf⟩:=bind_some hf
      cases hf
      obtain rfl:=asB_some hb
      exact opL_of ad σ H _ ⟨θ,F,w,_,_,m,v,h1,fun u θ1 F1 H1 p1 q1 m1 r1=>⟨c,(show Rel X.K F1 (.bool c) u from r1).bl,q θ1 F1 H1 p1 q1 m1⟩⟩
def maN:MFs:=fun w=>some ([],w.s)
def maC (f:MF) (fs:MFs):MFs:=fun w=>(f w).bind fun r=>(fs ⟨w.η,r.2⟩).bind fun rs=>some (r.1::rs.1,rs.2)
theorem MA.nil:MA X cl [] maN:=PA.imp pa_nil fun σ H Q ⟨θ,F,w,ds,s',m,v,hf,q⟩=>by
  cases hf
  exact q [] θ F H (List.prefix_refl _) (.refl _) m .nil
theorem MA.cons (ha:ME X cl e f) (hr:MA X cl es fs) (hs:starEach (e::es) X.env=(false,eval e X.env)::starEach es X.env:=by exact star_of rfl):MA X cl (e::es) (maC f fs):=PA.imp (pa_cons ha hr hs) fun σ H Q ⟨θ,F,w,ds,s',m,v,hf,q⟩=>by
  obtain ⟨⟨d,s1⟩,h1,hf⟩:=bind_some hf
  obtain ⟨⟨ds2,s2⟩,h2,hf⟩:=bind_some hf
  cases hf
  refine ⟨θ,F,w,d,s1,m,v,h1,fun u θ1 F1 H1 p1 q1 m1 r1=>⟨θ1,F1,⟨w.η,s1⟩,ds2,s2,m1,v.mono p1 q1,h2,fun us θ2 F2 H2 p2 q2 m2 r2=>?_⟩⟩
  exact q (u::us) θ2 F2 H2 (p1.trans p2) (q1.trans q2) m2 (.cons (r1.mono p2 q2) r2)
def mFld (o:MF) (f:Str):MF:=fun w=>(o w).bind fun r=>match r.1 with
  | .r n=>(match r.2[n]? with | some (.obj _ fs)=>(fs.lookup f).bind fun d=>some (d,r.2) | _=>none)
  | _=>none
theorem ME.fld {f:Str} {g:MF} (ho:ME X cl o g) (hb:attributeBase o f X.env (eval o X.env)=eval o X.env:=by rfl):ME X cl (.Attribute o f pos) (mFld g f) :=
  PE.imp (pe_fld ho hb) fun σ H Q ⟨θ,F,w,d,s',m,v,hf,q⟩=>by
    obtain ⟨⟨d0,s0⟩,h0,hf⟩:=bind_some hf
    cases d0 with
    | d x=>cases hf
    | r n =>
      dsimp only at hf
      split at hf
      · rename_i k fs hc
        obtain ⟨d1,hl,hf⟩:=bind_some hf
        cases hf
        refine ⟨θ,F,w,.r n,_,m,v,h0,fun u θ1 F1 H1 p1 q1 m1 r1=>?_⟩
        obtain ⟨a,e1,rfl⟩:=r1
        obtain ⟨h1,h2,h3,dx,xs,h4,h5⟩:=m1.cel n a _ e1 hc
        obtain ⟨u,e5,e6⟩:=(h5.look f).1 _ hl
        exact ⟨a,cl k,dx,xs,u,rfl,h4,h2,h3 f (look_mem hl),e5,q u θ1 F1 H1 p1 q1 m1 e6⟩
      · cases hf
end
def eFld (i:Nat) (f:Str):En→Option PyData:=fun η=>match η[i]? with | some (.ob fs)=>fs f | _=>none
theorem E.fld (i:Nat) {X:Cx} {B:Bd} {x f:Str} {npos pos:Pos} (hN:X.N[i]?=some x:=by rfl) (hv:Vis X.env.scope x:=by first | exact Or.inl rfl | exact Or.inr (Or.inl rfl) | exact Or.inr (Or.inr rfl)) (hd:(x==("__debug__" : Str))=false:=by decide)
    (hcd:(x==("__classdict__" : Str))=false:=by decide) (hb:attributeBase (.Name x npos) f X.env (eval (.Name x npos) X.env)=eval (.Name x npos) X.env:=by rfl):E X B (.Attribute (.Name x npos) f pos) (eFld i f) :=
  PE.imp (pe_fld (pe_var hN hv hd hcd) hb) fun σ H Q ⟨F,η,d,sr,hd,q⟩=>by
    unfold eFld at hd
    split at hd
    · rename_i fs e
      obtain ⟨p,C,dx,xs,e1,e2,e3,e4⟩:=sr.en.obs i fs e
      obtain ⟨n,v,h1,h2⟩:=e4 f d hd
      exact ⟨_,e1,p,C,dx,xs,v,rfl,e2,e3,n,h1,q v F H (.refl sr.same) h2⟩
    · cases hd
end L2.PU
namespace L2.PU
open PySem PySem.Spec PyProof.Rows
def spM (K:PySem.W.Frag) (cl:Nat→Addr) (fn:List D→Sto→Option (D×Sto)):Sp:=fun vs H Q _=>∃ θ F s ds d s',MR K cl θ F H s∧DRs K θ F ds vs∧fn ds s=some (d,s')∧∀ v θ' F' H',θ <+: θ'→Same F F'→MR K cl θ' F' H' s'→DR K θ' F' d v→Q v H'
def mCall (fn:List D→Sto→Option (D×Sto)) (fs:MFs):MF:=fun w=>(fs w).bind fun r=>fn r.1 r.2
section
variable {X:Cx} {cl:Nat→Addr} {e o:Expr} {es:List Expr} {g:MF} {fs:MFs} {pos:Pos}
theorem ME.call {k k':Nat} {fa:Addr} {fd:FuncData} {ps:List Str} {x:Str} {ppos:Pos} {fn:List D→Sto→Option (D×Sto)} (G:FnOk X.prog X.w X.K X.mg X.base CX0 k fa fd ps (spM X.K cl fn)) (hr:Room k' X.A) (hkk:k≤k') (hm:X.mg x=some (.ref fa)) (hk:PySem.W.keepIn X.K (.ref fa)=true) (hb:Binds X.K fd ps [])
    (ha:MA X cl (e::es) fs) (hg:Gl X x:=by rfl) (hdb:(x==("__debug__" : Str))=false:=by decide) (he:starEach (e::es) X.env=(false,eval e X.env)::starEach es X.env:=by exact star_of rfl) (hpl:(backTo pos (starEach es X.env)).any (·.1)=false:=by exact plain_of rfl) :
    ME X cl (.Call (.Name x ppos) (e::es) [] pos) (mCall fn fs):=PE.imp (pe_call G (hr.mono hkk) hg hm hk hb .nil pass0 ha hdb he hpl) fun σ H Q ⟨θ,F,w,d,s',m,v,hf,q⟩=>by
  obtain ⟨⟨ds,s1⟩,h1,hf⟩:=bind_some hf
  refine ⟨θ,F,w,ds,s1,m,v,h1,fun vs θ1 F1 H1 p1 q1 m1 r1=>?_⟩
  show spM X.K cl fn (vs++[]) H1 Q E0
  rw [List.append_nil]
  exact ⟨θ1,F1,s1,ds,d,s',m1,r1,hf,fun u θ2 F2 H2 p2 q2 m2 r2=>q u θ2 F2 H2 (p1.trans p2) (q1.trans q2) m2 r2⟩
def mMeth (k:Nat) (nm:Str) (fn:List D→Sto→Option (D×Sto)) (o:MF) (fs:MFs):MF:=fun w=>(o w).bind fun r=>match r.1 with
  | .r n=>(match r.2[n]? with
    | some (.obj k' as)=>if k'=k∧as.lookup nm=none then (fs ⟨w.η,r.2⟩).bind fun rs=>fn (.r n::rs.1) rs.2 else none
    | _=>none)
  | _=>none
theorem meth_of {nm:Str} {k:Nat} {fn:List D→Sto→Option (D×Sto)}:∀ σ H Q,tM X.K cl (mMeth k nm fn g fs) σ H Q→tMeth (cl k) nm (spM X.K cl fn) [] E0 (tM X.K cl g) (tMA X.K cl fs) σ H Q:=fun σ H Q ⟨θ,F,w,d,s',m,v,hf,q⟩=>by
  obtain ⟨⟨d0,s0⟩,h0,hf⟩:=bind_some hf
  cases d0 with
  | d x=>cases hf
  | r n =>
    dsimp only at hf
    split at hf
    · rename_i k' as hc
      split at hf
      · rename_i hk
        obtain ⟨⟨ds,s1⟩,h1,hf⟩:=bind_some hf
        obtain ⟨hk1,hk2⟩:=hk
        rw [hk1] at hc
        refine ⟨θ,F,w,.r n,s0,m,v,h0,fun u θ1 F1 H1 p1 q1 m1 r1=>?_⟩
        obtain ⟨a,e1,rfl⟩:=id r1
        obtain ⟨c1,c2,c3,dx,xs,c4,c5⟩:=m1.cel n a _ e1 hc
        refine ⟨a,dx,xs,rfl,c4,(c5.look nm).2 hk2,θ1,F1,⟨w.η,s0⟩,ds,s1,m1,v.mono p1 q1,h1,fun vs θ2 F2 H2 p2 q2 m2 r2=>?_⟩
        show spM X.K cl fn (.ref a::(vs++[])) H2 Q E0
        rw [List.append_nil]
        exact ⟨θ2,F2,s1,.r n::ds,d,s',m2,.cons (DR.mono p2 q2 r1) r2,hf,fun u θ3 F3 H3 p3 q3 m3 r3=>q u θ3 F3 H3 (p1.trans (p2.trans p3)) (q1.trans (q2.trans q3)) m3 r3⟩
      · cases hf
    · cases hf
theorem ME.meth {pl:Sem Bool} {k k' kc:Nat} {fa:Addr} {fd:FuncData} {ps:List Str} {nm:Str} {apos:Pos} {fn:List D→Sto→Option (D×Sto)} (ho:ME X cl o g) (c:Cls X.K (cl kc)) (hm:Meth X.K (cl kc) nm fa) (G:FnOk X.prog X.w X.K X.mg X.base CX0 k fa fd ps (spM X.K cl fn)) (hr:Room k' X.A) (hkk:k≤k') (hb:Binds X.K fd ps [])
    (ha:MA X cl (e::es) fs) (hst:starEach (e::es) X.env=(false,eval e X.env)::starEach es X.env:=by exact star_of rfl) (hpl:(backTo pos (starEach es X.env)).any (·.1)=false:=by exact plain_of rfl)
    (ht:eval (.Call (.Attribute o nm apos) (e::es) [] pos) X.env=(do
      let ov ← eval o X.env
      standAt apos.atName
      let (f,first) ← holding [ov] (getMethod ov nm pl)
      callWith pos f first (backTo pos (starEach (e::es) X.env)) (backToKw pos (keywordEach [] X.env))):=by rfl):ME X cl (.Call (.Attribute o nm apos) (e::es) [] pos) (mMeth kc nm fn g fs) :=
  PE.imp (pe_meth (pl:=pl) ho c hm G (hr.mono hkk) hb .nil pass0 ha hst hpl ht) meth_of
theorem ME.meth0 {pl:Sem Bool} {k k' kc:Nat} {fa:Addr} {fd:FuncData} {ps:List Str} {nm:Str} {apos:Pos} {fn:List D→Sto→Option (D×Sto)} (ho:ME X cl o g) (c:Cls X.K (cl kc)) (hm:Meth X.K (cl kc) nm fa) (G:FnOk X.prog X.w X.K X.mg X.base CX0 k fa fd ps (spM X.K cl fn)) (hr:Room k' X.A) (hkk:k≤k') (hb:Binds X.K fd ps [])
    (ht:eval (.Call (.Attribute o nm apos) [] [] pos) X.env=(do
      let ov ← eval o X.env
      standAt apos.atName
      let (f,first) ← holding [ov] (getMethod ov nm pl)
      callWith pos f first (backTo pos (starEach [] X.env)) (backToKw pos (keywordEach [] X.env))):=by rfl):ME X cl (.Call (.Attribute o nm apos) [] [] pos) (mMeth kc nm fn g maN) :=
  PE.imp (pe_meth0 (pl:=pl) ho c hm G (hr.mono hkk) hb .nil pass0 ht) fun σ H Q h=>by
    obtain ⟨θ,F,w,d,s',m,v,hf,q⟩:=h
    obtain ⟨⟨d0,s0⟩,h0,hf⟩:=bind_some hf
    cases d0 with
    | d x=>cases hf
    | r n =>
      dsimp only at hf
      split at hf
      · rename_i k' as hc
        split at hf
        · rename_i hk
          obtain ⟨⟨ds,s1⟩,h1,hf⟩:=bind_some hf
          obtain ⟨hk1,hk2⟩:=hk
          rw [hk1] at hc
          cases h1
          refine ⟨θ,F,w,.r n,s0,m,v,h0,fun u θ1 F1 H1 p1 q1 m1 r1=>?_⟩
          obtain ⟨a,e1,rfl⟩:=id r1
          obtain ⟨c1,c2,c3,dx,xs,c4,c5⟩:=m1.cel n a _ e1 hc
          exact ⟨a,dx,xs,rfl,c4,(c5.look nm).2 hk2,θ1,F1,s0,[.r n],d,s',m1,.cons r1 .nil,hf,fun u θ3 F3 H3 p3 q3 m3 r3=>q u θ3 F3 H3 (p1.trans p3) (q1.trans q3) m3 r3⟩
        · cases hf
      · cases hf
def mMake (k:Nat) (fn:List D→Sto→Option (D×Sto)) (fs:MFs):MF:=fun w=>(fs w).bind fun r=>(fn (.r r.2.length::r.1) (r.2++[.obj k []])).bind fun q=>match q.1 with
  | .d .none=>some (.r r.2.length,q.2)
  | _=>none
theorem made_of {K:PySem.W.Frag} {θ:List Addr} {F H:Hp} {s:Sto} {kc:Nat} (c:Cls K (cl kc)) (m:MR K cl θ F H s) {x dx:Addr} (hx:H x=none) (hdx:H dx=none) (hne:dx≠x) :
    MR K cl (θ++[x]) F (upd (upd H dx (.own x)) x (.ins (cl kc) dx [])) (s++[.obj kc []]):=by
  have m1:=m.more (o:=.own x) hdx
  have hx1:upd H dx (.own x) x=none:=by rw [upd_ne (Ne.symm hne)]; exact hx
  exact m1.new hx1 ⟨m1.sm.free hx1,c,fun f hf=>(by cases hf),dx,[],upd_same,.nil⟩
theorem make_of {kc:Nat} {fn:List D→Sto→Option (D×Sto)} (c:Cls X.K (cl kc)) {θ:List Addr} {F H:Hp} {s s':Sto} {ds:List D} {d:D} {vs:List V} {Q:VK} (m:MR X.K cl θ F H s) (r:DRs X.K θ F ds vs)
    (hf:((fn (.r s.length::ds) (s++[.obj kc []])).bind fun q=>match q.1 with | .d .none=>some (D.r s.length,q.2) | _=>none)=some (d,s'))
    (q:∀ v θ' F' H',θ <+: θ'→Same F F'→MR X.K cl θ' F' H' s'→DR X.K θ' F' d v→Q v H') (x dx:Addr) (hx:H x=none) (hdx:H dx=none) (hne:dx≠x) :
    spM X.K cl fn (.ref x::vs) (upd (upd H dx (.own x)) x (.ins (cl kc) dx [])) (fun v H2=>v=.non∧Q (.ref x) H2) E0:=by
  obtain ⟨⟨d1,s1⟩,h1,hf⟩:=bind_some hf
  have pre:θ <+: θ++[x]:=List.prefix_append _ _
  have hix:(θ++[x])[s.length]?=some x:=by rw [← m.len,List.getElem?_append_right (Nat.le_refl _),Nat.sub_self]; rfl
  refine ⟨θ++[x],F,s++[.obj kc []],.r s.length::ds,d1,s1,made_of c m hx hdx hne,.cons ⟨x,hix,rfl⟩ (r.mono pre (.refl _)),h1,fun v θ2 F2 H2 p2 q2 m2 r2=>?_⟩
  dsimp only at hf
  split at hf
  · rename_i hd
    cases hf
    have r2':Rel X.K F2 .none v:=r2
    exact ⟨r2'.non,q _ θ2 F2 H2 (pre.trans p2) q2 m2 ⟨x,pre_get p2 hix,rfl⟩⟩
  · cases hf
theorem ME.make {k k' kc:Nat} {fa:Addr} {fd:FuncData} {ps:List Str} {x:Str} {ppos:Pos} {fn:List D→Sto→Option (D×Sto)} (c:Cls X.K (cl kc)) (M:Mk X.K (cl kc) fa) (G:FnOk X.prog X.w X.K X.mg X.base CX0 k fa fd ps (spM X.K cl fn)) (hr:Room k' X.A) (hkk:k+1≤k') (hm:X.mg x=some (.ref (cl kc))) (hb:Binds X.K fd ps [])
    (ha:MA X cl (e::es) fs) (hg:Gl X x:=by rfl) (hdb:(x==("__debug__" : Str))=false:=by decide) (he:starEach (e::es) X.env=(false,eval e X.env)::starEach es X.env:=by exact star_of rfl) (hpl:(backTo pos (starEach es X.env)).any (·.1)=false:=by exact plain_of rfl) :
    ME X cl (.Call (.Name x ppos) (e::es) [] pos) (mMake kc fn fs):=PE.imp (pe_make M G (hr.mono hkk) hg hm hb .nil pass0 ha hdb he hpl) fun σ H Q ⟨θ,F,w,d,s',m,v,hf,q⟩=>by
  obtain ⟨⟨ds,s1⟩,h1,hf⟩:=bind_some hf
  refine ⟨θ,F,w,ds,s1,m,v,h1,fun vs θ1 F1 H1 p1 q1 m1 r1=>fun x dx hx hdx hne=>?_⟩
  show spM X.K cl fn (.ref x::(vs++[])) _ _ E0
  rw [List.append_nil]
  exact make_of c m1 r1 hf (fun u θ2 F2 H2 p2 q2 m2 r2=>q u θ2 F2 H2 (p1.trans p2) (q1.trans q2) m2 r2) x dx hx hdx hne
end
end L2.PU
namespace L2.PU
open PySem PySem.Spec PyProof.Rows
inductive MOut where
  | nx (w:Wd)
  | rt (d:D) (s:Sto)
  | bk (w:Wd)
  | ct (w:Wd)
section
variable (K:PySem.W.Frag) (cl:Nat→Addr)
def MNx (θ:List Addr) (F:Hp) (N:St→Hp→Prop) (w:Wd):Prop:=∀ σ' θ' F' H',θ <+: θ'→Same F F'→MR K cl θ' F' H' w.s→MV K θ' F' σ' w.η→N σ' H'
def MOk (θ:List Addr) (F:Hp) (Z:Ends):MOut→Prop
  | .nx w=>MNx K cl θ F Z.nx w
  | .rt d s=>∀ v θ' F' H',θ <+: θ'→Same F F'→MR K cl θ' F' H' s→DR K θ' F' d v→Z.rt v H'
  | .bk w=>MNx K cl θ F Z.bk w
  | .ct w=>MNx K cl θ F Z.ct w
def tMS (f:Wd→Option MOut):TS:=fun Z σ H=>∃ θ F w o,MR K cl θ F H w.s∧MV K θ F σ w.η∧f w=some o∧MOk K cl θ F Z o
end
def MS (X:Cx) (cl:Nat→Addr) (st:Stmt) (f:Wd→Option MOut):Prop:=PS X st (tMS X.K cl f)
def MSs (X:Cx) (cl:Nat→Addr) (st:List Stmt) (f:Wd→Option MOut):Prop:=PSs X st (tMS X.K cl f)
theorem MNx.up {K:PySem.W.Frag} {cl:Nat→Addr} {θ θ1:List Addr} {F F1:Hp} {N:St→Hp→Prop} {w:Wd} (h:MNx K cl θ F N w) (p:θ <+: θ1) (s:Same F F1):MNx K cl θ1 F1 N w:=fun σ' θ' F' H' p' s'=>h σ' θ' F' H' (p.trans p') (s.trans s')
theorem MOk.up {K:PySem.W.Frag} {cl:Nat→Addr} {θ θ1:List Addr} {F F1:Hp} {Z:Ends} {o:MOut} (h:MOk K cl θ F Z o) (p:θ <+: θ1) (s:Same F F1):MOk K cl θ1 F1 Z o:=by
  cases o with
  | nx w=>exact MNx.up h p s
  | rt d s2=>exact fun v θ' F' H' p' s'=>h v θ' F' H' (p.trans p') (s.trans s')
  | bk w=>exact MNx.up h p s
  | ct w=>exact MNx.up h p s
def mNx:Wd→Option MOut:=fun w=>some (.nx w)
def mSeq (f g:Wd→Option MOut):Wd→Option MOut:=fun w=>(f w).bind fun o=>match o with
  | .nx w'=>g w'
  | o=>some o
def mRet (f:MF):Wd→Option MOut:=fun w=>(f w).bind fun r=>some (.rt r.1 r.2)
def mIf (c:MTF) (f g:Wd→Option MOut):Wd→Option MOut:=fun w=>(c w).bind fun r=>if r.1=true then f ⟨w.η,r.2⟩ else g ⟨w.η,r.2⟩
def mSet (i:Nat) (f:MF):Wd→Option MOut:=fun w=>(f w).bind fun r=>some (.nx ⟨w.η.set i (some r.1),r.2⟩)
def mExp (f:MF):Wd→Option MOut:=fun w=>(f w).bind fun r=>some (.nx ⟨w.η,r.2⟩)
def putA (f:Str) (v:D):List (Str×D)→List (Str×D)
  | []=>[(f,v)]
  | (g,x)::r=>if g=f then (g,v)::r else (g,x)::putA f v r
def mPut (k:Nat) (nm:Str) (o e:MF):Wd→Option MOut:=fun w=>(e w).bind fun r=>(o ⟨w.η,r.2⟩).bind fun q=>match q.1 with
  | .r n=>(match q.2[n]? with
    | some (.obj k' fs)=>if k'=k∧fs.length < 999 then some (.nx ⟨w.η,q.2.set n (.obj k (putA nm r.1 fs))⟩) else none
    | _=>none)
  | _=>none
section
variable {X:Cx} {cl:Nat→Addr} {st:Stmt} {sts sts':List Stmt} {u v:Wd→Option MOut} {a b c e o:Expr} {f g:MF} {p:MTF} {pos pos':Pos}
theorem MSs.nil:MSs X cl [] mNx:=PSs.imp pss_nil fun Z σ H ⟨θ,F,w,o,m,v,hf,q⟩=>by
  cases hf
  exact q σ θ F H (List.prefix_refl _) (.refl _) m v
theorem MSs.one (h:MS X cl st u):MSs X cl [st] u:=pss_one h
theorem MSs.cons (h:MS X cl st u) (k:MSs X cl sts v):MSs X cl (st::sts) (mSeq u v):=PSs.imp (pss_cons h k) fun Z σ H ⟨θ,F,w,o,m,v,hf,q⟩=>by
  obtain ⟨o1,h1,hf⟩:=bind_some hf
  refine ⟨θ,F,w,o1,m,v,h1,?_⟩
  cases o1 with
  | nx w'=>exact fun σ' θ' F' H' p s m' v'=>⟨θ',F',w',o,m',v',hf,q.up p s⟩
  | rt d s=>cases hf; exact q
  | bk w'=>cases hf; exact q
  | ct w'=>cases hf; exact q
theorem MS.never:MS X cl st (fun _=>none):=PS.imp ps_never fun Z σ H ⟨θ,F,w,o,m,v,hf,q⟩=>by cases hf
theorem MS.ret (he:ME X cl e f):MS X cl (.Return (some e) pos) (mRet f):=PS.imp (ps_ret he) fun Z σ H ⟨θ,F,w,o,m,v,hf,q⟩=>by
  obtain ⟨⟨d,s⟩,h1,hf⟩:=bind_some hf
  cases hf
  exact ⟨θ,F,w,d,s,m,v,h1,q⟩
theorem MS.exp (he:ME X cl e f) (hs:swapsWith e none pos.line X.env=pure false:=by rfl):MS X cl (.Expr e pos) (mExp f):=PS.imp (ps_expr he hs) fun Z σ H ⟨θ,F,w,o,m,v,hf,q⟩=>by
  obtain ⟨⟨d,s⟩,h1,hf⟩:=bind_some hf
  cases hf
  exact ⟨θ,F,w,d,s,m,v,h1,fun u θ' F' H' p' s' m' _=>q σ θ' F' H' p' s' m' (v.mono p' s')⟩
theorem MS.ifS (hc:MT X cl c p) (ha:MSs X cl sts u) (hb:MSs X cl sts' v):MS X cl (.If c sts sts' pos) (mIf p u v):=PS.imp (ps_if hc ha hb) fun Z σ H ⟨θ,F,w,o,m,v,hf,q⟩=>by
  obtain ⟨⟨b,s1⟩,h1,hf⟩:=bind_some hf
  refine ⟨θ,F,w,b,s1,m,v,h1,fun θ' F' H' p' s' m'=>?_⟩
  cases b with
  | false =>
    rw [if_neg Bool.false_ne_true] at hf ⊢
    exact ⟨θ',F',⟨w.η,s1⟩,o,m',v.mono p' s',hf,q.up p' s'⟩
  | true =>
    rw [if_pos rfl] at hf ⊢
    exact ⟨θ',F',⟨w.η,s1⟩,o,m',v.mono p' s',hf,q.up p' s'⟩
theorem MS.set (i:Nat) {x:Str} (hN:X.N.Nodup) (he:ME X cl e f) (hi:X.N[i]?=some x:=by rfl) (hx:Loc X.env.scope x:=by first | exact Or.inl rfl | exact Or.inr rfl) (hs:swapsWith e (some (.Name x pos')) pos.line X.env=pure false:=by rfl)
    (hf:X.fn x=true∨X.env.scope.names.lookup x=some .local:=by first | exact .inl rfl | exact .inr rfl):MS X cl (.Assign [.Name x pos'] e pos) (mSet i f):=PS.imp (ps_set hN hi hx he hs hf) fun Z σ H ⟨θ,F,w,o,m,v,hf,q⟩=>by
  obtain ⟨⟨d,s⟩,h1,hf⟩:=bind_some hf
  cases hf
  exact ⟨θ,F,w,d,s,m,v,h1,fun u θ' F' H' p' s' m' r'=>q _ θ' F' H' p' s' m' ((v.mono p' s').set i r')⟩
theorem DRf.put {K:PySem.W.Frag} {θ:List Addr} {F:Hp} {fs:List (Str×D)} {xs:List (Str×V)} (h:DRf K θ F fs xs) (f:Str) {d:D} {v:V} (r:DR K θ F d v):DRf K θ F (putA f d fs) (putF f v xs):=by
  induction h with
  | nil=>exact .cons ⟨rfl,r⟩ .nil
  | @cons a b as bs q t ih =>
    obtain ⟨ka,da⟩:=a
    obtain ⟨kb,vb⟩:=b
    have e:ka=kb:=q.1
    subst e
    unfold putA putF
    by_cases hk:ka=f
    · rw [if_pos hk,if_pos hk]; exact .cons ⟨rfl,r⟩ t
    · rw [if_neg hk,if_neg hk]; exact .cons q ih
theorem putA_keys {f:Str} {d:D}:∀ {fs:List (Str×D)} {g:Str},g∈(putA f d fs).map (·.1)→g=f∨g∈fs.map (·.1)
  | [],g,h=>.inl (by simpa [putA] using h)
  | (k,x)::r,g,h=>by
    unfold putA at h
    by_cases hk:k=f
    · rw [if_pos hk] at h
      rcases List.mem_cons.mp h with z | z
      · exact .inr (by rw [z]; exact List.mem_cons_self)
      · exact .inr (List.mem_cons_of_mem _ z)
    · rw [if_neg hk] at h
      rcases List.mem_cons.mp h with z | z
      · exact .inr (by rw [z]; exact List.mem_cons_self)
      · rcases putA_keys z with y | y
        · exact .inl y
        · exact .inr (List.mem_cons_of_mem _ y)
theorem MS.put {k:Nat} {nm:Str} (ho:ME X cl o g) (he:ME X cl e f) (hn:NoAttr X.K (cl k) nm) (hs:swapsWith e (some (.Attribute o nm pos')) pos.line X.env=pure false:=by rfl):MS X cl (.Assign [.Attribute o nm pos'] e pos) (mPut k nm g f) :=
  PS.imp (ps_fld ho he hs) fun Z σ H ⟨θ,F,w,o,m,v,hf,q⟩=>by
    obtain ⟨⟨d,s1⟩,h1,hf⟩:=bind_some hf
    obtain ⟨⟨d2,s2⟩,h2,hf⟩:=bind_some hf
    cases d2 with
    | d x=>cases hf
    | r n =>
      dsimp only at hf h2
      split at hf
      · rename_i k' fs hc
        split at hf
        · rename_i hk
          cases hf
          obtain ⟨hk1,hk2⟩:=hk
          rw [hk1] at hc
          refine ⟨θ,F,w,d,s1,m,v,h1,fun y θ1 F1 H1 p1 q1 m1 r1=>⟨θ1,F1,⟨w.η,s1⟩,.r n,s2,m1,v.mono p1 q1,h2,fun x θ2 F2 H2 p2 q2 m2 r2=>?_⟩⟩
          obtain ⟨a,e1,rfl⟩:=r2
          obtain ⟨c1,c2,c3,dx,xs,c4,c5⟩:=m2.cel n a _ e1 hc
          have hl:xs.length < 1000:=by
            have:=Paired.length c5
            omega
          refine ⟨a,cl k,dx,xs,rfl,c4,c2,hn,hl,q _ θ2 F2 _ (p1.trans p2) (q1.trans q2) (m2.put e1 hc rfl ⟨c1,c2,fun f hf=>?_,dx,_,upd_same,c5.put nm (r1.mono p2 q2)⟩) ((v.mono p1 q1).mono p2 q2)⟩
          rcases putA_keys hf with z | z
          · rw [z]; exact hn
          · exact c3 f z
        · cases hf
      · cases hf
end
def runM (n m:Nat) (g:Wd→Option MOut):List D→Sto→Option (D×Sto):=fun ds s=>if ds.length=n then (g ⟨ds.map some++List.replicate (m - n) none,s⟩).bind fun o=>match o with
  | .rt d s'=>some (d,s')
  | .nx w=>some (.d .none,w.s)
  | _=>none else none
section
variable {P:Program} {w:World} {K:PySem.W.Frag} {mg:Str→Option Value} {base:Heap} {cl:Nat→Addr}
theorem MV.start {θ:List Addr} {F:Hp} {N:List Str} {ds:List D} {vs:List V} (r:DRs K θ F ds vs):MV K θ F (L2.start N vs) (ds.map some++List.replicate (N.length - ds.length) none) where
  len:=by unfold L2.start; rw [List.length_append,List.length_append,List.length_map,List.length_map,List.length_replicate,List.length_replicate,Paired.length r]
  val:=fun i d e=>by
    unfold L2.start
    by_cases hi:i < ds.length
    · rw [List.getElem?_append_left (by rw [List.length_map]; exact hi),List.getElem?_map] at e
      rw [List.getElem?_append_left (by rw [List.length_map,← Paired.length r]; exact hi),List.getElem?_map]
      cases q:ds[i]? with
      | none=>rw [q] at e; cases e
      | some d' =>
        rw [q] at e
        have:d'=d:=Option.some.inj (Option.some.inj e)
        subst this
        obtain ⟨x,e1,e2⟩:=r.get q
        exact ⟨x,by rw [e1]; rfl,e2⟩
    · rw [List.getElem?_append_right (by rw [List.length_map]; omega),List.getElem?_replicate] at e
      split at e <;> cases e
theorem fnM {x qual:Str} {st:Stmt} {f:Addr} {fd:FuncData} {N ps:List Str} {k:Nat} {g:Wd→Option MOut} (Fn:Fun K x qual st f fd) (Sc:FnScope N ps (defScope st))
    (hb:∀ (cdv:Value) (A:Around) (outer:List Env) (s:Shared) (H:Hp) (E:XK),Room k (A.deeper (envOfC qual (defScope st) s.heap.objs.size f cdv)) →
      MSs (cxOf CX0 P w K mg base N qual (defScope st) f cdv A outer s H E).nox cl (defBody st) g) :
    FnOk P w K mg base CX0 (k+1) f fd ps (spM K cl (runM ps.length N.length g)):=by
  refine Fn.ok Sc (fun vs H Q E h=>?_) (fun cdv A outer s H vs Q E hr h=>?_)
  · obtain ⟨θ,F,s,ds,d,s',_,r,e,_⟩:=h
    unfold runM at e
    split at e
    · rename_i hl
      rw [← Paired.length r]; exact hl
    · cases e
  · obtain ⟨θ,F,s0,ds,d,s',m,r,e,q⟩:=h
    refine ⟨_,hb cdv A outer s H E hr,?_⟩
    unfold runM at e
    split at e
    · rename_i hl
      obtain ⟨o,h1,e⟩:=bind_some e
      have z:=MV.start (K:=K) (N:=N) r
      rw [hl] at z
      refine ⟨θ,F,⟨_,s0⟩,o,m,z,h1,?_⟩
      cases o with
      | rt d' s2 =>
        cases e
        exact q
      | nx w' =>
        cases e
        exact fun σ' θ' F' H' p' s' m' _=>q .non θ' F' H' p' s' m' (show Rel K F' .none .non from rel_non)
      | bk w'=>cases e
      | ct w'=>cases e
    · cases e
end
end L2.PU
namespace L2.PU
open PySem PySem.Spec PyProof.Rows
def tMI (K:PySem.W.Frag) (cl:Nat→Addr) (f:Wd→Option (List PyData×Sto)):TI:=fun σ H R=>∃ θ F w ds s',MR K cl θ F H w.s∧MV K θ F σ w.η∧f w=some (ds,s')∧∀ J θ' F' H',θ <+: θ'→Same F F'→MR K cl θ' F' H' s'→ItP K J F' ds→R J H'
def MI (X:Cx) (cl:Nat→Addr) (tg iter:Expr) (f:Wd→Option (List PyData×Sto)):Prop:=PI X tg iter (tMI X.K cl f)
def iPu (f:En→Option (List PyData)):Wd→Option (List PyData×Sto):=fun w=>(f (vw w)).bind fun ds=>some (ds,w.s)
def back:List Nat→MEn→En→Option MEn
  | [],η,_=>some η
  | k::ks,η,ζ=>match ζ[k]? with | some (.val x)=>back ks (η.set k (some (.d x))) ζ | _=>none
def mTg (ks:List Nat) (t:En→PyData→Option En) (w:Wd) (d:PyData):Option Wd:=(t (vw w) d).bind fun ζ=>(back ks w.η ζ).bind fun η=>some ⟨η,w.s⟩
def mGo (ks:List Nat) (t:En→PyData→Option En) (body:Wd→Option MOut):List PyData→Wd→Option MOut
  | [],w=>some (.nx w)
  | d::ds,w=>(mTg ks t w d).bind fun w1=>(body w1).bind fun o=>match o with
    | .nx w2=>mGo ks t body ds w2
    | .ct w2=>mGo ks t body ds w2
    | .bk w2=>some (.nx w2)
    | .rt d s=>some (.rt d s)
def mFor (ks:List Nat) (it:Wd→Option (List PyData×Sto)) (t:En→PyData→Option En) (body:Wd→Option MOut):Wd→Option MOut:=fun w=>(it w).bind fun r=>mGo ks t body r.1 ⟨w.η,r.2⟩
section
variable {X:Cx} {cl:Nat→Addr} {tg iter e:Expr} {f:MF} {fi:En→Option (List PyData)} {pos:Pos}
theorem MI.pu (h:∀ B,I X B tg iter fi):MI X cl tg iter (iPu fi):=fun pins s σ H R I ⟨θ,F,w,ds,s',m,v,hf,q⟩=>by
  obtain ⟨x,hx,hf⟩:=bind_some hf
  cases hf
  exact h ⟨F,H⟩ pins s σ H R I ⟨F,vw w,_,m.vw v,hx,fun J F' H' g ip=>q J θ F' H' (List.prefix_refl _) g.ff (m.grow g) ip⟩
theorem back_ok {K:PySem.W.Frag} {θ:List Addr} {B:Bd} {F H:Hp} {σ':St} {ζ:En} (sr:SR K B F H σ' ζ):∀ (ks:List Nat) {η η':MEn},back ks η ζ=some η'→η.length=σ'.length →
    (∀ (i:Nat) d,η[i]?=some (some d)→i∈ks∨∃ v,σ'[i]?=some (some v)∧DR K θ F d v)→MV K θ F σ' η'
  | [],η,η',h,hl,hv=>by
    cases h
    exact ⟨hl,fun i d e=>(hv i d e).elim (fun z=>(by cases z)) id⟩
  | k::ks,η,η',h,hl,hv=>by
    unfold back at h
    split at h
    · rename_i x hx
      refine back_ok sr ks h (by rw [List.length_set]; exact hl) fun i d e=>?_
      by_cases hk:k=i
      · subst hk
        by_cases hlt:k < η.length
        · rw [List.getElem?_set_self hlt] at e
          have e':D.d x=d:=Option.some.inj (Option.some.inj e)
          subst e'
          exact .inr (sr.en.val k x hx)
        · rw [List.getElem?_eq_none (by rw [List.length_set]; omega)] at e; cases e
      · rw [List.getElem?_set_ne hk] at e
        rcases hv i d e with z | z
        · rcases List.mem_cons.mp z with y | y
          · exact absurd y.symm hk
          · exact .inl y
        · exact .inr z
    · cases h
theorem tg_ok {K:PySem.W.Frag} {cl:Nat→Addr} {ks:List Nat} {gt:TG} {t:En→PyData→Option En} (ht:TgP K ks gt t) {θ:List Addr} {F H:Hp} {σ:St} {w w1:Wd} {d:PyData} {x:V} (m:MR K cl θ F H w.s) (v:MV K θ F σ w.η) (rx:Rel K F d x) (h:mTg ks t w d=some w1) {Q:St→Hp→Prop}
    (q:∀ σ' F' H',Same F F'→MR K cl θ F' H' w1.s→MV K θ F' σ' w1.η→Q σ' H'):gt x σ H Q:=by
  obtain ⟨ζ,h1,h⟩:=bind_some h
  obtain ⟨η,h2,h⟩:=bind_some h
  cases h
  refine ht ⟨F,H⟩ F H σ (vw w) d x ζ (m.vw v) rx h1 Q fun σ' F' H' sr g hl hn=>q σ' F' H' g.ff (m.grow g) (back_ok sr ks h2 (by rw [v.len,hl]) fun i d' e=>?_)
  by_cases hi:i∈ks
  · exact .inl hi
  · obtain ⟨u,e1,e2⟩:=v.val i d' e
    exact .inr ⟨u,by rw [hn i hi]; exact e1,e2.mono (List.prefix_refl _) g.ff⟩
theorem MS.for {body:List Stmt} {gt:TG} {ks:List Nat} {t:En→PyData→Option En} {fi:Wd→Option (List PyData×Sto)} {u:Wd→Option MOut} (hp:PassesOwn (model X.prog X.w) X.A X.env X.xe) (hc:X.calm=true) (hi:MI X cl tg iter fi) (hg:PG X tg gt) (ht:TgP X.K ks gt t) (hb:MSs X cl body u)
    (hs:∀ x,foldedSetIterable iter X.env x=pure x:=by intro _; rfl):MS X cl (.For tg iter body [] pos) (mFor ks fi t u):=PS.imp (ps_for hp hc hi hg hb hs) fun Z σ H ⟨θ,F,w,o,m,v,hf,q⟩=>by
  obtain ⟨⟨ds,s1⟩,h1,hd⟩:=bind_some hf
  refine ⟨θ,F,w,ds,s1,m,v,h1,fun J θ1 F1 H1 p1 q1 m1 ip=>?_⟩
  refine ⟨fun i n σ H=>n=ds.length - i∧i≤ds.length∧∃ θc Fc wc,θ1 <+: θc∧Same F1 Fc∧MR X.K cl θc Fc H wc.s∧MV X.K θc Fc σ wc.η∧mGo ks t u (ds.drop i) wc=some o,⟨_,rfl,Nat.zero_le _,θ1,F1,⟨w.η,s1⟩,List.prefix_refl _,.refl _,m1,v.mono p1 q1,by simpa using hd⟩,?_⟩
  rintro i n σc Hc ⟨rfl,hi,θc,Fc,wc,pc,sc,mc,vc,hgo⟩
  obtain ⟨ip1,ip2⟩:=ip Fc Hc i sc mc.sm
  by_cases hlt:i < ds.length
  · have e:ds[i]?=some ds[i]:=List.getElem?_eq_getElem hlt
    obtain ⟨go,yl⟩:=ip1 _ e
    rw [List.drop_eq_getElem_cons hlt] at hgo
    unfold mGo at hgo
    obtain ⟨w1,e1,hgo⟩:=bind_some hgo
    obtain ⟨o1,e2,hgo⟩:=bind_some hgo
    have cont:∀ (w2:Wd),mGo ks t u (ds.drop (i+1)) w2=some o→∀ σ' θ' F' H',θ1 <+: θ'→Same F1 F'→MR X.K cl θ' F' H' w2.s→MV X.K θ' F' σ' w2.η →
        ∃ n',n' < ds.length - i∧(fun i n σ H=>n=ds.length - i∧i≤ds.length∧∃ θc Fc wc,θ1 <+: θc∧Same F1 Fc∧MR X.K cl θc Fc H wc.s∧MV X.K θc Fc σ wc.η∧mGo ks t u (ds.drop i) wc=some o) (i+1) n' σ' H':=fun w2 h2 σ' θ' F' H' p s m v =>
      ⟨ds.length - (i+1),by omega,rfl,hlt,θ',F',w2,p,s,m,v,h2⟩
    refine .inr ⟨go,fun σ' H'=>∃ n',n' < ds.length - i∧(fun i n σ H=>n=ds.length - i∧i≤ds.length∧∃ θc Fc wc,θ1 <+: θc∧Same F1 Fc∧MR X.K cl θc Fc H wc.s∧MV X.K θc Fc σ wc.η∧mGo ks t u (ds.drop i) wc=some o) (i+1) n' σ' H',fun σ' H' n=>n,fun x H' y=>?_⟩
    obtain ⟨F2,g2,rx⟩:=yl x H' y
    refine tg_ok ht (mc.grow g2) (vc.mono (List.prefix_refl _) g2.ff) rx e1 fun σ3 F3 H3 s3 m3 v3=>?_
    refine ⟨θc,F3,w1,o1,m3,v3,e2,?_⟩
    have s4:Same F1 F3:=sc.trans (g2.ff.trans s3)
    cases o1 with
    | nx w2=>exact fun σ' θ' F' H' p' s' m' v'=>cont w2 hgo σ' θ' F' H' (pc.trans p') (s4.trans s') m' v'
    | ct w2=>exact fun σ' θ' F' H' p' s' m' v'=>cont w2 hgo σ' θ' F' H' (pc.trans p') (s4.trans s') m' v'
    | bk w2 =>
      cases hgo
      exact fun σ' θ' F' H' p' s' m' v'=>q σ' θ' F' H' (p1.trans (pc.trans p')) (q1.trans (s4.trans s')) m' v'
    | rt d s2 =>
      cases hgo
      exact fun u θ' F' H' p' s' m' r'=>q u θ' F' H' (p1.trans (pc.trans p')) (q1.trans (s4.trans s')) m' r'
  · have ei:i=ds.length:=by omega
    subst ei
    rw [List.drop_length] at hgo
    cases hgo
    exact .inl ⟨ip2 rfl,q σc θc Fc Hc (p1.trans pc) (q1.trans sc) mc vc⟩
end
section
variable {X:Cx} {cl:Nat→Addr} {tg iter elt:Expr} {ifs:List Expr} {scope:Scope} {N':List Str} {mp:List (Option Nat)} {ks:List Nat} {gt:TG} {t:En→PyData→Option En} {fi:En→Option (List PyData)} {p:En→Option Bool} {f:En→Option PyData} {pos:Pos}
end
end L2.PU
namespace L2.PU
open PySem PySem.Spec PyProof.Rows
def pDs (s:Sto):List D→Option (List PyData)
  | []=>some []
  | d::r=>(pD s d).bind fun x=>(pDs s r).bind fun xs=>some (x::xs)
section
variable {X:Cx} {cl:Nat→Addr} {e:Expr} {es:List Expr} {fs:MFs} {pos pp:Pos}
theorem pDs_rel {K:PySem.W.Frag} {θ:List Addr} {F H:Hp} {s:Sto} (m:MR K cl θ F H s) {ds:List D} {vs:List V} (h:DRs K θ F ds vs):∀ {xs:List PyData},pDs s ds=some xs→RelL K F xs vs:=by
  induction h with
  | nil=>intro xs e; cases e; exact .nil
  | @cons a b as bs r t ih =>
    intro xs e
    unfold pDs at e
    obtain ⟨x,h1,e⟩:=bind_some e
    obtain ⟨zs,h2,e⟩:=bind_some e
    cases e
    exact .cons (sees_p m _ _ _ h1 r) (ih h2)
end
section
variable {X:Cx} {cl:Nat→Addr} {a b:Expr} {f g:MF} {pos:Pos}
theorem MT.ne {k:Nat} (hr:Room k X.A) (ha:ME X cl a f) (hb:ME X cl b g):MT X cl (.Compare a [.NotEq] [b] pos) (mB (mOpL pNe f g)):=MT.cmp (op_neD hr.units) ad_ne (nomark b) ha hb
end
def spL (K:PySem.W.Frag):Sp:=fun vs H Q _=>∃ (a:Addr) (ns:List Int),vs=[.ref a]∧SqL K H a (ns.map V.int)∧ns.length≤63∧∀ H',Q (.bl true) H'
theorem spM_law {K:PySem.W.Frag} {cl:Nat→Addr} {fn:List D→Sto→Option (D×Sto)} (main:∀ ns:List Int,ns.length≤63→∃ s',fn [.d (.list (ns.map PyData.int))] []=some (.d (.bool true),s')):∀ vs H Q E,spL K vs H Q E→spM K cl fn vs H Q E:=fun vs H Q E ⟨a,ns,e,hS,hl,q⟩=>by
  subst e
  obtain ⟨s',hm⟩:=main ns hl
  exact ⟨[],H,[],[.d (.list (ns.map PyData.int))],.d (.bool true),s',⟨.refl _,rfl,by simp,fun n a c h=>by simp at h⟩,.cons (show Rel K H (.list (ns.map PyData.int)) (.ref a) from rel_lst hS (RelL.ints ns)) .nil,hm,fun v θ' F' H' _ _ _ r=>by rw [(show Rel K F' (.bool true) v from r).bl]; exact q H'⟩
end L2.PU
namespace L2.PU
open PySem PySem.Spec PyProof.Rows
section
variable {w w1:Wd} {s s1 s2:Sto} {d d1 d2:D} {ds:List D} {n i k:Nat} {nm:Str}
theorem mSeq_of {f g:Wd→Option MOut} {r:Option MOut} (h1:f w=some (.nx w1)) (h2:g w1=r):mSeq f g w=r:=by
  unfold mSeq
  rw [h1]; exact h2
theorem mSeq_rt {f g:Wd→Option MOut} (h1:f w=some (.rt d s)):mSeq f g w=some (.rt d s):=by
  unfold mSeq
  rw [h1]; rfl
theorem mSet_of {f:MF} (h:f w=some (d,s)):mSet i f w=some (.nx ⟨w.η.set i (some d),s⟩):=by
  unfold mSet
  rw [h]; rfl
theorem mRet_of {f:MF} (h:f w=some (d,s)):mRet f w=some (.rt d s):=by
  unfold mRet
  rw [h]; rfl
theorem mExp_of {f:MF} (h:f w=some (d,s)):mExp f w=some (.nx ⟨w.η,s⟩):=by
  unfold mExp
  rw [h]; rfl
theorem mP_of {f:En→Option PyData} {x:PyData} (h:f (vw w)=some x):mP f w=some (.d x,w.s):=by
  unfold mP
  rw [h]; rfl
theorem tPv_of {f:En→Option Bool} {b:Bool} (h:f (vw w)=some b):tPv f w=some (b,w.s):=by
  unfold tPv
  rw [h]; rfl
theorem mIfT {c:MTF} {f g:Wd→Option MOut} {r:Option MOut} (h:c w=some (true,s)) (h2:f ⟨w.η,s⟩=r):mIf c f g w=r:=by
  unfold mIf
  rw [h]; exact h2
theorem mIfF {c:MTF} {f g:Wd→Option MOut} {r:Option MOut} (h:c w=some (false,s)) (h2:g ⟨w.η,s⟩=r):mIf c f g w=r:=by
  unfold mIf
  rw [h]; exact h2
theorem mIfN {c:MTF} {f:Wd→Option MOut} (h:c w=some (false,s)):mIf c f mNx w=some (.nx ⟨w.η,s⟩):=mIfF h rfl
theorem maN_of:maN w=some ([],w.s):=rfl
theorem maC_of {f:MF} {fs:MFs} (h1:f w=some (d,s1)) (h2:fs ⟨w.η,s1⟩=some (ds,s2)):maC f fs w=some (d::ds,s2):=by
  unfold maC
  rw [h1,Option.bind_some,h2]; rfl
theorem mMeth_of {fn:List D→Sto→Option (D×Sto)} {o:MF} {fs:MFs} {as:List (Str×D)} (h0:o w=some (.r n,s)) (hc:s[n]?=some (.obj k as)) (hl:as.lookup nm=none) (h1:fs ⟨w.η,s⟩=some (ds,s1)) (h2:fn (.r n::ds) s1=some (d,s2)):mMeth k nm fn o fs w=some (d,s2):=by
  unfold mMeth
  rw [h0,Option.bind_some]
  dsimp only
  rw [hc]
  dsimp only
  rw [if_pos ⟨rfl,hl⟩,h1]; exact h2
theorem mMake_of {fn:List D→Sto→Option (D×Sto)} {fs:MFs} (h1:fs w=some (ds,s)) (h2:fn (.r s.length::ds) (s++[.obj k []])=some (.d .none,s2)):mMake k fn fs w=some (.r s.length,s2):=by
  unfold mMake
  rw [h1,Option.bind_some,h2]; rfl
theorem mPut_of {o e:MF} {fs:List (Str×D)} (h1:e w=some (d,s1)) (h2:o ⟨w.η,s1⟩=some (.r n,s2)) (hc:s2[n]?=some (.obj k fs)) (hl:fs.length < 999):mPut k nm o e w=some (.nx ⟨w.η,s2.set n (.obj k (putA nm d fs))⟩):=by
  unfold mPut
  rw [h1,Option.bind_some,h2,Option.bind_some]
  dsimp only
  rw [hc]
  dsimp only
  rw [if_pos ⟨rfl,hl⟩]
theorem mB_of {f:MF} {b:Bool} (h:f w=some (.d (.bool b),s)):mB f w=some (b,s):=by
  unfold mB
  rw [h]; rfl
theorem mOpL_of {o:PyData→PyData→Option PyData} {f g:MF} {x y z:PyData} (h1:f w=some (d1,s1)) (h2:g ⟨w.η,s1⟩=some (d2,s2)) (hx:lD s2 d1=some x) (hy:lD s2 d2=some y) (ho:o x y=some z) (hf:flatD z=true):mOpL o f g w=some (.d z,s2):=by
  unfold mOpL
  rw [h1,Option.bind_some,h2,Option.bind_some,hx,Option.bind_some,hy,Option.bind_some,ho,Option.bind_some,if_pos hf]
theorem mRun_of {a b:Nat} {g:Wd→Option MOut} (hl:ds.length=a) (h:g ⟨ds.map some++List.replicate (b - a) none,s⟩=some (.rt d s1)):runM a b g ds s=some (d,s1):=by
  unfold runM
  rw [if_pos hl,h]; rfl
theorem mRunN {a b:Nat} {g:Wd→Option MOut} (hl:ds.length=a) (h:g ⟨ds.map some++List.replicate (b - a) none,s⟩=some (.nx w1)):runM a b g ds s=some (.d .none,w1.s):=by
  unfold runM
  rw [if_pos hl,h]; rfl
theorem mFor_of {ks:List Nat} {it:Wd→Option (List PyData×Sto)} {t:En→PyData→Option En} {body:Wd→Option MOut} {xs:List PyData} {r:Option MOut} (h:it w=some (xs,s)) (h2:mGo ks t body xs ⟨w.η,s⟩=r):mFor ks it t body w=r:=by
  unfold mFor
  rw [h]; exact h2
theorem iPu_of {f:En→Option (List PyData)} {xs:List PyData} (h:f (vw w)=some xs):iPu f w=some (xs,w.s):=by
  unfold iPu
  rw [h]; rfl
theorem mTg_name {x:PyData} (h:i < w.η.length):mTg [i] (tgN i) w x=some ⟨w.η.set i (some (.d x)),w.s⟩:=by
  have e:((vw w).set i (.val x))[i]?=some (.val x):=List.getElem?_set_self (by unfold vw; rw [List.length_map]; exact h)
  show (some ((vw w).set i (.val x))).bind _=_
  rw [Option.bind_some]
  unfold back
  rw [e]
  rfl
theorem vwS_obj {g:D→Option PyData} {fs:List (Str×D)} (hc:s[n]?=some (.obj k fs)):vwS g s (some (.r n))=.ob fun f=>(fs.lookup f).bind g:=by
  unfold vwS
  dsimp only
  rw [hc]
end
end L2.PU
namespace L2.PU
open PySem PySem.Spec PyProof.Rows
section
variable {X:Cx} {cl:Nat→Addr} {tg iter elt c:Expr} {ifs:List Expr} {scope:Scope} {N':List Str} {mp:List (Option Nat)} {ks:List Nat} {gt:TG} {t:En→PyData→Option En} {fi:Wd→Option (List PyData×Sto)} {p:MTF} {f:MF} {pos:Pos}
theorem paired_app {α β:Type} {R:α→β→Prop} {as:List α} {bs:List β} (h:Paired R as bs) {a:α} {b:β} (r:R a b):Paired R (as++[a]) (bs++[b]):=by
  induction h with
  | nil=>exact .cons r .nil
  | cons q _ ih=>exact .cons q ih
theorem paired_len {α β:Type} {R:α→β→Prop} {as:List α} {bs:List β} (h:Paired R as bs):as.length=bs.length:=by
  induction h with
  | nil=>rfl
  | cons q _ ih=>rw [List.length_cons,List.length_cons,ih]
end
end L2.PU
namespace L2.PU
open PySem PySem.Spec PyProof.Rows
end L2.PU
namespace L2.PU
open PySem PySem.Spec PyProof.Rows
def mIfx (c:MTF) (f g:MF):MF:=fun w=>(c w).bind fun r=>if r.1=true then f ⟨w.η,r.2⟩ else g ⟨w.η,r.2⟩
section
variable {X:Cx} {cl:Nat→Addr} {a b c e o:Expr} {es:List Expr} {f g:MF} {fs:MFs} {tc:MTF} {pos:Pos}
theorem ME.ifx (hc:MT X cl c tc) (ha:ME X cl a f) (hb:ME X cl b g):ME X cl (.IfExp c a b pos) (mIfx tc f g):=PE.imp (pe_ifExp hc ha hb) fun σ H Q ⟨θ,F,w,d,s',m,v,hf,q⟩=>by
  obtain ⟨⟨x,s1⟩,h1,hf⟩:=bind_some hf
  refine ⟨θ,F,w,x,s1,m,v,h1,fun θ1 F1 H1 p1 q1 m1=>?_⟩
  cases x with
  | true =>
    rw [if_pos rfl] at hf ⊢
    exact ⟨θ1,F1,⟨w.η,s1⟩,d,s',m1,v.mono p1 q1,hf,fun u θ2 F2 H2 p2 q2 m2 r2=>q u θ2 F2 H2 (p1.trans p2) (q1.trans q2) m2 r2⟩
  | false =>
    rw [if_neg Bool.false_ne_true] at hf ⊢
    exact ⟨θ1,F1,⟨w.η,s1⟩,d,s',m1,v.mono p1 q1,hf,fun u θ2 F2 H2 p2 q2 m2 r2=>q u θ2 F2 H2 (p1.trans p2) (q1.trans q2) m2 r2⟩
end
def mAppC (o g:MF):MF:=fun w=>(o w).bind fun r=>match r.1 with
  | .r n=>(match r.2[n]? with
    | some (.lst _)=>(g ⟨w.η,r.2⟩).bind fun q=>match q.2[n]? with
      | some (.lst ds)=>if ds.length < sizeLine then some (.d .none,q.2.set n (.lst (ds++[q.1]))) else none
      | _=>none
    | _=>none)
  | _=>none
section
variable {X:Cx} {cl:Nat→Addr} {o e:Expr} {f g:MF} {apos cpos:Pos}
theorem ME.appC (ho:ME X cl o f) (he:ME X cl e g) (hbase:attributeBase o "append" X.env (eval o X.env)=eval o X.env:=by rfl)
    (hfew:((backTo cpos (starEach [e] X.env)).all (fun x=>!x.1)&&(backToKw cpos (keywordEach [] X.env)).all (fun x=>x.1.isSome)
      && decide ([e].length+([]:List Keyword).length+(if ([]:List Keyword).isEmpty then 0 else 1) < 30))=true:=by rfl)
    (hline:(apos.endLine==cpos.line)=true:=by rfl) (hs:starEach [e] X.env=(false,eval e X.env)::starEach [] X.env:=by exact star_of rfl) (hplain:(backTo cpos (starEach [] X.env)).any (·.1)=false:=by rfl) :
    ME X cl (.Call (.Attribute o "append" apos) [e] [] cpos) (mAppC f g) :=
  PE.imp (pe_bm PySem.F.plainAttrs_list PySem.F.slot_list_append PySem.F.type_list_append mt_append ho (MA.cons he MA.nil hs) hbase hfew hline hs hplain) fun σ H Q ⟨θ,F,w,d,s',m,v,hf,q⟩=>by
    obtain ⟨⟨d1,s1⟩,h1,hf⟩:=bind_some hf
    cases d1 with
    | d x=>cases hf
    | r n =>
      dsimp only at hf
      split at hf
      · rename_i ds0 hc0
        obtain ⟨⟨d2,s2⟩,h2,hf⟩:=bind_some hf
        dsimp only at hf
        split at hf
        · rename_i ds hc
          split at hf
          · rename_i hl
            cases hf
            refine ⟨θ,F,w,_,s1,m,v,h1,fun u θ1 F1 H1 p1 q1 m1 r1=>?_⟩
            obtain ⟨ad,z1,rfl⟩:=r1
            obtain ⟨w1,xs0,w3,w4⟩:=m1.cel n ad _ z1 hc0
            refine ⟨.inl ⟨rfl,xs0,SqL.of w3⟩,θ1,F1,⟨w.η,s1⟩,[d2],s2,m1,v.mono p1 q1,maC_of h2 maN_of,fun vs θ2 F2 H2 p2 q2 m2 r2=>?_⟩
            cases r2 with
            | @cons _ y _ _ ra rn =>
              cases rn
              have z2:=pre_get p2 z1
              obtain ⟨w5,xs,w6,w7⟩:=m2.cel n ad _ z2 hc
              have hlx:=paired_len w7
              refine ⟨ad,xs,y,rfl,rfl,w6,by rw [← hlx]; exact hl,?_⟩
              exact q _ θ2 F2 _ (p1.trans p2) (q1.trans q2) (m2.put (c':=.lst (ds++[d2])) z2 hc rfl ⟨w5,xs++[y],upd_same,paired_app w7 ra⟩) (show Rel X.K F2 .none .non from rel_non)
          · cases hf
        · cases hf
      · cases hf
end
end L2.PU
namespace L2.PU
open PySem PySem.Spec PyProof.Rows
end L2.PU
namespace L2.PU
open PySem PySem.Spec PyProof.Rows
end L2.PU
namespace L2.PU
open PySem PySem.Spec PyProof.Rows
section
variable {X:Cx} {cl:Nat→Addr} {tg e:Expr} {f:MF} {pos:Pos}
def mUnp (ks:List Nat) (f:MF) (t:En→PyData→Option En):Wd→Option MOut:=fun w=>(f w).bind fun r=>match r.1 with | .d d=>(mTg ks t ⟨w.η,r.2⟩ d).bind fun w'=>some (.nx w') | _=>none
theorem MS.unp {gt:TG} {ks:List Nat} {t:En→PyData→Option En} (he:ME X cl e f) (hg:PG X tg gt) (ht:TgP X.K ks gt t) (hs:swapsWithSole [tg] e pos.line X.env=pure false:=by rfl) (hw:swappedStores [tg] e X.env=pure none:=by rfl)
    (h1:(assignEach [tg] X.env).map (·.2)=[assign tg X.env]:=by rfl):MS X cl (.Assign [tg] e pos) (mUnp ks f t) :=
  PS.imp (ps_asg he hg hs hw h1) fun Z σ H ⟨θ,F,w,o,m,v,hf,q⟩=>by
    obtain ⟨⟨d,s1⟩,h2,hf⟩:=bind_some hf
    dsimp only at hf
    split at hf
    · rename_i dd
      obtain ⟨w',h3,hf⟩:=bind_some hf
      cases hf
      refine ⟨θ,F,w,.d dd,s1,m,v,h2,fun u θ' F' H' p' s' m' r'=>?_⟩
      exact tg_ok (w:=⟨w.η,s1⟩) ht m' (v.mono p' s') r' h3 fun σ2 F2 H2 sm mr mv=>q σ2 θ' F2 H2 p' (s'.trans sm) mr mv
    · cases hf
end
end L2.PU
namespace L2.PU
open PySem PySem.Spec PyProof.Rows
theorem ob_has {P:Program} {w:World} {H:Hp} {h:Heap} {a:Addr} {o:HO} (x:ObjOk P w H h a o):∃ ob,h.get? a=some ob:=by
  cases o with
  | lst xs=>obtain ⟨_,_,_,_,e⟩:=x; exact ⟨_,e⟩
  | tup xs=>obtain ⟨_,_,_,ob,e,_⟩:=x; exact ⟨_,e⟩
  | dK kvs=>obtain ⟨_,_,_,_,o,_,_,e,_⟩:=x; exact ⟨_,e⟩
  | dT kvs=>obtain ⟨_,_,_,_,o,_,_,e,_⟩:=x; exact ⟨_,e⟩
  | set S n=>obtain ⟨o,_,_,_,e,_⟩:=x; exact ⟨_,e⟩
  | ins C dx fs=>obtain ⟨_,_,_,e,_⟩:=x; exact ⟨_,e⟩
  | own y=>obtain ⟨_,e⟩:=x; exact ⟨_,e⟩
  | xd fs=>obtain ⟨_,⟨_,_,_,e,_⟩,_⟩:=x; exact ⟨_,e⟩
  | rng lo hi=>obtain ⟨_,_,_,e⟩:=x; exact ⟨_,e⟩
  | frz ob u=>obtain ⟨e,_⟩:=x; exact ⟨_,e⟩
  | tbl ps=>exact ⟨_,(show h.get? a=some _ from x)⟩
  | met f y=>exact ⟨_,(show h.get? a=some _ from x)⟩
  | ext φ=>obtain ⟨_,e,_⟩:=x; exact e
structure Fly (P:Program) (w:World) (outer:List Env) (H:Hp) (s:Shared) (a C:Addr) (H':Hp) (s':Shared):Prop where
  os:s'.os=s.os
  bare:AllBare s'.gens
  un:Un (frs outer) [] H H' s.heap s'.heap
  hok:HOk P w H' s'.heap
  nofr:∀ b∈frs outer,H' b=none
  fly:∃ (B:Heap) (t:Addr),Heap.FlyingW B outer a (.ref C) (.ref t) s'.heap∧∀ b o,s'.heap.get? b=some o→((∃ u,H' b=some u)∨∃ o₀,s.heap.get? b=some o₀)→b∉frs outer→B.get? b=some o
theorem fly_heap {P:Program} {w:World} {l:List Env} {H H':Hp} {h h1 h2 B:Heap} {a:Addr} {cls a0:Value} (un:Un (frs l) [] H H' h h1) (hok:HOk P w H' h1) (nofr:∀ b∈frs l,H' b=none)
    (ff:h1.FunFrames B l) (cov:∀ b o,h1.get? b=some o→((∃ u,H' b=some u)∨∃ o₀,h.get? b=some o₀)→b∉frs l→B.get? b=some o)
    (st:B.StaysIn h2) (up:h1.UpToSlots h2):Un (frs l) [] H H' h h2∧HOk P w H' h2:=by
  have fr:∀ b∈frs l,∀ o,h1.get? b=some o→∃ sl,h2.get? b=some { o with slots:=sl }:=fun b hb o e=>by
    obtain ⟨_,o',ho',hd⟩:=ff.mem hb
    rw [e] at ho'; cases ho'
    exact up b o e hd
  refine ⟨⟨fun b o q n hb hx=>?_,fun b o q n hb hx=>?_,un.free,fun b o q hx=>?_,un.tups,un.frzs,un.tbls⟩,fun b u q=>?_⟩
  · exact st _ _ (cov b o (un.keep b o q n hb hx) (.inr ⟨o,q⟩) hb)
  · obtain ⟨sl,e1⟩:=un.slot b o q n hb hx
    obtain ⟨sl',e2⟩:=fr b hb _ e1
    exact ⟨sl',e2⟩
  · obtain ⟨o',e1⟩:=un.there b o q hx
    by_cases hb:b∈frs l
    · obtain ⟨sl',e2⟩:=fr b hb _ e1
      exact ⟨_,e2⟩
    · exact ⟨o',st _ _ (cov b o' e1 (.inr ⟨o,q⟩) hb)⟩
  · refine (hok b u q).stay (fun c v hc e=>?_) (fun _ z=>z) fun _ _ z=>z
    have hc':∃ u,H' c=some u:=by
      rcases hc with rfl | hc
      · exact ⟨_,q⟩
      · exact ⟨_,hc⟩
    refine st _ _ (cov c v e (.inl hc') fun hm=>?_)
    obtain ⟨u',z⟩:=hc'
    rw [nofr c hm] at z; cases z
theorem Un.drop {fs:List Addr} {L:Addr} {H₀ H H':Hp} {h₀ h h':Heap} (a:Un fs [] H₀ H h₀ h) (b:Un (L::fs) [] H H' h h') (hL:h₀.objs.size≤L):Un fs [] H₀ H' h₀ h':=by
  have nL:∀ c o,h₀.get? c=some o→c≠L:=fun c o q z=>absurd (Heap.lt_size q) (by rw [z]; exact Nat.not_lt.mpr hL)
  have nx:∀ c:Addr,c∉([]:List Addr):=fun c z=>absurd z (by simp)
  refine ⟨fun c o q n hc hx=>?_,fun c o q n hc hx=>?_,fun c o q n hx=>?_,fun c o q hx=>?_,fun c xs q=>b.tups c xs (a.tups c xs q),fun c o u q=>b.frzs c o u (a.frzs c o u q),fun c ps q=>?_⟩
  · refine b.keep c o (a.keep c o q n hc hx) (a.free c o q n hx) (fun z=>?_) hx
    rcases List.mem_cons.mp z with z | z
    · exact nL c o q z
    · exact hc z
  · obtain ⟨sl,e1⟩:=a.slot c o q n hc hx
    obtain ⟨sl',e2⟩:=b.slot c _ e1 (a.free c o q n hx) (List.mem_cons_of_mem _ hc) hx
    exact ⟨sl',e2⟩
  · obtain ⟨o',e1⟩:=a.there c o q hx
    exact b.free c o' e1 (a.free c o q n hx) hx
  · obtain ⟨o',e1⟩:=a.there c o q hx
    exact b.there c o' e1 hx
  · obtain ⟨m1,e1⟩:=a.tbls c ps q
    obtain ⟨m2,e2⟩:=b.tbls c _ e1
    exact ⟨m1++m2,by rw [e2,Array.append_assoc]⟩
def CXX (P:Program) (w:World):CXT:=fun outer H s E e s'=>∃ a C H',e=.ref a∧Fly P w outer H s a C H' s'∧E (.ref C) none H'
section
variable {P:Program} {w:World} {K:PySem.W.Frag} {mg:Str→Option Value} {base:Heap} {N:List Str} {qual:Str} {scope:Scope} {f:Addr} {cd:Value} {A:Around} {outer:List Env} {s₀:Shared} {H₀:Hp} {E:XK}
theorem leave_on {pins:List (Addr×Obj)} {σ:St} {H H':Hp} {s s':Shared} {a C:Addr} (I:Inv (cxOf (CXX P w) P w K mg base N qual scope f cd A outer s₀ H₀ E) pins σ H s)
    (x:Fly P w (envOfC qual scope s₀.heap.objs.size f cd::outer) H s a C H' s') (q:E (.ref C) none H'):(cxOf (CXX P w) P w K mg base N qual scope f cd A outer s₀ H₀ E).xe (.ref a) s':=by
  obtain ⟨B,t,fl,cov⟩:=x.fly
  have hL:s₀.heap.objs.size≤(envOfC qual scope s₀.heap.objs.size f cd).locals:=I.ok.above
  show wpAny _ _ _ (fun _ s''=>CXX P w outer H₀ s₀ E (.ref a) s'') _ _
  refine wpAny_leaves_onW I.ok.frames rfl fl fun h' x1 x2=>⟨a,C,H',rfl,?_,q⟩
  obtain ⟨u2,k2⟩:=fly_heap (a:=a) (cls:=.ref C) (a0:=.ref t) x.un x.hok x.nofr fl.2.2.1 cov x1.1 x2
  have u3:Un (frs outer) [] H₀ H' s₀.heap h':=Un.drop I.base u2 (Nat.le_refl _)
  refine ⟨x.os.trans I.os,x.bare,u3,k2,fun b hb=>x.nofr b (List.mem_cons_of_mem _ hb),B,t,x1,fun b o e hc hb=>?_⟩
  have nx:b∉([]:List Addr):=by simp
  have key:∀ o',s'.heap.get? b=some o'→((∃ u,H' b=some u)∨∃ o₀,s.heap.get? b=some o₀)→b∉frs (envOfC qual scope s₀.heap.objs.size f cd::outer)→B.get? b=some o:=fun o' e' hc' hm=>by
    have z:=cov b o' e' hc' hm
    rw [x1.1 _ _ z] at e; cases e; exact z
  rcases hc with ⟨u,hu⟩ | ⟨o₀,e0⟩
  · obtain ⟨o',e'⟩:=ob_has (x.hok b u hu)
    refine key o' e' (.inl ⟨u,hu⟩) fun hm=>?_
    rw [x.nofr b hm] at hu; cases hu
  · obtain ⟨o1,e1⟩:=I.base.there b o₀ e0 nx
    obtain ⟨o',e'⟩:=x.un.there b o1 e1 nx
    refine key o' e' (.inr ⟨o1,e1⟩) fun hm=>?_
    rcases List.mem_cons.mp hm with z | z
    · have:=Heap.lt_size e0
      rw [show b=s₀.heap.objs.size from z] at this
      exact Nat.lt_irrefl _ this
    · exact hb z
theorem leave_made {pins:List (Addr×Obj)} {σ:St} {H:Hp} {s:Shared} {e C:Addr} {h1:Heap} {vs:List Value} (I:Inv (cxOf (CXX P w) P w K mg base N qual scope f cd A outer s₀ H₀ E) pins σ H s)
    (hx:Heap.MadeExcOf s.heap h1 e (.ref C) vs) (q:E (.ref C) none H):(cxOf (CXX P w) P w K mg base N qual scope f cd A outer s₀ H₀ E).xe (.ref e) { s with heap:=h1 }:=by
  have ff:s.heap.FunFrames base (envOfC qual scope s₀.heap.objs.size f cd::outer):=I.stack
  have free:∀ b∈frs (envOfC qual scope s₀.heap.objs.size f cd::outer),H b=none:=I.stkFree
  have hin:∀ env∈(envOfC qual scope s₀.heap.objs.size f cd::outer),∀ b,env.frame=some b→b∈frs (envOfC qual scope s₀.heap.objs.size f cd::outer):=fun env he b hb=>List.mem_filterMap.mpr ⟨env,he,hb⟩
  show wpAny _ _ _ (fun _ s''=>CXX P w outer H₀ s₀ E (.ref e) s'') _ _
  refine wpAny_leaves_madeW (base:=PySem.W.hideAll s.heap (frs (envOfC qual scope s₀.heap.objs.size f cd::outer))) (h:=s.heap) I.ok.frames rfl (fun b o z=>PySem.W.of_hideAll _ z) (PySem.W.funFrames_hide ff hin) hx fun h' t x1 x2 x3 x4=>⟨e,C,H,rfl,?_,q⟩
  have cov:∀ b o,s.heap.get? b=some o→((∃ u,H b=some u)∨∃ o₀,s.heap.get? b=some o₀)→b∉frs (envOfC qual scope s₀.heap.objs.size f cd::outer)→(PySem.W.hideAll s.heap (frs (envOfC qual scope s₀.heap.objs.size f cd::outer))).get? b=some o :=
    fun b o z _ hm=>PySem.W.hideAll_get _ z hm
  have up:s.heap.UpToSlots h':=(Heap.UpToSlots.of_keeps hx.keeps).trans x4
  obtain ⟨u2,k2⟩:=fly_heap (a:=e) (cls:=.ref C) (a0:=.ref t) (P:=P) (w:=w) (H:=H) (H':=H) (h:=s.heap) (h1:=s.heap) (l:=envOfC qual scope s₀.heap.objs.size f cd::outer) (Un.refl) I.hok free (PySem.W.funFrames_hide ff hin) cov x1.1 up
  have u3:Un (frs outer) [] H₀ H s₀.heap h':=Un.drop I.base u2 (Nat.le_refl _)
  refine ⟨I.os,I.bare,u3,k2,fun b hb=>free b (List.mem_cons_of_mem _ hb),_,t,x1,fun b o z hc hb=>?_⟩
  have nx:b∉([]:List Addr):=by simp
  have key:∀ o',s.heap.get? b=some o'→b∉frs (envOfC qual scope s₀.heap.objs.size f cd::outer)→(PySem.W.hideAll s.heap (frs (envOfC qual scope s₀.heap.objs.size f cd::outer))).get? b=some o:=fun o' e' hm=>by
    have y:=PySem.W.hideAll_get (frs (envOfC qual scope s₀.heap.objs.size f cd::outer)) e' hm
    rw [x1.1 _ _ y] at z; cases z; exact y
  rcases hc with ⟨u,hu⟩ | ⟨o₀,e0⟩
  · obtain ⟨o',e'⟩:=ob_has (I.hok b u hu)
    refine key o' e' fun hm=>?_
    rw [free b hm] at hu; cases hu
  · obtain ⟨o1,e1⟩:=I.base.there b o₀ e0 nx
    refine key o1 e1 fun hm=>?_
    rcases List.mem_cons.mp hm with z | z
    · have:=Heap.lt_size e0
      rw [show b=s₀.heap.objs.size from z] at this
      exact Nat.lt_irrefl _ this
    · exact hb z
end
end L2.PU
namespace L2.PU
open PySem PySem.Spec PyProof.Rows
section
variable {X:Cx} {B:Bd} {W:Nat→Hp→Prop} {ca:Nat→Addr}
theorem PS.nox {X:Cx} {st:Stmt} {t:TS} (h:PS X.nox st t):PS X st t:=fun pins s σ H D I hw =>
  wpAny_mono (h pins s σ H D (I.wish _) hw) (fun _ _ q=>q.unwish) fun _ _ z=>False.elim z
theorem PE.no {e:Expr}:PE X e (fun _ _ _=>False):=fun _ _ _ _ _ _ h=>h.elim
theorem PSs.no {st:List Stmt}:PSs X st (fun _ _ _=>False):=fun _ _ _ _ _ _ h=>h.elim
theorem PSs.or {e:List Stmt} {t u:TS} (h:PSs X e t) (k:PSs X e u):PSs X e (fun D σ H=>t D σ H∨u D σ H):=fun pins s σ H Q I q=>q.elim (h pins s σ H Q I) (k pins s σ H Q I)
def EW (ca:Nat→Addr) (W:Nat→Hp→Prop):XK:=fun v _ H'=>∃ c,v=.ref (ca c)∧W c H'
abbrev XOk (X:Cx) (ca:Nat→Addr) (W:Nat→Hp→Prop):Prop:=Passes (CXX X.prog X.w) X (EW ca W)
def XMd (X:Cx) (ca:Nat→Addr) (W:Nat→Hp→Prop):Prop:=∀ (pins:List (Addr×Obj)) (σ:St) (H:Hp) (s:Shared) (c:Nat) (vs:List Value) (h':Heap) (e:Addr),Inv X pins σ H s→Heap.MadeExcOf s.heap h' e (.ref (ca c)) vs→W c H→X.xe (.ref e) { s with heap:=h' }
def tX (K:PySem.W.Frag) (B:Bd) (W:Nat→Hp→Prop) (g:En→Option Nat):St→Hp→Prop:=fun σ H=>∃ F η c,SR K B F H σ η∧g η=some c∧∀ F' H',Gr B.F B.H F' H'→W c H'
def EX (X:Cx) (B:Bd) (W:Nat→Hp→Prop) (e:Expr) (g:En→Option Nat):Prop:=PE X e (fun σ H _=>tX X.K B W g σ H)
def AX (X:Cx) (B:Bd) (W:Nat→Hp→Prop) (e:List Expr) (g:En→Option Nat):Prop:=PA X e (fun σ H _=>tX X.K B W g σ H)
def SX (X:Cx) (B:Bd) (W:Nat→Hp→Prop) (st:Stmt) (g:En→Option Nat):Prop:=PS X st (fun _ σ H=>tX X.K B W g σ H)
def SsX (X:Cx) (B:Bd) (W:Nat→Hp→Prop) (st:List Stmt) (g:En→Option Nat):Prop:=PSs X st (fun _ σ H=>tX X.K B W g σ H)
def spX (K:PySem.W.Frag) (ca:Nat→Addr) (fx:List PyData→Option Nat):Sp:=fun vs H _ E=>∃ F ds c,Same F H∧RelL K F ds vs∧fx ds=some c∧∀ F' H',Gr F H F' H'→E (.ref (ca c)) none H'
variable {st:Stmt} {sts sts':List Stmt} {e a b:Expr} {es:List Expr} {f:En→Option PyData} {fs:En→Option (List PyData)} {g g':En→Option Nat} {u:En→Option Out} {p:En→Option Bool} {pos pos':Pos}
def xSeq (u:En→Option Out) (g:En→Option Nat):En→Option Nat:=fun η=>(u η).bind fun o=>match o with
  | .nx η'=>g η'
  | _=>none
def xOr (g g':En→Option Nat):En→Option Nat:=fun η=>match g η with
  | some c=>some c
  | none=>g' η
def xIf (p:En→Option Bool) (g g':En→Option Nat):En→Option Nat:=fun η=>(p η).bind fun b=>if b=true then g η else g' η
def xNo:En→Option Nat:=fun _=>none
theorem SsX.no:SsX X B W sts xNo:=PSs.imp PSs.no fun σ H Q ⟨F,η,c,sr,h,q⟩=>by cases h
theorem tX_or {K:PySem.W.Frag} {σ:St} {H:Hp} (h:tX K B W (xOr g g') σ H):tX K B W g σ H∨tX K B W g' σ H:=by
  obtain ⟨F,η,c,sr,h,q⟩:=h
  unfold xOr at h
  split at h
  · rename_i c' e
    cases h
    exact .inl ⟨F,η,_,sr,e,q⟩
  · exact .inr ⟨F,η,c,sr,h,q⟩
theorem SsX.one (h:SX X B W st g):SsX X B W (st::sts) g:=PSs.imp (pss_cons h PSs.no) fun _ _ _ q=>q
theorem SsX.cons (h:S X B st u) (k:SsX X B W sts g):SsX X B W (st::sts) (xSeq u g):=PSs.imp (pss_cons h k) fun D σ H ⟨F,η,c,sr,h,q⟩=>by
  obtain ⟨o,h1,h2⟩:=bind_some h
  refine ⟨F,η,o,sr,h1,?_⟩
  cases o with
  | nx η'=>exact fun σ' F' H' r _=>⟨F',η',c,r,h2,q⟩
  | rt d=>cases h2
  | bk η'=>cases h2
  | ct η'=>cases h2
theorem SsX.or (h:SsX X B W sts g) (k:SsX X B W sts g'):SsX X B W sts (xOr g g'):=PSs.imp (PSs.or h k) fun _ _ _ q=>tX_or q
theorem SX.ret (h:EX X B W e g):SX X B W (.Return (some e) pos) g:=PS.imp (ps_ret h) fun _ _ _ q=>q
theorem SX.set (i:Nat) {x:Str} (hN:X.N.Nodup) (he:EX X B W e g) (hi:X.N[i]?=some x:=by rfl) (hx:Loc X.env.scope x:=by first | exact Or.inl rfl | exact Or.inr rfl) (hs:swapsWith e (some (.Name x pos')) pos.line X.env=pure false:=by rfl)
    (hf:X.fn x=true∨X.env.scope.names.lookup x=some .local:=by first | exact .inl rfl | exact .inr rfl):SX X B W (.Assign [.Name x pos'] e pos) g:=PS.imp (ps_set hN hi hx he hs hf) fun _ _ _ q=>q
theorem SX.ifS (hc:T X B e p) (ha:SsX X B W sts g) (hb:SsX X B W sts' g'):SX X B W (.If e sts sts' pos) (xIf p g g'):=PS.imp (ps_if hc ha hb) fun D σ H ⟨F,η,c,sr,h,q⟩=>by
  obtain ⟨b,h1,hd⟩:=bind_some h
  refine ⟨F,η,b,sr,h1,fun F1 H1 g1=>?_⟩
  cases b with
  | false =>
    rw [if_neg Bool.false_ne_true] at hd ⊢
    exact ⟨F1,η,c,sr.grow g1,hd,q⟩
  | true =>
    rw [if_pos rfl] at hd ⊢
    exact ⟨F1,η,c,sr.grow g1,hd,q⟩
theorem EX.call {k k':Nat} {fa:Addr} {fd:FuncData} {ps:List Str} {x:Str} {ppos:Pos} {fx:List PyData→Option Nat} (G:FnOk X.prog X.w X.K X.mg X.base (CXX X.prog X.w) k fa fd ps (spX X.K ca fx)) (hx:XOk X ca W) (hr:Room k' X.A) (hkk:k≤k') (hm:X.mg x=some (.ref fa))
    (hk:PySem.W.keepIn X.K (.ref fa)=true) (hb:Binds X.K fd ps []) (ha:A X B (e::es) fs) (hg:Gl X x:=by rfl) (hdb:(x==("__debug__" : Str))=false:=by decide) (he:starEach (e::es) X.env=(false,eval e X.env)::starEach es X.env:=by exact star_of rfl) (hpl:(backTo pos (starEach es X.env)).any (·.1)=false:=by exact plain_of rfl) :
    EX X B W (.Call (.Name x ppos) (e::es) [] pos) (fun η=>(fs η).bind fx):=PE.imp (pe_call G (hr.mono hkk) hg hm hk hb .nil hx ha hdb he hpl) fun σ H Q ⟨F,η,c,sr,h,q⟩=>by
  obtain ⟨ds,h1,h2⟩:=bind_some h
  refine ⟨F,η,ds,sr,h1,fun vs F1 H1 g1 rl=>?_⟩
  show spX X.K ca fx (vs++[]) H1 Q (EW ca W)
  rw [List.append_nil]
  exact ⟨F1,ds,c,g1.fh,rl,h2,fun F' H' g2=>⟨c,rfl,q F' H' ((sr.gr.trans g1).trans g2)⟩⟩
theorem AX.head (h:EX X B W e g) (hs:starEach (e::es) X.env=(false,eval e X.env)::starEach es X.env:=by exact star_of rfl) (hr:PA X es (fun _ _ _=>False)):AX X B W (e::es) g:=by
  intro pos pins s σ H Q I q
  exact pa_cons h hr hs pos pins s σ H Q I q
theorem AX.tail (ha:E X B e f) (hr:AX X B W es g) (hs:starEach (e::es) X.env=(false,eval e X.env)::starEach es X.env:=by exact star_of rfl):AX X B W (e::es) (fun η=>(f η).bind fun _=>g η):=by
  intro pos pins s σ H Q I q
  refine pa_cons ha hr hs pos pins s σ H Q I ?_
  obtain ⟨F,η,c,sr,h,q⟩:=q
  obtain ⟨d,h1,h2⟩:=bind_some h
  exact ⟨F,η,d,sr,h1,fun v F' H' gr _=>⟨F',η,c,sr.grow gr,h2,q⟩⟩
theorem PA.no {es:List Expr}:PA X es (fun _ _ _=>False):=fun _ _ _ _ _ _ _ h=>h.elim
theorem EX.lst (h:AX X B W es g):EX X B W (.List es pos) g:=PE.imp (pe_lst h) fun _ _ _ q=>q
end
end L2.PU
namespace L2.PU
open PySem PySem.Spec PyProof.Rows
section
variable {X:Cx} {B:Bd} {W:Nat→Hp→Prop} {ca:Nat→Addr} {e a b c:Expr} {es:List Expr} {f:En→Option PyData} {fs:En→Option (List PyData)} {g g':En→Option Nat} {p:En→Option Bool} {pos pos':Pos}
theorem EX.ix (h:EX X B W a g) (hs:PlainIx b:=by intro _ _; rfl):EX X B W (.Subscript a b pos) g:=PE.imp (pe_ix ix_list h PE.no hs) fun _ _ _ q=>q
theorem EX.addL (h:EX X B W a g):EX X B W (.BinOp a .Add b pos) g:=PE.imp (pe_op op_add h PE.no) fun _ _ _ q=>q
end
end L2.PU
namespace L2.PU
open PySem PySem.Spec PyProof.Rows
section
variable {X:Cx} {B:Bd} {W:Nat→Hp→Prop} {ca:Nat→Addr} {e a b c:Expr} {f:En→Option PyData} {p q r:En→Bool} {pos pos':Pos}
def tSS (K:PySem.W.Frag) (B:Bd) (p:En→Bool):TE:=fun σ H Q=>∃ F η,SR K B F H σ η∧p η=true∧∀ y F' H',Gr F H F' H'→y.length≤2000→Q (.str y) H'
def tAny (K:PySem.W.Frag) (B:Bd) (p:En→Bool):TE:=fun σ H Q=>∃ F η,SR K B F H σ η∧p η=true∧∀ v F' H',Gr F H F' H'→Q v H'
def ES (X:Cx) (B:Bd) (e:Expr) (p:En→Bool):Prop:=PE X e (tSS X.K B p)
def EA (X:Cx) (B:Bd) (e:Expr) (p:En→Bool):Prop:=PE X e (tAny X.K B p)
def pYes:En→Bool:=fun _=>true
def pRep (f:En→Option PyData):En→Bool:=fun η=>match f η with
  | some (.str x)=>decide (x.length≤50)&&x.cps.toList.all fun c=>decide (c < 16 ^ 8)
  | _=>false
def pFmI (f:En→Option PyData):En→Bool:=fun η=>match f η with
  | some (.int i)=>decide (i.natAbs.log2 < 1920)&&decide ((Str.ofString (toString i)).length≤1000)
  | _=>false
theorem two_line:2000≤sizeLine:=by decide
theorem ES.lit {x:Str} {j} (h:decide (x.length≤1000)=true):ES X B (.Constant (.str x) j pos) pYes:=PE.imp pe_str fun σ H Q ⟨F,η,sr,_,q⟩=>q x F H (.refl sr.same) (by have:=of_decide_eq_true h; omega)
theorem ES.repr (h:E X B e f):ES X B (.FormattedValue e 114 none pos) (pRep f):=by
  intro pins s σ H Q I ⟨F,η,sr,hp,q⟩
  unfold pRep at hp
  split at hp
  · rename_i x ex
    rw [Bool.and_eq_true] at hp
    have hl0:=of_decide_eq_true hp.1
    have hl:=PySem.StrLaws.reprText_len x fun c hc=>of_decide_eq_true (List.all_eq_true.mp hp.2 c hc)
    refine wpAny_FormattedValue_repr (thn (h pins s σ H (fun v H1=>v=.str x∧∃ F1,Gr F H F1 H1) I ⟨F,η,.str x,sr,ex,fun v F1 H1 g1 rl=>⟨rl.str,F1,g1⟩⟩) fun u s1 ⟨v,H1,I1,rv,ev,F1,g1⟩=>?_)
    subst ev
    obtain ⟨t,rfl⟩:=rv
    refine wpAny_pyReprObj_gives (T := "str") (typeIs_str _ _ _) PyProof.Rows.slot_str_repr PyProof.Rows.entry_str_repr (PyProof.Rows.args_str_repr _) (gives_str_repr x t) ?_ rfl (by have:=two_line; omega)
    exact PyProof.Rows.formatField_str (fun t' tk=>⟨.str _,H1,(I1.tok _).tok _,⟨t',rfl⟩,q _ F1 H1 g1 (by omega)⟩) (by have:=two_line; omega)
  · cases hp
theorem ES.fmtI (h:E X B e f):ES X B (.FormattedValue e (-1) none pos) (pFmI f):=by
  intro pins s σ H Q I ⟨F,η,sr,hp,q⟩
  unfold pFmI at hp
  split at hp
  · rename_i i ex
    rw [Bool.and_eq_true] at hp
    have hl:=of_decide_eq_true hp.2
    refine PyProof.Rows.FormattedValue_plain (thn (h pins s σ H (fun v H1=>v=.int i∧∃ F1,Gr F H F1 H1) I ⟨F,η,.int i,sr,ex,fun v F1 H1 g1 rl=>⟨rl.int,F1,g1⟩⟩) fun u s1 ⟨v,H1,I1,rv,ev,F1,g1⟩=>?_)
    subst ev
    obtain ⟨t,rfl⟩:=rv
    exact PyProof.Rows.formatField_int_small (of_decide_eq_true hp.1) ⟨.str _,H1,I1.tok _,⟨_,rfl⟩,q _ F1 H1 g1 (by omega)⟩
  · cases hp
theorem EA.of (h:E X B e f):EA X B e (fun η=>(f η).isSome):=PE.imp h fun σ H Q ⟨F,η,sr,hp,q⟩=>by
  obtain ⟨d,hd⟩:=Option.isSome_iff_exists.mp hp
  exact ⟨F,η,d,sr,hd,fun v F' H' g1 _=>q v F' H' g1⟩
theorem len_app (x y:Str):(x++y).length=x.length+y.length:=strLen_append x y
theorem EA.js2 (ha:ES X B a p) (hb:ES X B b q):EA X B (.JoinedStr [a,b] pos) (fun η=>p η&&q η):=by
  intro pins s σ H Q I ⟨F,η,sr,hp,k⟩
  rw [Bool.and_eq_true] at hp
  refine wpAny_JoinedStr (thn (ha pins s σ H (fun v H1=>∃ y F1,v=.str y∧y.length≤2000∧Gr F H F1 H1) I ⟨F,η,sr,hp.1,fun y F1 H1 g1 l=>⟨y,F1,rfl,l,g1⟩⟩) fun u s1 ⟨v,H1,I1,rv,y,F1,ev,l1,g1⟩=>?_)
  subst ev
  obtain ⟨t,rfl⟩:=rv
  have z:=two_line
  have z2:4000≤sizeLine:=by decide
  refine ⟨y,t,rfl,by rw [len_app]; show 0+_≤_; omega,thn (hb pins s1 σ H1 (fun v H2=>∃ y F2,v=.str y∧y.length≤2000∧Gr F1 H1 F2 H2) I1 ⟨F1,η,sr.grow g1,hp.2,fun y F2 H2 g2 l=>⟨y,F2,rfl,l,g2⟩⟩) fun u s2 ⟨v,H2,I2,rv,y2,F2,ev,l2,g2⟩=>?_⟩
  subst ev
  obtain ⟨t2,rfl⟩:=rv
  have hl:(Str.empty++y++y2).length≤sizeLine:=by rw [len_app,len_app]; show 0+_+_≤_; omega
  exact ⟨y2,t2,rfl,hl,hl,⟨.str _,H2,I2.tok _,⟨_,rfl⟩,k _ F2 H2 (g1.trans g2)⟩⟩
theorem EA.js3 (ha:ES X B a p) (hb:ES X B b q) (hc:ES X B c r):EA X B (.JoinedStr [a,b,c] pos) (fun η=>p η&&q η&&r η):=by
  intro pins s σ H Q I ⟨F,η,sr,hp,k⟩
  rw [Bool.and_eq_true,Bool.and_eq_true] at hp
  refine wpAny_JoinedStr (thn (ha pins s σ H (fun v H1=>∃ y F1,v=.str y∧y.length≤2000∧Gr F H F1 H1) I ⟨F,η,sr,hp.1.1,fun y F1 H1 g1 l=>⟨y,F1,rfl,l,g1⟩⟩) fun u s1 ⟨v,H1,I1,rv,y,F1,ev,l1,g1⟩=>?_)
  subst ev
  obtain ⟨t,rfl⟩:=rv
  have z2:8000≤sizeLine:=by decide
  refine ⟨y,t,rfl,by rw [len_app]; show 0+_≤_; omega,thn (hb pins s1 σ H1 (fun v H2=>∃ y F2,v=.str y∧y.length≤2000∧Gr F1 H1 F2 H2) I1 ⟨F1,η,sr.grow g1,hp.1.2,fun y F2 H2 g2 l=>⟨y,F2,rfl,l,g2⟩⟩) fun u s2 ⟨v,H2,I2,rv,y2,F2,ev,l2,g2⟩=>?_⟩
  subst ev
  obtain ⟨t2,rfl⟩:=rv
  refine ⟨y2,t2,rfl,by rw [len_app,len_app]; show 0+_+_≤_; omega,thn (hc pins s2 σ H2 (fun v H3=>∃ y F3,v=.str y∧y.length≤2000∧Gr F2 H2 F3 H3) I2 ⟨F2,η,(sr.grow g1).grow g2,hp.2,fun y F3 H3 g3 l=>⟨y,F3,rfl,l,g3⟩⟩) fun u s3 ⟨v,H3,I3,rv,y3,F3,ev,l3,g3⟩=>?_⟩
  subst ev
  obtain ⟨t3,rfl⟩:=rv
  have hl:(Str.empty++y++y2++y3).length≤sizeLine:=by rw [len_app,len_app,len_app]; show 0+_+_+_≤_; omega
  exact ⟨y3,t3,rfl,hl,hl,⟨.str _,H3,I3.tok _,⟨_,rfl⟩,k _ F3 H3 ((g1.trans g2).trans g3)⟩⟩
end
abbrev bmVE:List Value:=[.type "ValueError", .type "Exception", .type "BaseException", .type "object"]
theorem exc_obj {K:PySem.W.Frag} {h:Heap} {C:Addr} {bmB:List Value} {newId:String} (X:K.In h) (q:PySem.W.excIn K C bmB newId=true) :
    ∃ bm N nm qn bs hdct sn sub ab col dd k0 k1 k2 k3 k5 mN,h.get? C=some (excClassObj nm qn C N bs bm hdct sn sub ab col dd k0 k1 k2 k3 k5 newId)∧h.Ns N mN∧mN "__init__" = none∧OwnTail h bmB bm:=by
  rw [PySem.W.excIn] at q
  split at q
  case h_2=>cases q
  case h_1 dd cd sl ho =>
    split at q
    case h_2=>cases q
    case h_1 C' bm k0 k1 k2 k3 n k5 hm hs =>
      rw [Bool.and_eq_true,Bool.and_eq_true,Bool.and_eq_true,Bool.and_eq_true,Bool.and_eq_true] at q
      obtain ⟨⟨⟨⟨⟨q1,q2⟩,q3⟩,q4⟩,q5⟩,q6⟩:=q
      obtain rfl:=beq_iff_eq.mp q1
      obtain rfl:=beq_iff_eq.mp q2
      have q6:=beq_iff_eq.mp q6
      cases cd with
      | mk nm bs mro ns qn hd sn sub ab col del =>
        have hm:mro=_:=hm
        subst hm
        have q3:del=false:=by cases del with | false=>rfl | true=>cases q3
        subst q3
        have e:sl=#[k0,k1,k2,k3,some (.builtin n),k5]:=by rw [← Array.toList_inj]; exact hs
        subst e
        refine ⟨bm,ns,nm,qn,bs,hd,sn,sub,ab,col,dd,k0,k1,k2,k3,k5,_,X _ _ ho,.of_isNs (PySem.W.isNs_of_in X q5),PySem.W.nsMap_none_of_in X q5 q6,PySem.W.tail_of_in X q4⟩
section
variable {X:Cx} {B:Bd} {W:Nat→Hp→Prop} {ca:Nat→Addr} {e:Expr} {p:En→Bool} {pos np cpos:Pos} {x:Str} {k:Nat}
theorem SX.raise (c:Nat) (hx:XMd X ca W) (hc:X.calm=true) (hm:X.mg x=some (.ref (ca c))) (hex:PySem.W.excIn X.K (ca c) bmVE "ValueError.__new__" = true) (ha:EA X B e p) (hg:Gl X x:=by rfl)
    (hs:starEach [e] X.env=[(false,eval e X.env)]:=by exact star_of rfl) (hdb:(x==("__debug__" : Str))=false:=by decide) :
    SX X B W (.Raise (some (.Call (.Name x np) [e] [] cpos)) none pos) (fun η=>if p η=true then some c else none):=by
  intro pins s σ H D I ⟨F,η,c',sr,h,q⟩
  dsimp only at h
  split at h
  case isFalse=>cases h
  case isTrue hp =>
  obtain rfl:c=c':=Option.some.inj h
  obtain ⟨bm,N,nm,qn,bs,hdct,sn,sub,ab,col,dd,k0,k1,k2,k3,k5,mN,hC,hN,hni,T⟩:=exc_obj I.kIn hex
  refine wpAny_Raise_call_subT (C:=ca c) (nm:=nm) (q:=qn) (N:=N) (bs:=bs) (bm:=bm) (hdct:=hdct) (sn:=sn) (sub:=sub) (ab:=ab) (col:=col) (dd:=dd) (k0:=k0) (k1:=k1) (k2:=k2) (k3:=k3) (k5:=k5) (newId := "ValueError.__new__") (mN:=mN)
    PySem.F.excBase_ValueError (T.hasType PySem.F.excBase_ValueError.hasBase) (I.ok.hd hc) (by rw [hs]; rfl) hni (ld_glob I hg hm ⟨rfl,?_⟩ hdb)
  have hp1:=pa_cons ha pa_nil hs cpos pins s σ H (fun vs H1=>vs.length=1∧∃ F1,Gr F H F1 H1) I ⟨F,η,sr,hp,fun v F1 H1 g1=>⟨rfl,F1,g1⟩⟩
  rw [hs] at hp1 ⊢
  refine Calls.evalArgs_plain (thn hp1 fun us s2 ⟨vs,H1,I1,rv,l1,F1,g1⟩=>?_)
  obtain ⟨bm2,N2,nm2,qn2,bs2,hdct2,sn2,sub2,ab2,col2,dd2,j0,j1,j2,j3,j5,mN2,hC2,hN2,hni2,T2⟩:=exc_obj I1.kIn hex
  have keep:s2.heap.get? (ca c)=some (excClassObj nm qn (ca c) N bs bm hdct sn sub ab col dd k0 k1 k2 k3 k5 "ValueError.__new__")∧s2.heap.Ns N mN∧OwnTail s2.heap bmVE bm:=by
    have kin:=I.mod.kin
    obtain ⟨bm3,N3,nm3,qn3,bs3,hdct3,sn3,sub3,ab3,col3,dd3,i0,i1,i2,i3,i5,mN3,hC3,hN3,hni3,T3⟩:=exc_obj kin hex
    have e1:=I.bk _ _ hC3
    rw [hC] at e1
    have e2:=I1.bk _ _ hC3
    have hNN:N=N3∧bm=bm3:=by
      have e3:=Option.some.inj e1
      unfold excClassObj at e3
      injection e3 with _ _ e4 _
      injection e4 with e4
      injection e4 with _ _ e5 e6 _ _ _ _ _ _ _
      exact ⟨e6,(List.cons.inj e5).2⟩
    obtain ⟨rfl,rfl⟩:=hNN
    rw [← Option.some.inj e1] at e2
    have n1:=hN3.keeps I.bk
    have em:mN=mN3:=by
      obtain ⟨o1,es1,ep1,a1,a2,a3,a4⟩:=hN
      obtain ⟨o2,es2,ep2,b1,b2,b3,b4⟩:=n1
      rw [a1] at b1
      cases b1
      rw [a2] at b2
      cases b2
      funext y
      rw [← a4 y,← b4 y]
    subst em
    exact ⟨e2,hN3.keeps I1.bk,T3.keeps I1.bk⟩
  exact ⟨rfl,by show us.length≤_; rw [← rv.length,l1]; decide,keep.1,keep.2.1,keep.2.2,fun h' ex hx'=>hx pins σ H1 s2 c us h' ex I1 hx' (q F1 H1 (sr.gr.trans g1))⟩
end
def runX (n m:Nat) (g:En→Option Nat) (ds:List PyData):Option Nat:=if ds.length=n then g (ds.map Sl.val++List.replicate (m - n) .un) else none
section
variable {P:Program} {w:World} {K:PySem.W.Frag} {mg:Str→Option Value} {base:Heap} {ca:Nat→Addr}
theorem fnX {x qual:Str} {st:Stmt} {f:Addr} {fd:FuncData} {N ps:List Str} {k:Nat} {g:En→Option Nat} (Fn:Fun K x qual st f fd) (Sc:FnScope N ps (defScope st))
    (hb:∀ (cdv:Value) (A:Around) (outer:List Env) (s:Shared) (H:Hp) (E:XK) (F:Hp) (W:Nat→Hp→Prop),Room k (A.deeper (envOfC qual (defScope st) s.heap.objs.size f cdv)) →
      XOk (cxOf (CXX P w) P w K mg base N qual (defScope st) f cdv A outer s H E) ca W→XMd (cxOf (CXX P w) P w K mg base N qual (defScope st) f cdv A outer s H E) ca W →
      SsX (cxOf (CXX P w) P w K mg base N qual (defScope st) f cdv A outer s H E) ⟨F,H⟩ W (defBody st) g) :
    FnOk P w K mg base (CXX P w) (k+1) f fd ps (spX K ca (runX ps.length N.length g)):=by
  have len:∀ {F:Hp} {ds:List PyData} {vs:List V} {c:Nat},RelL K F ds vs→runX ps.length N.length g ds=some c→ds.length=ps.length∧vs.length=ps.length:=fun {F ds vs d} r e=>by
    unfold runX at e
    split at e
    · rename_i hl
      exact ⟨hl,by rw [r.length]; exact hl⟩
    · cases e
  obtain ⟨oc,od,kV,doc,pm,an,cdv,ct,osl,rfl,lk,hcd⟩:=Fn.ex
  refine fn_of lk hcd Sc (fun vs H Q E h=>?_) fun A outer s H vs Q E hr h=>?_
  · obtain ⟨F,ds,c,_,r,e,_⟩:=h
    exact (len r e).2
  · obtain ⟨F,ds,c,sm,r,e,q⟩:=h
    obtain ⟨l1,l2⟩:=len r e
    refine ⟨_,hb cdv A outer s H E F (fun c H'=>E (.ref (ca c)) none H') hr (fun pins σ H1 s1 ev s2 I x=>?_) (fun pins σ H1 s1 c vs h' ev I x y=>leave_made I x y),?_⟩
    · obtain ⟨a,C,H',rfl,fl,c',ec,y⟩:=x
      cases ec
      exact leave_on I fl y
    · unfold runX at e
      rw [if_pos l1] at e
      refine ⟨F,_,c,⟨.refl sm,?_⟩,e,fun F' H' g1=>q F' H' g1⟩
      have z:=EnR.start (K:=K) (H:=H) (N:=N) r
      rw [l1] at z
      exact z
end
end L2.PU
namespace L2.PU
open PySem PySem.Spec PyProof.Rows
structure XCls (K:PySem.W.Frag) (D:Addr):Prop where
  ex:PySem.W.excIn K D bmVE "ValueError.__new__" = true
  ga:PySem.W.findIn K (.ref D) "__getattribute__" = some (some (.builtin "BaseException.__getattribute__"))
  gt:PySem.W.findIn K (.ref D) "__getattr__" = some none
  cl:PySem.W.findIn K (.ref D) "__class__" = some (some (.builtin "object.__class__"))
  gg:PySem.W.specialIn K (.builtin "object.__class__") "__get__" = some (some (.builtin "getset_descriptor.__get__"))
  tk:PySem.W.takesIn K (.builtin "object.__class__")=some true
  mb:PySem.W.mroIn K D (.type "BaseException")=some true
  mo:PySem.W.mroIn K D (.type "object")=some true
section
variable {P:Program} {w:World} {A:Around} {Z:Value→Shared→Prop} {s:Shared} {K:PySem.W.Frag} {x D:Addr}
def IsX (h:Heap) (x D:Addr):Prop:=∃ ox,h.get? x=some ox∧ox.cls=.ref D
theorem IsX.type {M:Model} {h:Heap} (I:IsX h x D):PySem.W.Looks M h (typeOf (.ref x)) (.ref D):=by
  obtain ⟨ox,h1,h2⟩:=I
  exact h2 ▸ (PySem.W.Looks.ld h1).andThen .now
theorem xfind {M:Model} {h:Heap} (c:XCls K D) (X:K.In h):PySem.W.Looks M h (Builtin.ObjectAttr.find (.ref x) (.ref D) "__class__") (.bind (.builtin "getset_descriptor.__get__") (.builtin "object.__class__")):=by
  refine (PySem.W.looks_findIn X c.cl).andThen ((show PySem.W.Looks M h (Builtin.ObjectAttr.getOf (some (.builtin "object.__class__"))) _ from PySem.W.looks_specialIn X c.gg).andThen ?_)
  exact (show PySem.W.Looks M h (Builtin.ObjectAttr.dataDescriptor? (some (.builtin "object.__class__")) (some (.builtin "getset_descriptor.__get__"))) (some (.builtin "getset_descriptor.__get__", .builtin "object.__class__")) from (PySem.W.looks_takesIn X c.tk).andThen .now).andThen (PySem.W.Looks.tag .now)
theorem xget {tp:Value} {R:Result→Shared→Prop} (c:XCls K D) (X:K.In s.heap) (I:IsX s.heap x D) (h:R (.ok (.ret (.ref D))) s):codeAny (model P w) A (.call (.builtin "getset_descriptor.__get__") ⟨[.builtin "object.__class__", .ref x,tp],[]⟩) R s:=by
  obtain ⟨hh,g,dr,t,os⟩:=s
  have L0:=I.type (M:=model P w)
  have L1:=PySem.W.looks_mroIn (M:=model P w) X c.mo
  refine codeAny_call_builtin PySem.W.KF.slot_gs.plain PySem.W.KF.entry_gs (PySem.W.KF.slot_gs.check _ _ _ _ _ _ _ _ PySem.W.KF.type_class (PySem.W.KF.args_gs _ _ _) ?_)
  unfold Builtin.«getset_descriptor.__get__» Builtin.Getset_descriptor.descrGet
  rw [PySem.W.dga_obj]; refine wpAny_bind (wpAny_pure ?_)
  unfold Builtin.Getset_descriptor.descrGetter Builtin.Getset_descriptor.descrCheckInstance Builtin.Getset_descriptor.descrNameAndClass isInstance
  simp only [PySem.W.KF.owner_class]; repeat lk
  refine ⟨Code.quiet_builtin _ (by decide +kernel),codeAny_builtin PySem.W.KF.entry_class ?_⟩
  unfold Builtin.«object.__class__» shownTypeOf; repeat lk
  exact h
theorem xentry {tk:Tok} {Q:Fin→Shared→Prop} (c:XCls K D) (X:K.In s.heap) (I:IsX s.heap x D) (h:Q (.done (.ret (.ref D))) s) :
    wpAny (model P w) A (Builtin.«object.__getattribute__» ⟨[.ref x,.str "__class__" tk],[]⟩) Q Z s:=by
  obtain ⟨hh,g,d,t,os⟩:=s
  have L0:=I.type (M:=model P w)
  have L1:=xfind (x:=x) (M:=model P w) c X
  refine wpAny_bind (wpAny_pure (wpAny_bind (wpAny_pure (wpAny_bind (L0.at (wpAny_bind (L1.at ?_)))))))
  show wpAny _ _ (holding [Value.builtin "object.__class__"] (call (.builtin "getset_descriptor.__get__") [.builtin "object.__class__", .ref x,.ref D]) >>= ret) _ _ _
  exact wpAny_bind (wpAny_holding (wpAny_call (xget c X I (wpAny_pure h))))
theorem xcall {tk:Tok} {R:Result→Shared→Prop} (c:XCls K D) (X:K.In s.heap) (I:IsX s.heap x D) (h:R (.ok (.ret (.ref D))) s) :
    codeAny (model P w) A (.call (.builtin "BaseException.__getattribute__") ⟨[.ref x,.str "__class__" tk],[]⟩) R s:=by
  refine codeAny_call_builtin PySem.F.attr_ValueError.ga.plain PySem.F.entry_bexc_ga ?_
  have L0:=I.type (M:=model P w)
  have L1:=PySem.W.looks_mroIn (M:=model P w) X c.mb
  have hk:builtinKind "BaseException.__getattribute__" = some .slot:=by decide +kernel
  have hs:splitId "BaseException.__getattribute__" = some ("BaseException", "__getattribute__"):=by decide +kernel
  have ha:=PySem.F.args_bexc_ga (.ref x) (.str "__class__" tk)
  simp only [checkBuiltinCall,hk,hs]
  refine wpAny_bind ?_
  have LI:PySem.W.Looks (model P w) s.heap (isInstance (.ref x) (.type "BaseException")) true:=L0.andThen L1
  refine LI.at ?_
  rw [if_neg (by decide)]
  unfold argsOk at ha
  revert ha
  generalize Manifest.signature? "BaseException.__getattribute__" = sg
  intro ha
  cases sg with
  | none=>exact wpAny_pure (xentry c X I h)
  | some sig =>
    have ha:Bind.checkArgs "BaseException.__getattribute__" sig ⟨[.ref x,.str "__class__" tk],[]⟩=pure ():=ha
    dsimp only
    rw [ha]
    exact wpAny_pure (xentry c X I h)
theorem xclass {Q:Option Value→Shared→Prop} (c:XCls K D) (X:K.In s.heap) (I:IsX s.heap x D) (h:Q (some (.ref D)) { s with toks:=s.toks+1 }):wpAny (model P w) A (getAttr? (.ref x) "__class__") Q Z s:=by
  obtain ⟨hh,g,d,t,os⟩:=s
  have L0:=I.type (M:=model P w)
  have L1:=PySem.W.looks_findIn (M:=model P w) X c.ga
  have L2:=PySem.W.looks_findIn (M:=model P w) X c.gt
  have hb:=PySem.F.attr_ValueError.ga.bind (.ref x)
  unfold getAttr? getAttrBy? getAttrBy
  refine wpAny_bind (wpAny_mkText (wpAny_bind (wpAny_attempt (wpAny_holding (wpAny_bind (L0.at (wpAny_bind (L1.at ?_))))))))
  show wpAny _ _ (getAttrByItsOwn _ _ _ _ _ _) _ _ _
  unfold getAttrByItsOwn hookBefore callGetattribute boundAndCalled
  refine wpAny_bind (L2.at ?_)
  refine wpAny_bind (wpAny_attempt (wpAny_holding ?_))
  rw [if_neg (by decide),hb]
  refine wpAny_bind (wpAny_pure (wpAny_call (xcall c (s:=⟨hh,g,d,t+1,os⟩) X I ?_)))
  exact PySem.W.handed_on rfl (wpAny_pure h)
end
end L2.PU
namespace L2.PU
open PySem PySem.Spec PyProof.Rows
def ExcO (x D:Addr):HO:=.ext fun h=>IsX h x D
theorem inst_stay {x D:Addr} {h1 h2:Heap} (p:IsX h1 x D) (k:∀ o,h1.get? x=some o→h2.get? x=some o):IsX h2 x D:=by
  obtain ⟨ox,i1,i2⟩:=p
  exact ⟨ox,k _ i1,i2⟩
theorem exc_ok {P:Program} {w:World} {H:Hp} {h:Heap} {x D:Addr} (e:H x=some (ExcO x D)) (ok:HOk P w H h):IsX h x D:=by
  have z:=ok x _ e
  unfold ExcO at z
  exact z.1
theorem kitx_exc {K:PySem.W.Frag} {x D:Addr} (c:XCls K D):PySem.W.KitX K (.ref x) (.ref D) (fun h=>IsX h x D) where
  ty:=fun _ _ _ I=>I.type
  it:=fun M h X _=>by
    obtain ⟨bm,N,nm,qn,bs,hdct,sn,sub,ab,col,dd,k0,k1,k2,k3,k5,mN,hC,_⟩:=exc_obj X c.ex
    intro A' Q' E' s' k q
    unfold isType loadHead
    exact wpAny_bind (wpAny_loadPart (k _ _ hC) (wpAny_pure q))
  ne:=fun h tp dd its n sl X e=>by
    obtain ⟨bm,N,nm,qn,bs,hdct,sn,sub,ab,col,dd',k0,k1,k2,k3,k5,mN,hC,_⟩:=exc_obj X c.ex
    refine Bool.eq_false_iff.mpr fun q=>?_
    have q':D=tp:=by injection beq_iff_eq.mp q
    subst q'
    rw [hC] at e
    have e2:=Option.some.inj e
    unfold excClassObj at e2
    injection e2 with _ _ e3 _
    cases e3
  ca:=fun X I k=>xclass c X I k
section
variable {X:Cx} {pos pp ep tp:Pos} {en T:Str}
def rIsE (K:PySem.W.Frag):List V→Hp→VK→Prop:=fun vs H Q=>∃ x D c u b,vs=[.ref x,c]∧RelV c u∧H x=some (ExcO x D)∧XCls K D∧PySem.W.kitOne K (.ref D) u=some b∧Q (.bl b) H
theorem call_isE:CallR X (.builtin "isinstance") (rIsE X.K):=by
  intro pins s σ H xs us Q I r h
  obtain ⟨x,D,c,u,b,rfl,ru,hx,cl,hk,q⟩:=h
  obtain ⟨u1,u2,rfl,r1,r2⟩:=vals2 r
  cases r1
  have e:u2=u:=by
    cases c with
    | non=>exact (show u2=_ from r2).trans (show u=_ from ru).symm
    | bl b=>exact (show u2=_ from r2).trans (show u=_ from ru).symm
    | ref a=>exact (show u2=_ from r2).trans (show u=_ from ru).symm
    | ty n=>exact (show u2=_ from r2).trans (show u=_ from ru).symm
    | int i=>obtain ⟨t,rfl⟩:=ru; unfold PySem.W.kitOne PySem.W.kitCls at hk; split at hk <;> rename_i z <;> first | (cases hk; done) | (cases beq_iff_eq.mp z)
    | str i=>obtain ⟨t,rfl⟩:=ru; unfold PySem.W.kitOne PySem.W.kitCls at hk; split at hk <;> rename_i z <;> first | (cases hk; done) | (cases beq_iff_eq.mp z)
    | byt i=>obtain ⟨t,rfl⟩:=ru; unfold PySem.W.kitOne PySem.W.kitCls at hk; split at hk <;> rename_i z <;> first | (cases hk; done) | (cases beq_iff_eq.mp z)
    | flt i=>obtain ⟨t,rfl⟩:=ru; unfold PySem.W.kitOne PySem.W.kitCls at hk; split at hk <;> rename_i z <;> first | (cases hk; done) | (cases beq_iff_eq.mp z)
  subst e
  exact PySem.W.kia_one (kitx_exc cl) I.kIn (exc_ok hx I.hok) hk (fun z=>nomatch z) fun tk=>⟨.bl b,H,I.tok tk,rfl,q⟩
def tIsE (K:PySem.W.Frag) (u:Value):TE:=fun σ H Q=>∃ x D b,σ[0]?=some (some (.ref x))∧H x=some (ExcO x D)∧XCls K D∧PySem.W.kitOne K (.ref D) u=some b∧Q (.bl b) H
theorem pe_isO {C:Addr} (hm:X.mg "isinstance" = none) (hT:X.mg T=some (.ref C)) (hN:X.N[0]?=some en:=by rfl) (hv:Vis X.env.scope en:=by first | exact Or.inl rfl | exact Or.inr (Or.inl rfl)) (hd:(en==("__debug__" : Str))=false:=by decide)
    (hcd:(en==("__classdict__" : Str))=false:=by decide) (hg:Gl X "isinstance" := by rfl) (hgT:Gl X T:=by rfl) (hdT:(T==("__debug__" : Str))=false:=by decide) :
    PE X (.Call (.Name "isinstance" pp) [.Name en ep,.Name T tp] [] pos) (tIsE X.K (.ref C)) :=
  PE.imp (pe_callB call_isE hg hm (by decide +kernel) (pa_cons (pe_var hN hv hd hcd) (pa_cons (pe_glob hgT hT (v:=.ref C) rfl hdT) pa_nil))) fun σ H Q ⟨x,D,b,h1,h2,h3,h4,q⟩=>⟨_,h1,x,D,.ref C,.ref C,b,rfl,rfl,h2,h3,h4,q⟩
theorem pe_isT {B:String} (hm:X.mg "isinstance" = none) (hT:X.mg T=none) (hB:bootBuiltins T=some (.type B)) (hN:X.N[0]?=some en:=by rfl) (hv:Vis X.env.scope en:=by first | exact Or.inl rfl | exact Or.inr (Or.inl rfl)) (hd:(en==("__debug__" : Str))=false:=by decide)
    (hcd:(en==("__classdict__" : Str))=false:=by decide) (hg:Gl X "isinstance" := by rfl) (hgT:Gl X T:=by rfl) (hnT:T ≠ "__name__" := by decide) (hdT:(T==("__debug__" : Str))=false:=by decide) :
    PE X (.Call (.Name "isinstance" pp) [.Name en ep,.Name T tp] [] pos) (tIsE X.K (.type B)) :=
  PE.imp (pe_callB call_isE hg hm (by decide +kernel) (pa_cons (pe_var hN hv hd hcd) (pa_cons (pe_bltn hgT hT hB (v:=.ty B) rfl hnT hdT) pa_nil))) fun σ H Q ⟨x,D,b,h1,h2,h3,h4,q⟩=>⟨_,h1,x,D,.ty B,.type B,b,rfl,rfl,h2,h3,h4,q⟩
def rCnt (K:PySem.W.Frag):V→List V→Hp→VK→Prop:=fun x vs H Q=>∃ l xs y,x=.ref l∧vs=[y]∧SqL K H l xs∧flatV y=true∧xs.all flatV=true∧Q (.int ((xs.countP fun z=>eqV z y):Nat)) H
theorem mt_cnt:MtM X "list.count" (rCnt X.K):=by
  intro pins s σ H x vs v us Q I rx rv h
  obtain ⟨l,xs,y,rfl,rfl,hq,fy,fxs,q⟩:=h
  cases rx
  obtain ⟨u,rfl,ru⟩:=rv.one
  obtain ⟨its,r,⟨⟨c2,d2,t2,sl2⟩,n2,e2,ec2,ed2,es2⟩,z2⟩:=I.list hq
  simp only at ec2 ed2 es2
  subst ec2 ed2 es2
  have hc:∀ {xs:List V} {its:List Value},Vals xs its→xs.all flatV=true→its.countP (eqU y)=xs.countP fun z=>eqV z y:=fun {xs its} r=>by
    induction r with
    | nil=>exact fun _=>rfl
    | cons r1 _ ih =>
      intro f
      rw [List.all_cons,Bool.and_eq_true] at f
      rw [List.countP_cons,List.countP_cons,ih f.2,eqU_of r1 f.1]
  refine call_meets F.slot_list_count ⟨_,e2,rfl⟩ F.entry_list_count (F.args_list_count_2 _ _) (SeqAt.list_countAt l its.toArray n2 none sl2 u (eqU y)) ⟨e2,fun w hw=>mem_eqAt ru fy r fxs w (by simpa using hw),?_⟩
  show EP X pins σ Q (.int ((its.countP (eqU y):Nat):Int) s.toks) _
  rw [hc r fxs]
  exact ⟨.int ((xs.countP fun z=>eqV z y):Nat),H,I.tok _,⟨_,rfl⟩,q⟩
end
end L2.PU
namespace L2.PU
open PySem PySem.Spec PyProof.Rows
structure RoomC (k:Nat) (A:Around):Prop where
  dp:A.depth+3*k+5 < recursionLimit
  un:A.units+16*k+200 < cLine
theorem RoomC.of {k:Nat} {A:Around} (r:Room k A):RoomC k A:=⟨r.dp,r.un⟩
theorem RoomC.mono {j k:Nat} {A:Around} (r:RoomC k A) (h:j≤k):RoomC j A:=⟨by have:=r.dp; omega,by have:=r.un; omega⟩
theorem RoomC.mark {k:Nat} {A:Around} (r:RoomC k A) (e:Option Value):RoomC k (A.mark e):=⟨r.dp,r.un⟩
abbrev Cx.at (X:Cx) (A:Around):Cx:={ X with A:=A,calm:=false,xe:=fun _ _=>False }
theorem Inv.around {X:Cx} {pins:List (Addr×Obj)} {σ:St} {H:Hp} {s:Shared} {A:Around} (I:Inv X pins σ H s) (hf:A.frames=X.A.frames):Inv (Cx.at X A) pins σ H s :=
  ⟨⟨I.ok.mod,I.ok.kind,I.ok.glob,I.ok.blt,I.ok.above,I.ok.inj,I.ok.has,I.ok.cab,(fun z=>by cases z),hf.trans I.ok.frames,I.ok.stk,I.ok.exf,I.ok.bs,I.ok.bsz,I.ok.noex,I.ok.exfs,I.ok.funs,I.ok.frf⟩,
    I.os,I.bare,I.base,I.loc,I.cell,I.free,I.freeC,I.pin,I.hok,I.len⟩
theorem Inv.back {X:Cx} {pins:List (Addr×Obj)} {σ:St} {H:Hp} {s:Shared} {A:Around} (I:Inv (Cx.at X A) pins σ H s) (ok:X.Ok):Inv X pins σ H s :=
  ⟨ok,I.os,I.bare,I.base,I.loc,I.cell,I.free,I.freeC,I.pin,I.hok,I.len⟩
abbrev SpC:=List V→Hp→VK→Prop
structure FnC (P:Program) (w:World) (K:PySem.W.Frag) (mg:Str→Option Value) (base:Heap) (k:Nat) (f:Addr) (fd:FuncData) (ps:List Str) (sp:SpC):Prop where
  len:∀ vs H Q,sp vs H Q→vs.length=ps.length
  run:∀ (A:Around) (outer:List Env) (s:Shared) (H:Hp) (us:List Value) (vs:List V) (Q:VK),RoomC k A→Env0 P w K mg base A outer s H→BindsTo s fd ⟨us,[]⟩ (ps.zip us)→Vals vs us→sp vs H Q →
    codeAny (model P w) A (.call (.ref f) ⟨us,[]⟩) (CR CX0 outer P w H s Q E0) s
section
variable {P:Program} {w:World} {K:PySem.W.Frag} {mg:Str→Option Value} {base:Heap}
theorem fnC {x qual:Str} {st:Stmt} {f:Addr} {fd:FuncData} {N ps:List Str} {k:Nat} {sp:SpC} (Fn:Fun K x qual st f fd) (Sc:FnScope N ps (defScope st)) (len:∀ vs H Q,sp vs H Q→vs.length=ps.length)
    (hbody:∀ (cdv:Value) (A:Around) (outer:List Env) (s:Shared) (H:Hp) (vs:List V) (Q:VK),sp vs H Q →
      ∃ t,PSs (Cx.at (cxOf CX0 P w K mg base N qual (defScope st) f cdv A outer s H E0) (A.deeper (envOfC qual (defScope st) s.heap.objs.size f cdv))) (defBody st) t∧t { nx:=fun _ H'=>Q .non H',rt:=Q } (L2.start N vs) H) :
    FnC P w K mg base (k+1) f fd ps sp:=by
  obtain ⟨oc,od,kV,doc,pm,an,cdv,ct,osl,rfl,lk,hcd⟩:=Fn.ex
  refine ⟨len,fun A outer s H us vs Q hr e0 hb r hsp=>?_⟩
  have hl:=len _ _ _ hsp
  have KX:K.In s.heap:=e0.mod.kin.keeps fun b o e=>(e0.bs b o e).1
  have lim:s.heap.NoLimit:=e0.mod.nolimit.keeps fun b o e=>(e0.bs b o e).1
  have hkd:∀ y∈ps.zip us,(defScope st).names.lookup y.1=some .local∨((defScope st).names.lookup y.1=some .cell∧((cellsFrom (s.heap.objs.size+1) (defScope st).names []).lookup y.1).isSome=true):=fun ⟨n,v⟩ hy =>
    (Sc.par n (List.of_mem_zip hy).1).elim .inl fun q=>.inr ⟨q,PySem.W.cellsFrom_some _ _ _ (.inl q)⟩
  refine codeAny_call_function (by have:=hr.dp; omega) (KX _ _ lk) rfl Sc.co Sc.gen rfl (PySem.W.codeRec_of KX hcd) (hb _ _ _ _ ?_)
  refine wpAny_newFunctionEnv_cells Sc.kind hkd fun env he s1 x=>?_
  subst he
  refine ⟨lim.keeps x.toInCall.keep,codeAny_func ?_⟩
  obtain ⟨t,ht,hq⟩:=hbody cdv A outer s H vs Q hsp
  have I0:Inv (cxOf CX0 P w K mg base N qual (defScope st) f cdv { A with handled:=none } outer s H E0) [] (L2.start N vs) H s1 :=
    inv_start Sc rfl ⟨e0.frames,e0.mod,e0.bs,e0.bsz,e0.funs,e0.frf,e0.hok,e0.bare⟩ hl r x
  have I:=Inv.around (A:=A.deeper (envOfC qual (defScope st) s.heap.objs.size f cdv)) I0 rfl
  refine wpAny_mono (ht [] s1 (L2.start N vs) H _ I hq) (fun fl s' hs=>?_) fun e s' hs=>hs.elim
  cases fl with
  | ret u =>
    obtain ⟨v,σ',H',J,rv,q⟩:=hs
    exact ⟨v,H',J.os,J.bare,J.base,J.hok,rv,q⟩
  | next =>
    obtain ⟨σ',H',J,q⟩:=hs
    exact ⟨.non,H',J.os,J.bare,J.base,J.hok,rfl,q⟩
  | brk=>obtain ⟨_,_,_,q⟩:=hs; exact q.elim
  | cont=>obtain ⟨_,_,_,q⟩:=hs; exact q.elim
end
section
variable {X:Cx} {k:Nat} {f:Addr} {fd:FuncData} {ps:List Str} {sp:SpC} {x:Str} {p pos:Pos} {e:Expr} {te:TE}
theorem pe_callC (F:FnC X.prog X.w X.K X.mg X.base k f fd ps sp) (hr:RoomC k X.A) (hm:X.mg x=some (.ref f)) (hk:PySem.W.keepIn X.K (.ref f)=true) (hb:Binds X.K fd ps []) (he:PE X e te) (hg:Gl X x:=by rfl)
    (hdb:(x==("__debug__" : Str))=false:=by decide) (hs:starEach [e] X.env=(false,eval e X.env)::starEach [] X.env:=by exact star_of rfl) (hpl:(backTo pos (starEach [] X.env)).any (·.1)=false:=by rfl) :
    PE X (.Call (.Name x p) [e] [] pos) (fun σ H Q=>te σ H fun v H1=>sp [v] H1 Q):=by
  intro pins s σ H Q I h
  refine wpAny_Call_Name_kw (ld_glob I hg hm ?_ hdb)
  refine PySem.W.callWith_K (h₀:=X.base) I.ok.mod.kin hk (thn (pa_cons he pa_nil hs pos pins s σ H (fun vs H1=>sp vs H1 Q) I h) fun us s1 ⟨vs,H1,I1,r,q⟩=>⟨I1.kIn,?_⟩) hs hpl
  have hl:(us++[]).length=ps.length:=by rw [List.append_nil,← r.length]; exact F.len _ _ _ q
  have hb':=hb s1 us I1.kIn hl
  rw [List.append_nil] at hb'
  refine wpAny_call (codeAny_mono (F.run X.A X.stack s1 H1 us vs Q hr I1.env0 hb' r q) fun r s' hq=>?_)
  cases r with
  | error e=>exact hq.elim
  | ok fl =>
    cases fl with
    | ret u=>exact I1.after hq
    | next=>exact hq.elim
    | brk=>exact hq.elim
    | cont=>exact hq.elim
end
structure Refs (K:PySem.W.Frag) (ca:Nat→Addr):Prop where
  xc:∀ c,c < 4→XCls K (ca c)
  kit:∀ c i,c < 4→i < 4→PySem.W.kitOne K (.ref (ca c)) (.ref (ca i))=some (decide (c=i))
  val:∀ c,c < 4→PySem.W.kitOne K (.ref (ca c)) (.type "ValueError")=some true
def refD (c:Nat):PyData:=.tuple [.str "refused", .int c]
def spE (K:PySem.W.Frag) (ca:Nat→Addr):SpC:=fun vs H Q=>∃ x c F,vs=[.ref x]∧c < 4∧H x=some (ExcO x (ca c))∧Same F H∧∀ v F' H',Gr F H F' H'→Rel K F' (refD c) v→Q v H'
end L2.PU
namespace L2.PU
open PySem PySem.Spec PyProof.Rows
section
variable {K:PySem.W.Frag} {ca:Nat→Addr}
theorem ref_flags (c:Nat) (hc:c < 4):([V.bl (decide (c=0)),.bl (decide (c=1)),.bl (decide (c=2)),.bl (decide (c=3))].countP fun z=>eqV z (.bl true))=1 ∧
    ([V.bl (decide (c=0)),.bl (decide (c=1)),.bl (decide (c=2)),.bl (decide (c=3))].findIdx? fun z=>eqV z (.bl true))=some c:=by
  have:c=0∨c=1∨c=2∨c=3:=by omega
  rcases this with rfl | rfl | rfl | rfl <;> exact ⟨by decide +kernel,by decide +kernel⟩
theorem ref_read (R:Refs K ca) {tx:TS} {x:Addr} {c:Nat} {F H:Hp} {Q:VK} (hc:c < 4) (hx:H x=some (ExcO x (ca c))) (sm:Same F H) (q:∀ v F' H',Gr F H F' H'→Rel K F' (refD c) v→Q v H') :
    tSeq (tAsg (tLst (tCons (tIsE K (.ref (ca 0))) (tCons (tIsE K (.ref (ca 1))) (tCons (tIsE K (.ref (ca 2))) tNil)))) (gName 1))
      (tSeq (tAsg (tOp (rCatS K) (tVar 1) (tLst (tCons (tIsE K (.ref (ca 3))) tNil))) (gName 1))
        (tSeq (tIfS (tOr (tTest (tOp rNe (tBM K "list" (rCnt K) (tVar 1) (tCons (tC (.bl true)) tNil)) (tC (.int 1)))) (tNot (tB (tIsE K (.type "ValueError"))))) tx tNext)
          (tRet (tTup (tCons (tC (.str "refused")) (tCons (tBM K "list" (rIdx K) (tVar 1) (tCons (tC (.bl true)) tNil)) tNil))))))
      { nx:=fun _ H'=>Q .non H',rt:=Q } [some (.ref x),none] H:=by
  have k:=fun i hi=>R.kit c i hc hi
  have xc:=R.xc c hc
  refine ⟨x,ca c,_,rfl,hx,xc,k 0 (by omega),x,ca c,_,rfl,hx,xc,k 1 (by omega),x,ca c,_,rfl,hx,xc,k 2 (by omega),(show 3≤sizeLine by decide),fun l1 h1=>?_⟩
  have n1:l1≠x:=fun z=>by rw [z,hx] at h1; cases h1
  have hx1:upd H l1 (.lst [.bl (decide (c=0)),.bl (decide (c=1)),.bl (decide (c=2))]) x=some (ExcO x (ca c)):=by rw [upd_ne (Ne.symm n1)]; exact hx
  refine ⟨.ref l1,rfl,x,ca c,_,rfl,hx1,xc,k 3 (by omega),(show 1≤sizeLine by decide),fun l2 h2=>?_⟩
  have n2:l2≠x:=fun z=>by rw [z,hx1] at h2; cases h2
  have n21:l2≠l1:=fun z=>by rw [z,upd_same] at h2; cases h2
  refine ⟨l1,l2,[.bl (decide (c=0)),.bl (decide (c=1)),.bl (decide (c=2))],[.bl (decide (c=3))],rfl,rfl,SqL.of (by rw [upd_ne (Ne.symm n21),upd_same]),SqL.of (by rw [upd_same]),(show 3+1≤sizeLine by decide),fun l3 h3=>?_⟩
  have n3:l3≠x:=fun z=>by rw [z,upd_ne (Ne.symm n2),hx1] at h3; cases h3
  obtain ⟨e1,e2⟩:=ref_flags c hc
  refine ⟨.ref l3,rfl,.inl ⟨rfl,_,SqL.of (by rw [upd_same])⟩,l3,_,_,rfl,rfl,SqL.of (by rw [upd_same]),rfl,rfl,?_⟩
  refine ⟨rfl,_,rfl,?_⟩
  show (if (!decide (V.int (([V.bl (decide (c=0)),.bl (decide (c=1)),.bl (decide (c=2)),.bl (decide (c=3))].countP fun z=>eqV z (.bl true)):Nat)=V.int 1))=true then _ else _)
  rw [e1,if_neg (by decide)]
  refine ⟨x,ca c,true,rfl,by rw [upd_ne (Ne.symm n3),upd_ne (Ne.symm n2)]; exact hx1,xc,R.val c hc,true,rfl,?_⟩
  show (if (!true)=true then _ else _)
  rw [if_neg (by decide)]
  refine ⟨.ref l3,rfl,.inl ⟨rfl,_,SqL.of (by rw [upd_same])⟩,l3,_,_,c,rfl,rfl,SqL.of (by rw [upd_same]; rfl),rfl,rfl,e2,(show 2≤sizeLine by decide),fun t ht=>?_⟩
  have s3:Same H (upd (upd (upd H l1 (.lst [.bl (decide (c=0)),.bl (decide (c=1)),.bl (decide (c=2))])) l2 (.lst [.bl (decide (c=3))])) l3 (.lst ([.bl (decide (c=0)),.bl (decide (c=1)),.bl (decide (c=2))]++[.bl (decide (c=3))]))) :=
    ((same_new h1 _).trans (same_new h2 _)).trans (same_new h3 _)
  have hF:F t=none:=(sm.trans s3).free ht
  refine q _ (upd F t (.tup [.str "refused", .int c])) _ ⟨same_new hF _,s3.trans (same_new ht _),fun b u e=>?_,fun b e=>?_⟩ (rel_tup (xs:=[.str "refused", .int c]) (.inl (.inl upd_same)) (.cons rel_str (.cons rel_int .nil)))
  · by_cases hb:b=t
    · subst hb; rw [upd_same] at e ⊢; exact e
    · rw [upd_ne hb] at e ⊢; exact s3 _ _ (sm _ _ e)
  · by_cases hb:b=t
    · subst hb; exact .inr (s3.free ht)
    · rw [upd_ne hb] at e; exact .inl e
end
end L2.PU
namespace L2.PU
open PySem PySem.Spec PyProof.Rows
abbrev Cx.tri (X:Cx) (E:Value→Shared→Prop) (pn:List (Addr×Obj)):Cx:={ X with xe:=E,pn:=pn }
section
variable {X:Cx} {pins:List (Addr×Obj)} {σ:St} {H:Hp} {s:Shared} {E:Value→Shared→Prop}
theorem inv_tri (I:Inv X pins σ H s) (E:Value→Shared→Prop):Inv (Cx.tri X E (X.pn++pins)) [] σ H s :=
  ⟨⟨I.ok.mod,I.ok.kind,I.ok.glob,I.ok.blt,I.ok.above,I.ok.inj,I.ok.has,I.ok.cab,I.ok.hd,I.ok.frames,I.ok.stk,I.ok.exf,I.ok.bs,I.ok.bsz,I.ok.noex,I.ok.exfs,I.ok.funs,I.ok.frf⟩,
    I.os,I.bare,I.base,I.loc,I.cell,I.free,I.freeC,fun p hp=>I.pin p (by rw [List.append_nil] at hp; exact hp),I.hok,I.len⟩
theorem inv_untri {pins':List (Addr×Obj)} (I:Inv (Cx.tri X E (X.pn++pins)) pins' σ H s):Inv X pins σ H s :=
  ⟨⟨I.ok.mod,I.ok.kind,I.ok.glob,I.ok.blt,I.ok.above,I.ok.inj,I.ok.has,I.ok.cab,I.ok.hd,I.ok.frames,I.ok.stk,I.ok.exf,I.ok.bs,I.ok.bsz,I.ok.noex,I.ok.exfs,I.ok.funs,I.ok.frf⟩,
    I.os,I.bare,I.base,I.loc,I.cell,I.free,I.freeC,fun p hp=>I.pin p (List.mem_append_left _ hp),I.hok,I.len⟩
theorem SP.untri {D:Ends} {f:Flow} {s':Shared} (h:SP (Cx.tri X E (X.pn++pins)) [] D f s'):SP X pins D f s':=by
  cases f with
  | next=>obtain ⟨σ',H',I,q⟩:=h; exact ⟨σ',H',inv_untri I,q⟩
  | brk=>obtain ⟨σ',H',I,q⟩:=h; exact ⟨σ',H',inv_untri I,q⟩
  | cont=>obtain ⟨σ',H',I,q⟩:=h; exact ⟨σ',H',inv_untri I,q⟩
  | ret u=>obtain ⟨v,σ',H',I,r,q⟩:=h; exact ⟨v,σ',H',inv_untri I,r,q⟩
theorem inv_names {h':Heap} {m:Str→Option Value} {t':Nat} (I:Inv X pins σ H s) (hn:h'.Ns X.env.locals m) (hs:Heap.SameBut X.env.locals s.heap h'):Inv X pins (σ.map fun _=>none) H { s with heap:=h',toks:=t' }:=by
  have k:∀ b o,b≠X.env.locals→s.heap.get? b=some o→h'.get? b=some o:=fun b o n e=>(hs.2 b n).trans e
  have neL:∀ b o,X.s₀.heap.get? b=some o→b≠X.env.locals:=fun b o e=>Nat.ne_of_lt (Nat.lt_of_lt_of_le (Heap.lt_size e) I.ok.above)
  refine ⟨I.ok,I.os,I.bare,⟨fun b o e n hb hx=>k b o (neL b o e) (I.base.keep b o e n hb hx),fun b o e n hb hx=>?_,I.base.free,fun b o e hx=>?_,I.base.tups,I.base.frzs,I.base.tbls⟩,⟨m,hn,fun i x v _ h=>?_⟩,fun x c e=>?_,I.free,I.freeC,fun p hp=>?_,fun b u e=>?_,by rw [List.length_map]; exact I.len⟩
  · obtain ⟨sl,e1⟩:=I.base.slot b o e n hb hx
    exact ⟨sl,k b _ (neL b o e) e1⟩
  · obtain ⟨o',e1⟩:=I.base.there b o e hx
    exact ⟨o',k b _ (neL b o e) e1⟩
  · rw [List.getElem?_map] at h
    cases q:σ[i]? with
    | none=>rw [q] at h; cases h
    | some o=>rw [q] at h; cases h
  · obtain ⟨v,o,ho,hd⟩:=I.cell x c e
    exact ⟨v,o,k c o (I.cne x c e) ho,hd⟩
  · obtain ⟨a1,a2,a3,a4⟩:=I.pin p hp
    exact ⟨k _ _ a3 a1,a2,a3,a4⟩
  · refine (I.hok b u e).stay (fun c v hc r=>k c v (fun z=>?_) r) (fun _ q=>q) fun _ _ q=>q
    rcases hc with rfl | hc
    · rw [z,I.free] at e; cases e
    · rw [z,I.free] at hc; cases hc
end
def Hdl (X:Cx) (B:Bd) (ca:Nat→Addr) (hs:List ExceptHandler) (hd:Nat→Option PyData):Prop :=
  ∀ (pins:List (Addr×Obj)) (σ:St) (H:Hp) (s:Shared) (D:Ends) (a:Addr) (c:Nat) (H':Hp) (s':Shared) (d:PyData) (F':Hp),Inv X pins σ H s→Fly X.prog X.w X.stack H s a (ca c) H' s'→Gr B.F B.H F' H'→hd c=some d →
    (∀ v F'' H'',Gr B.F B.H F'' H''→Rel X.K F'' d v→D.rt v H'') →
    wpAny (model X.prog X.w) X.A (noteFrame (.ref a) X.env) (fun _ s₂=>wpAny (model X.prog X.w) X.A (setFlight (.ref a) none) (fun _ s₃=>wpAny (model X.prog X.w) X.A (handleBy (.ref a) X.env hs) (SP X pins D) X.xe s₃) X.xe s₂) X.xe s'
end L2.PU
namespace L2.PU
open PySem PySem.Spec PyProof.Rows
section
variable {M:Model} {A:Around} {Z:Value→Shared→Prop} {h:Heap} {g:Array GenState} {d:Drawn} {t:Nat} {os:OsState} {e C T:Addr} {oe:Obj}
theorem exc_match {nm q:Str} {N:Addr} {bs bm:List Value} {hdct:Bool} {sn:List Str} {sub:List Value} {ab:Bool} {col:Option Bool} {dd:Option Addr} {k0 k1 k2 k3 k5:Option Value} {newId:String}
    {nm' q':Str} {N':Addr} {bs' bm':List Value} {hdct':Bool} {sn':List Str} {sub':List Value} {ab':Bool} {col':Option Bool} {dd':Option Addr} {j0 j1 j2 j3 j5:Option Value} {newId':String} {Q:Bool→Shared→Prop}
    (hC:h.get? C=some (excClassObj nm q C N bs bm hdct sn sub ab col dd k0 k1 k2 k3 k5 newId)) (hT:h.get? T=some (excClassObj nm' q' T N' bs' bm' hdct' sn' sub' ab' col' dd' j0 j1 j2 j3 j5 newId')) (he:h.get? e=some oe) (hcls:oe.cls=.ref C)
    (hb:bm'.contains (.type "BaseException")=true) (hs:(Value.ref C::bm).contains (.ref T)=true) (hq:Q true ⟨h,g,d,t,os⟩):wpAny M A (excMatches (.ref e) (.ref T)) Q Z ⟨h,g,d,t,os⟩:=by
  have hcB:(Value.ref T::bm').contains (.type "BaseException")=true:=by rw [List.contains_cons,hb,Bool.or_true]
  have f:=tc_notTuple
  unfold excMatches
  repeat (first | (with_reducible refine wpAny_loadPart_at he ?_; rw [hcls]) | with_reducible refine wpAny_loadPart_at hT ?_ | (with_reducible refine wpAny_isSubtype_exc hT ?_; rw [hcB]) | (with_reducible refine wpAny_isSubtype_exc hC ?_; rw [hs]) | wp_step)
  exact hq
end
theorem mro_has {K:PySem.W.Frag} {h:Heap} {C:Addr} {v:Value} {nm q:Str} {N:Addr} {bs bm:List Value} {hdct:Bool} {sn:List Str} {sub:List Value} {ab:Bool} {col:Option Bool} {dd:Option Addr} {k0 k1 k2 k3 k5:Option Value} {newId:String}
    (X:K.In h) (hC:h.get? C=some (excClassObj nm q C N bs bm hdct sn sub ab col dd k0 k1 k2 k3 k5 newId)) (e:PySem.W.mroIn K C v=some true):(Value.ref C::bm).contains v=true:=by
  unfold PySem.W.mroIn at e
  obtain ⟨cd,a,b⟩:=Option.bind_eq_some_iff.mp e
  unfold PySem.W.clsIn at a
  split at a
  · rename_i ho
    have z:=X _ _ ho
    rw [hC] at z
    have z2:=Option.some.inj z
    unfold excClassObj at z2
    injection z2 with _ _ z3 _
    injection z3 with z3
    cases a
    rw [← z3] at b
    split at b
    · cases b
    · exact Option.some.inj b
  · cases a
section
variable {X:Cx} {B:Bd} {ca:Nat→Addr} {T:Addr} {x n:Str} {np hp:Pos}
theorem flown {pins:List (Addr×Obj)} {σ:St} {H H':Hp} {s s':Shared} {a C t:Addr} {Bq h6:Heap} (I:Inv X pins σ H s) (fl:Fly X.prog X.w X.stack H s a C H' s') (fly:Heap.FlyingW Bq X.stack a (.ref C) (.ref t) s'.heap)
    (cov:∀ b o,s'.heap.get? b=some o→((∃ u,H' b=some u)∨∃ o₀,s.heap.get? b=some o₀)→b∉frs X.stack→Bq.get? b=some o) (fly6:Heap.FlyingW Bq X.stack a (.ref C) (.ref t) h6) (up:s'.heap.UpToSlots h6) :
    Inv X pins σ H' { s' with heap:=h6 }∧H' a=none∧Inv X pins σ (upd H' a (ExcO a C)) { s' with heap:=h6 }:=by
  obtain ⟨u5,k5⟩:=fly_heap (a:=a) (cls:=.ref C) (a0:=.ref t) fl.un fl.hok fl.nofr fly.2.2.1 cov fly6.1 up
  have I5:Inv X pins σ H' { s' with heap:=h6 }:=I.call' (ch:=[]) fl.os u5 k5 fl.bare fun b z=>absurd z (by simp)
  have fresh:∀ o,s.heap.get? a≠some o:=fun o e=>by
    obtain ⟨o',e'⟩:=fl.un.there a o e (by simp)
    by_cases hm:a∈frs X.stack
    · obtain ⟨_,o2,h2,hd⟩:=fly.2.2.1.mem hm
      obtain ⟨oe,vs,h3,_,hdd,_⟩:=fly.first
      rw [h3] at h2
      cases h2
      exact hd _ hdd
    · have z:=cov a o' e' (.inr ⟨o,e⟩) hm
      rw [fly.2.1] at z
      cases z
  have hfree:H' a=none:=by
    cases q:H' a with
    | none=>rfl
    | some u =>
      obtain ⟨o',e'⟩:=ob_has (fl.hok a u q)
      by_cases hm:a∈frs X.stack
      · rw [fl.nofr a hm] at q; cases q
      · have z:=cov a o' e' (.inl ⟨u,q⟩) hm
        rw [fly.2.1] at z
        cases z
  refine ⟨I5,hfree,?_⟩
  obtain ⟨oe,vs,e1,e2,e3,_⟩:=fly6.first
  refine I.call' (ch:=[]) fl.os ⟨u5.keep,u5.slot,fun b o q nb hx=>?_,u5.there,fun b xs q=>?_,fun b o u q=>?_,fun b ps q=>?_⟩ (fun b u e=>?_) fl.bare fun b z=>absurd z (by simp)
  · rw [upd_ne (fun z=>fresh o (by rw [← z]; exact q))]; exact u5.free b o q nb hx
  · rw [upd_ne (fun z=>by have:=u5.tups b xs q; rw [z,hfree] at this; cases this)]; exact u5.tups b xs q
  · rw [upd_ne (fun z=>by have:=u5.frzs b o u q; rw [z,hfree] at this; cases this)]; exact u5.frzs b o u q
  · obtain ⟨more,e⟩:=u5.tbls b ps q
    exact ⟨more,by rw [upd_ne (fun z=>by rw [z,hfree] at e; cases e)]; exact e⟩
  · by_cases hb:b=a
    · subst hb
      rw [upd_same] at e
      cases e
      exact ⟨⟨oe,e1,e2⟩,⟨oe,e1⟩,fun h1 h2 p q=>inst_stay p q⟩
    · rw [upd_ne hb] at e
      refine (k5 b u e).stay (fun _ _ _ r=>r) (fun c r=>?_) fun c xs r=>?_
      · rw [upd_ne (fun z=>by rw [z,hfree] at r; cases r)]; exact r
      · rw [upd_ne (fun z=>by rw [z,hfree] at r; cases r)]; exact r
theorem caught {pins:List (Addr×Obj)} {σ:St} {H H':Hp} {s s':Shared} {a C:Addr} {b₀:Stmt} {suite:List Stmt} {nn:Option Str} {Q:Flow→Shared→Prop} {rest:List ExceptHandler}
    (hst:X.stack=X.env::X.outer) (hfr:X.env.frame=some X.env.locals) (I:Inv X pins σ H s) (fl:Fly X.prog X.w X.stack H s a C H' s') (hT:X.mg x=some (.ref T)) (hg:Gl X x) (hdb:(x==("__debug__" : Str))=false)
    (xC:PySem.W.excIn X.K C bmVE "ValueError.__new__" = true) (xT:PySem.W.excIn X.K T bmVE "ValueError.__new__" = true) (hm:PySem.W.mroIn X.K C (.ref T)=some true)
    (k:∀ s6,(∀ (A:Around) (Z:Value→Shared→Prop) (Q:Unit→Shared→Prop),(∀ s7,H' a=none→Inv X pins σ H' s7→Inv X pins σ (upd H' a (ExcO a C)) s7→Q () s7)→wpAny (model X.prog X.w) A (setFlight (.ref a) none) Q Z s6) →
      codeAny (model X.prog X.w) (X.A.mark (some (.ref a))) (.handlers (.ref a) [.ExceptHandler none nn (b₀::suite) hp] X.env) (fun r s₂=>match r with
          | .ok f=>(match nn with
            | none=>Q f s₂
            | some n=>wpAny (model X.prog X.w) X.A (do bindName X.env n .none; unbindBehindTheSuite X.env n hp) (fun _ s₃=>Q f s₃) X.xe s₂)
          | .error y=>cameBackBy (model X.prog X.w) X.A X.env X.xe y s₂) s6) :
    wpAny (model X.prog X.w) X.A (noteFrame (.ref a) X.env) (fun _ s₂=>wpAny (model X.prog X.w) X.A (setFlight (.ref a) none) (fun _ s₃=>wpAny (model X.prog X.w) X.A (handleBy (.ref a) X.env (.ExceptHandler (some (.Name x np)) nn (b₀::suite) hp::rest)) Q X.xe s₃) X.xe s₂) X.xe s':=by
  obtain ⟨Bq,t,fly,cov⟩:=fl.fly
  have fly':Heap.FlyingW Bq (X.env::X.outer) a (.ref C) (.ref t) s'.heap:=hst ▸ fly
  have frs':X.A.frames=some (X.env::X.outer):=hst ▸ I.ok.frames
  refine wpAny_looks_onW frs' hfr fly' fun h4 held4 up4=>?_
  refine wpAny_landsW held4 fun h5 fly5 up5=>?_
  have fly5':Heap.FlyingW Bq X.stack a (.ref C) (.ref t) h5:=hst ▸ fly5
  obtain ⟨I5,_,_⟩:=flown I fl fly cov fly5' (up4.trans up5)
  have Ih:Inv (Cx.at X (X.A.mark (some (.ref a)))) pins σ H' { s' with heap:=h5 }:=Inv.around I5 rfl
  refine wpAny_handleBy_cons (codeAny_handlers_test (ld_glob (X:=Cx.at X (X.A.mark (some (.ref a)))) Ih hg hT ?_ hdb)) (by intro q; cases q)
  obtain ⟨ob,hob,hobc⟩:=fly5.there
  obtain ⟨bm,N,nm,qn,bs,hdct,sn,sub,ab,col,dd,k0,k1,k2,k3,kk5,mN,hC,_⟩:=exc_obj I5.kIn xC
  obtain ⟨bm',N',nm',qn',bs',hdct',sn',sub',ab',col',dd',j0,j1,j2,j3,j5,mN',hT',_,_,TT⟩:=exc_obj I5.kIn xT
  refine exc_match hC hT' hob hobc (TT.hasType PySem.F.excBase_ValueError.hasBase) (mro_has I5.kIn hC hm) ?_
  refine k _ fun A Z Q hq=>lands_againW fly5' fun h6 fly6 up6=>?_
  obtain ⟨J1,J2,J3⟩:=flown I fl fly cov fly6 ((up4.trans up5).trans up6)
  exact hq _ J2 J1 J3
theorem Hdl.as {k i:Nat} {f:Addr} {fd:FuncData} {ps:List Str} {fx:Str} {p1 p2 p3 p4:Pos} (hT:X.mg x=some (.ref T)) (R:Refs X.K ca) (hTx:PySem.W.excIn X.K T bmVE "ValueError.__new__" = true) (hmro:∀ c,c < 4→PySem.W.mroIn X.K (ca c) (.ref T)=some true)
    (G:FnC X.prog X.w X.K X.mg X.base k f fd ps (spE X.K ca)) (hr:RoomC k X.A) (hm:X.mg fx=some (.ref f)) (hk:PySem.W.keepIn X.K (.ref f)=true) (hb:Binds X.K fd ps []) (hN:X.N.Nodup) (hi:X.N[i]?=some n:=by rfl)
    (hl:X.env.kindOf n=some .local:=by rfl) (hst:X.stack=X.env::X.outer:=by rfl) (hfr:X.env.frame=some X.env.locals:=by rfl) (hg:Gl X x:=by rfl) (hdb:(x==("__debug__" : Str))=false:=by decide)
    (hgf:Gl X fx:=by rfl) (hdf:(fx==("__debug__" : Str))=false:=by decide) (hdn:(n==("__debug__" : Str))=false:=by decide) (hcn:(n==("__classdict__" : Str))=false:=by decide) :
    Hdl X B ca [.ExceptHandler (some (.Name x np)) (some n) [.Return (some (.Call (.Name fx p1) [.Name n p2] [] p3)) p4] hp] (fun c=>if c < 4 then some (refD c) else none):=by
  intro pins σ H s D a c H' s' d F' I fl gr ed q
  dsimp only at ed
  split at ed
  case isFalse=>cases ed
  case isTrue hc =>
  cases ed
  refine caught hst hfr I fl hT hg hdb (R.xc c hc).ex hTx (hmro c hc) fun s6 again=>codeAny_handlers_suite_as (again _ _ _ fun s7 hf I7 J7=>?_)
  have hloc:X.env.scope.names.lookup n=some .local:=hl
  have Jh:Inv (Cx.at X (X.A.mark (some (.ref a)))) pins σ (upd H' a (ExcO a (ca c))) s7:=Inv.around J7 rfl
  refine store_ok (X:=Cx.at X (X.A.mark (some (.ref a)))) (v:=.ref a) Jh hN hi (.inl hloc) rfl (fun s8 J8=>?_) (.inr hloc)
  have hiσ:i < σ.length:=by rw [I.len]; exact (List.getElem?_eq_some_iff.mp hi).1
  have g8:Gr B.F B.H F' (upd H' a (ExcO a (ca c))):=⟨gr.ff,gr.hh.trans (same_new hf _),gr.fh.trans (same_new hf _),gr.new⟩
  have pe:=pe_callC (X:=Cx.at X (X.A.mark (some (.ref a)))) (p:=p1) (pos:=p3) G (hr.mark _) hm hk hb (pe_var (pos:=p2) hi (.inl hloc) hdn hcn) hgf hdf
  have ps:=pss_one (ps_ret (pos:=p4) pe)
  refine wpAny_mono (ps pins s8 _ _ { nx:=fun _ _=>False,rt:=D.rt } J8 ⟨.ref a,by rw [List.getElem?_set_self hiσ],a,c,F',rfl,hc,by rw [upd_same],g8.fh,fun v F'' H'' g2 rv=>q v F'' H'' (g8.trans g2) rv⟩) (fun fl s9 h9=>?_) fun _ _ z=>z.elim
  cases fl with
  | next=>obtain ⟨_,_,_,z⟩:=h9; exact z.elim
  | brk=>obtain ⟨_,_,_,z⟩:=h9; exact z.elim
  | cont=>obtain ⟨_,_,_,z⟩:=h9; exact z.elim
  | ret u =>
    obtain ⟨v,σ',H9,J9,rv,z⟩:=h9
    have J:Inv X pins σ' H9 s9:=Inv.back J9 I.ok
    obtain ⟨m,hn,_⟩:=id J.loc
    refine wpAny_nameGoes_keeps hl hn (by rw [I.ok.kind]; rfl) fun h' vv hn' hs=>?_
    exact ⟨v,_,H9,inv_names J hn' hs,rv,z⟩
end
theorem S.nx {X:Cx} {B:Bd} {st:Stmt} {u:En→Option Out} (h:S X.nox B st u):S X B st u:=PS.nox h
end L2.PU
namespace L2.PU
open PySem PySem.Spec PyProof.Rows
section
variable (K:PySem.W.Frag) (cl:Nat→Addr) (W:Nat→Hp→Prop)
def tMX (g:Wd→Option (Nat×Sto)):St→Hp→Prop:=fun σ H=>∃ θ F w c s',MR K cl θ F H w.s∧MV K θ F σ w.η∧g w=some (c,s')∧∀ θ' F' H',θ <+: θ'→Same F F'→MR K cl θ' F' H' s'→W c H'
end
abbrev MXF:=Wd→Option (Nat×Sto)
def MEX (X:Cx) (cl:Nat→Addr) (W:Nat→Hp→Prop) (e:Expr) (g:MXF):Prop:=PE X e (fun σ H _=>tMX X.K cl W g σ H)
def MAX (X:Cx) (cl:Nat→Addr) (W:Nat→Hp→Prop) (e:List Expr) (g:MXF):Prop:=PA X e (fun σ H _=>tMX X.K cl W g σ H)
def MSX (X:Cx) (cl:Nat→Addr) (W:Nat→Hp→Prop) (st:Stmt) (g:MXF):Prop:=PS X st (fun _ σ H=>tMX X.K cl W g σ H)
def MSsX (X:Cx) (cl:Nat→Addr) (W:Nat→Hp→Prop) (st:List Stmt) (g:MXF):Prop:=PSs X st (fun _ σ H=>tMX X.K cl W g σ H)
def spMX (K:PySem.W.Frag) (cl:Nat→Addr) (ca:Nat→Addr) (fx:List D→Sto→Option (Nat×Sto)):Sp:=fun vs H _ E=>∃ θ F s ds c s',MR K cl θ F H s∧DRs K θ F ds vs∧fx ds s=some (c,s')∧∀ θ' F' H',θ <+: θ'→Same F F'→MR K cl θ' F' H' s'→E (.ref (ca c)) none H'
def mxSeq (u:Wd→Option MOut) (g:MXF):MXF:=fun w=>(u w).bind fun o=>match o with
  | .nx w'=>g w'
  | _=>none
def mxOr (g g':MXF):MXF:=fun w=>match g w with
  | some c=>some c
  | none=>g' w
def mxIf (p:MTF) (g g':MXF):MXF:=fun w=>(p w).bind fun r=>if r.1=true then g ⟨w.η,r.2⟩ else g' ⟨w.η,r.2⟩
def mxNo:MXF:=fun _=>none
def mxP (g:En→Option Nat):MXF:=fun w=>(g (vw w)).bind fun c=>some (c,w.s)
section
variable {X:Cx} {cl:Nat→Addr} {W:Nat→Hp→Prop} {ca:Nat→Addr} {st:Stmt} {sts sts':List Stmt} {e o:Expr} {es:List Expr} {u:Wd→Option MOut} {f:MF} {fs:MFs} {g g':MXF} {px:En→Option Nat} {p:MTF} {pos pos':Pos}
theorem MSsX.no:MSsX X cl W sts mxNo:=PSs.imp PSs.no fun σ H Q ⟨θ,F,w,c,s',m,v,h,q⟩=>by cases h
theorem tMX_or {K:PySem.W.Frag} {σ:St} {H:Hp} (h:tMX K cl W (mxOr g g') σ H):tMX K cl W g σ H∨tMX K cl W g' σ H:=by
  obtain ⟨θ,F,w,c,s',m,v,h,q⟩:=h
  unfold mxOr at h
  split at h
  · rename_i c' e
    cases h
    exact .inl ⟨θ,F,w,c,s',m,v,e,q⟩
  · exact .inr ⟨θ,F,w,c,s',m,v,h,q⟩
theorem MSsX.or (h:MSsX X cl W sts g) (k:MSsX X cl W sts g'):MSsX X cl W sts (mxOr g g'):=PSs.imp (PSs.or h k) fun _ _ _ q=>tMX_or q
theorem MSsX.one (h:MSX X cl W st g):MSsX X cl W (st::sts) g:=PSs.imp (pss_cons h PSs.no) fun _ _ _ q=>q
theorem MSsX.cons (h:MS X cl st u) (k:MSsX X cl W sts g):MSsX X cl W (st::sts) (mxSeq u g):=PSs.imp (pss_cons h k) fun Z σ H ⟨θ,F,w,c,s',m,v,h,q⟩=>by
  obtain ⟨o,h1,h2⟩:=bind_some h
  refine ⟨θ,F,w,o,m,v,h1,?_⟩
  cases o with
  | nx w'=>exact fun σ' θ' F' H' p' s1 m' v'=>⟨θ',F',w',c,s',m',v',h2,fun θ2 F2 H2 p2 s2 m2=>q θ2 F2 H2 (p'.trans p2) (s1.trans s2) m2⟩
  | rt d s=>cases h2
  | bk w'=>cases h2
  | ct w'=>cases h2
theorem MSX.ret (h:MEX X cl W e g):MSX X cl W (.Return (some e) pos) g:=PS.imp (ps_ret h) fun _ _ _ q=>q
theorem MSX.exp (h:MEX X cl W e g) (hs:swapsWith e none pos.line X.env=pure false:=by rfl):MSX X cl W (.Expr e pos) g:=PS.imp (ps_expr h hs) fun _ _ _ q=>q
theorem MSX.set (i:Nat) {x:Str} (hN:X.N.Nodup) (he:MEX X cl W e g) (hi:X.N[i]?=some x:=by rfl) (hx:Loc X.env.scope x:=by first | exact Or.inl rfl | exact Or.inr rfl) (hs:swapsWith e (some (.Name x pos')) pos.line X.env=pure false:=by rfl)
    (hf:X.fn x=true∨X.env.scope.names.lookup x=some .local:=by first | exact .inl rfl | exact .inr rfl):MSX X cl W (.Assign [.Name x pos'] e pos) g:=PS.imp (ps_set hN hi hx he hs hf) fun _ _ _ q=>q
theorem MSX.ifS (hc:MT X cl e p) (ha:MSsX X cl W sts g) (hb:MSsX X cl W sts' g'):MSX X cl W (.If e sts sts' pos) (mxIf p g g'):=PS.imp (ps_if hc ha hb) fun Z σ H ⟨θ,F,w,c,s',m,v,h,q⟩=>by
  obtain ⟨⟨b,s1⟩,h1,hd⟩:=bind_some h
  refine ⟨θ,F,w,b,s1,m,v,h1,fun θ1 F1 H1 p1 q1 m1=>?_⟩
  cases b with
  | false =>
    rw [if_neg Bool.false_ne_true] at hd ⊢
    exact ⟨θ1,F1,⟨w.η,s1⟩,c,s',m1,v.mono p1 q1,hd,fun θ2 F2 H2 p2 q2 m2=>q θ2 F2 H2 (p1.trans p2) (q1.trans q2) m2⟩
  | true =>
    rw [if_pos rfl] at hd ⊢
    exact ⟨θ1,F1,⟨w.η,s1⟩,c,s',m1,v.mono p1 q1,hd,fun θ2 F2 H2 p2 q2 m2=>q θ2 F2 H2 (p1.trans p2) (q1.trans q2) m2⟩
theorem tMX_pu {σ:St} {H:Hp} {K:PySem.W.Frag} (h:tMX K cl W (mxP px) σ H):∃ B,tX K B W px σ H:=by
  obtain ⟨θ,F,w,c,s',m,v,h,q⟩:=h
  obtain ⟨c',h1,h2⟩:=bind_some h
  cases h2
  exact ⟨⟨F,H⟩,F,vw w,_,m.vw v,h1,fun F' H' gr=>q θ F' H' (List.prefix_refl _) gr.ff (m.grow gr)⟩
theorem MEX.pu (h:∀ B,EX X B W e px):MEX X cl W e (mxP px):=fun pins s σ H Q I t=>by
  obtain ⟨B,z⟩:=tMX_pu t
  exact h B pins s σ H Q I z
theorem MSX.pu (h:∀ B,SX X B W st px):MSX X cl W st (mxP px):=fun pins s σ H Q I t=>by
  obtain ⟨B,z⟩:=tMX_pu t
  exact h B pins s σ H Q I z
theorem MAX.pu (h:∀ B,AX X B W es px):MAX X cl W es (mxP px):=fun pos pins s σ H Q I t=>by
  obtain ⟨B,z⟩:=tMX_pu t
  exact h B pos pins s σ H Q I z
def mxMeth (k:Nat) (nm:Str) (fx:List D→Sto→Option (Nat×Sto)) (o:MF) (fs:MFs):MXF:=fun w=>(o w).bind fun r=>match r.1 with
  | .r n=>(match r.2[n]? with
    | some (.obj k' as)=>if k'=k∧as.lookup nm=none then (fs ⟨w.η,r.2⟩).bind fun rs=>fx (.r n::rs.1) rs.2 else none
    | _=>none)
  | _=>none
def mxArg (k:Nat) (nm:Str) (o:MF) (g:MXF):MXF:=fun w=>(o w).bind fun r=>match r.1 with
  | .r n=>(match r.2[n]? with
    | some (.obj k' as)=>if k'=k∧as.lookup nm=none then g ⟨w.η,r.2⟩ else none
    | _=>none)
  | _=>none
theorem MEX.meth {pl:Sem Bool} {k k' kc:Nat} {fa:Addr} {fd:FuncData} {ps:List Str} {nm:Str} {apos:Pos} {fx:List D→Sto→Option (Nat×Sto)} (ho:ME X cl o f) (c:Cls X.K (cl kc)) (hm:Meth X.K (cl kc) nm fa) (G:FnOk X.prog X.w X.K X.mg X.base (CXX X.prog X.w) k fa fd ps (spMX X.K cl ca fx)) (hx:XOk X ca W) (hr:Room k' X.A) (hkk:k≤k') (hb:Binds X.K fd ps [])
    (ha:MA X cl (e::es) fs) (hst:starEach (e::es) X.env=(false,eval e X.env)::starEach es X.env:=by exact star_of rfl) (hpl:(backTo pos (starEach es X.env)).any (·.1)=false:=by exact plain_of rfl)
    (ht:eval (.Call (.Attribute o nm apos) (e::es) [] pos) X.env=(do
      let ov ← eval o X.env
      standAt apos.atName
      let (f,first) ← holding [ov] (getMethod ov nm pl)
      callWith pos f first (backTo pos (starEach (e::es) X.env)) (backToKw pos (keywordEach [] X.env))):=by rfl):MEX X cl W (.Call (.Attribute o nm apos) (e::es) [] pos) (mxMeth kc nm fx f fs) :=
  PE.imp (pe_meth (pl:=pl) ho c hm G (hr.mono hkk) hb .nil hx ha hst hpl ht) fun σ H Q ⟨θ,F,w,cc,s',m,v,hf,q⟩=>by
    obtain ⟨⟨d0,s0⟩,h0,hf⟩:=bind_some hf
    cases d0 with
    | d x=>cases hf
    | r n =>
      dsimp only at hf
      split at hf
      · rename_i k' as hc
        split at hf
        · rename_i hk
          obtain ⟨⟨ds,s1⟩,h1,hf⟩:=bind_some hf
          obtain ⟨hk1,hk2⟩:=hk
          rw [hk1] at hc
          refine ⟨θ,F,w,.r n,s0,m,v,h0,fun u θ1 F1 H1 p1 q1 m1 r1=>?_⟩
          obtain ⟨a,e1,rfl⟩:=id r1
          obtain ⟨c1,c2,c3,dx,xs,c4,c5⟩:=m1.cel n a _ e1 hc
          refine ⟨a,dx,xs,rfl,c4,(c5.look nm).2 hk2,θ1,F1,⟨w.η,s0⟩,ds,s1,m1,v.mono p1 q1,h1,fun vs θ2 F2 H2 p2 q2 m2 r2=>?_⟩
          show spMX X.K cl ca fx (.ref a::(vs++[])) H2 Q (EW ca W)
          rw [List.append_nil]
          exact ⟨θ2,F2,s1,.r n::ds,cc,s',m2,.cons (DR.mono p2 q2 r1) r2,hf,fun θ3 F3 H3 p3 q3 m3=>⟨cc,rfl,q θ3 F3 H3 (p1.trans (p2.trans p3)) (q1.trans (q2.trans q3)) m3⟩⟩
        · cases hf
      · cases hf
theorem MEX.meth0 {pl:Sem Bool} {k k' kc:Nat} {fa:Addr} {fd:FuncData} {ps:List Str} {nm:Str} {apos:Pos} {fx:List D→Sto→Option (Nat×Sto)} (ho:ME X cl o f) (c:Cls X.K (cl kc)) (hm:Meth X.K (cl kc) nm fa) (G:FnOk X.prog X.w X.K X.mg X.base (CXX X.prog X.w) k fa fd ps (spMX X.K cl ca fx)) (hx:XOk X ca W) (hr:Room k' X.A) (hkk:k≤k') (hb:Binds X.K fd ps [])
    (ht:eval (.Call (.Attribute o nm apos) [] [] pos) X.env=(do
      let ov ← eval o X.env
      standAt apos.atName
      let (f,first) ← holding [ov] (getMethod ov nm pl)
      callWith pos f first (backTo pos (starEach [] X.env)) (backToKw pos (keywordEach [] X.env))):=by rfl):MEX X cl W (.Call (.Attribute o nm apos) [] [] pos) (mxMeth kc nm fx f maN) :=
  PE.imp (pe_meth0 (pl:=pl) ho c hm G (hr.mono hkk) hb .nil hx ht) fun σ H Q ⟨θ,F,w,cc,s',m,v,hf,q⟩=>by
    obtain ⟨⟨d0,s0⟩,h0,hf⟩:=bind_some hf
    cases d0 with
    | d x=>cases hf
    | r n =>
      dsimp only at hf
      split at hf
      · rename_i k' as hc
        split at hf
        · rename_i hk
          obtain ⟨⟨ds,s1⟩,h1,hf⟩:=bind_some hf
          obtain ⟨hk1,hk2⟩:=hk
          rw [hk1] at hc
          cases h1
          refine ⟨θ,F,w,.r n,s0,m,v,h0,fun u θ1 F1 H1 p1 q1 m1 r1=>?_⟩
          obtain ⟨a,e1,rfl⟩:=id r1
          obtain ⟨c1,c2,c3,dx,xs,c4,c5⟩:=m1.cel n a _ e1 hc
          exact ⟨a,dx,xs,rfl,c4,(c5.look nm).2 hk2,θ1,F1,s0,[.r n],cc,s',m1,.cons r1 .nil,hf,fun θ3 F3 H3 p3 q3 m3=>⟨cc,rfl,q θ3 F3 H3 (p1.trans p3) (q1.trans q3) m3⟩⟩
        · cases hf
      · cases hf
theorem MEX.arg {pl:Sem Bool} {k k' kc:Nat} {fa:Addr} {fd:FuncData} {ps:List Str} {nm:Str} {apos:Pos} {fn:List D→Sto→Option (D×Sto)} (ho:ME X cl o f) (c:Cls X.K (cl kc)) (hm:Meth X.K (cl kc) nm fa) (G:FnOk X.prog X.w X.K X.mg X.base CX0 k fa fd ps (spM X.K cl fn)) (hr:Room k' X.A) (hkk:k≤k') (hb:Binds X.K fd ps [])
    (ha:MAX X cl W (e::es) g) (hst:starEach (e::es) X.env=(false,eval e X.env)::starEach es X.env:=by exact star_of rfl) (hpl:(backTo pos (starEach es X.env)).any (·.1)=false:=by exact plain_of rfl)
    (ht:eval (.Call (.Attribute o nm apos) (e::es) [] pos) X.env=(do
      let ov ← eval o X.env
      standAt apos.atName
      let (f,first) ← holding [ov] (getMethod ov nm pl)
      callWith pos f first (backTo pos (starEach (e::es) X.env)) (backToKw pos (keywordEach [] X.env))):=by rfl):MEX X cl W (.Call (.Attribute o nm apos) (e::es) [] pos) (mxArg kc nm f g) :=
  PE.imp (pe_meth (pl:=pl) ho c hm G (hr.mono hkk) hb .nil pass0 ha hst hpl ht) fun σ H Q ⟨θ,F,w,cc,s',m,v,hf,q⟩=>by
    obtain ⟨⟨d0,s0⟩,h0,hf⟩:=bind_some hf
    cases d0 with
    | d x=>cases hf
    | r n =>
      dsimp only at hf
      split at hf
      · rename_i k' as hc
        split at hf
        · rename_i hk
          obtain ⟨hk1,hk2⟩:=hk
          rw [hk1] at hc
          refine ⟨θ,F,w,.r n,s0,m,v,h0,fun u θ1 F1 H1 p1 q1 m1 r1=>?_⟩
          obtain ⟨a,e1,rfl⟩:=id r1
          obtain ⟨c1,c2,c3,dx,xs,c4,c5⟩:=m1.cel n a _ e1 hc
          exact ⟨a,dx,xs,rfl,c4,(c5.look nm).2 hk2,θ1,F1,⟨w.η,s0⟩,cc,s',m1,v.mono p1 q1,hf,fun θ3 F3 H3 p3 q3 m3=>q θ3 F3 H3 (p1.trans p3) (q1.trans q3) m3⟩
        · cases hf
      · cases hf
theorem MS.nx (h:MS X.nox cl st u):MS X cl st u:=PS.nox h
end
def runMX (n m:Nat) (g:MXF):List D→Sto→Option (Nat×Sto):=fun ds s=>if ds.length=n then g ⟨ds.map some++List.replicate (m - n) none,s⟩ else none
section
variable {P:Program} {w:World} {K:PySem.W.Frag} {mg:Str→Option Value} {base:Heap} {ca cl:Nat→Addr}
theorem fnMX {x qual:Str} {st:Stmt} {f:Addr} {fd:FuncData} {N ps:List Str} {k:Nat} {g:MXF} (Fn:Fun K x qual st f fd) (Sc:FnScope N ps (defScope st))
    (hb:∀ (cdv:Value) (A:Around) (outer:List Env) (s:Shared) (H:Hp) (E:XK) (W:Nat→Hp→Prop),Room k (A.deeper (envOfC qual (defScope st) s.heap.objs.size f cdv)) →
      XOk (cxOf (CXX P w) P w K mg base N qual (defScope st) f cdv A outer s H E) ca W→XMd (cxOf (CXX P w) P w K mg base N qual (defScope st) f cdv A outer s H E) ca W →
      MSsX (cxOf (CXX P w) P w K mg base N qual (defScope st) f cdv A outer s H E) cl W (defBody st) g) :
    FnOk P w K mg base (CXX P w) (k+1) f fd ps (spMX K cl ca (runMX ps.length N.length g)):=by
  obtain ⟨oc,od,kV,doc,pm,an,cdv,ct,osl,rfl,lk,hcd⟩:=Fn.ex
  refine fn_of lk hcd Sc (fun vs H Q E h=>?_) fun A outer s H vs Q E hr h=>?_
  · obtain ⟨θ,F,s,ds,c,s',_,r,e,_⟩:=h
    unfold runMX at e
    split at e
    · rename_i hl
      rw [← Paired.length r]; exact hl
    · cases e
  · obtain ⟨θ,F,s0,ds,c,s',m,r,e,q⟩:=h
    refine ⟨_,hb cdv A outer s H E (fun c H'=>E (.ref (ca c)) none H') hr (fun pins σ H1 s1 ev s2 I x=>?_) (fun pins σ H1 s1 c vs h' ev I x y=>leave_made I x y),?_⟩
    · obtain ⟨a,C,H',rfl,fl,c',ec,y⟩:=x
      cases ec
      exact leave_on I fl y
    · unfold runMX at e
      split at e
      · rename_i hl
        have z:=MV.start (K:=K) (N:=N) r
        rw [hl] at z
        exact ⟨θ,F,⟨_,s0⟩,c,s',m,z,e,q⟩
      · cases e
end
def mTry (g:MXF) (hd:Nat→Option PyData) (u:Wd→Option MOut):Wd→Option MOut:=fun w=>match g w with
  | some r=>(hd r.1).bind fun d=>some (.rt (.d d) r.2)
  | none=>u w
section
variable {X:Cx} {cl ca:Nat→Addr} {body:List Stmt} {h₀:ExceptHandler} {hs:List ExceptHandler} {pos:Pos} {g:MXF} {u:Wd→Option MOut} {hd:Nat→Option PyData}
theorem MS.tryX (hb:∀ xe pn,MSs (Cx.tri X xe pn) cl body u) (hx:∀ xe pn W,XOk (Cx.tri X xe pn) ca W→MSsX (Cx.tri X xe pn) cl W body g) (hh:∀ B,Hdl X B ca (h₀::hs) hd):MS X cl (.Try body (h₀::hs) [] [] pos) (mTry g hd u):=by
  intro pins s σ H D I ⟨θ,F,w,o,m,v,e,q⟩
  refine wpAny_Try_except ?_
  have fin:∀ (xe:Value→Shared→Prop) (f:Flow) (s₁:Shared),SP (Cx.tri X xe (X.pn++pins)) [] D f s₁→(match f with | .next=>wpAny (model X.prog X.w) X.A (execs [] X.env) (SP X pins D) X.xe s₁ | f=>SP X pins D f s₁):=fun xe f s₁ h=>by
    have h':=SP.untri h
    cases f with
    | next=>exact wpAny_execs_nil h'
    | brk=>exact h'
    | cont=>exact h'
    | ret u=>exact h'
  unfold mTry at e
  split at e
  · rename_i r eg
    obtain ⟨c,sx⟩:=r
    obtain ⟨d,ed,e⟩:=bind_some e
    cases e
    refine wpAny_mono (hx _ (X.pn++pins) (fun c' H'=>c'=c∧∃ θ' F',θ <+: θ'∧Same F F'∧MR X.K cl θ' F' H' sx) ?_ [] s σ H D (inv_tri I _) ⟨θ,F,w,c,sx,m,v,eg,fun θ' F' H' p' q' m'=>⟨rfl,θ',F',p',q',m'⟩⟩) (fun f s₁ h=>fin _ f s₁ h) fun _ _ z=>z
    intro pins' σ' H1 s1 ev s2 I' hX
    obtain ⟨a,C,H',e1,fl,c',e2,e3,θ',F',p',q',m'⟩:=hX
    subst e1 e3
    cases e2
    exact hh ⟨F',H'⟩ pins σ' H1 s1 D a _ H' s2 d F' (inv_untri I') fl (.refl m'.sm) ed fun x F'' H'' gr rx=>q x θ' F'' H'' p' (q'.trans gr.ff) (m'.grow gr) rx
  · exact wpAny_mono (hb _ (X.pn++pins) [] s σ H D (inv_tri I _) ⟨θ,F,w,o,m,v,e,q⟩) (fun f s₁ h=>fin _ f s₁ h) fun _ _ z=>z
end
end L2.PU
namespace L2.PU
open PySem PySem.Spec PyProof.Rows
theorem MEX.ifE {X:Cx} {cl:Nat→Addr} {W:Nat→Hp→Prop} {a b c:Expr} {p:MTF} {g g':MXF} {pos:Pos} (hc:MT X cl c p) (ha:MEX X cl W a g) (hb:MEX X cl W b g'):MEX X cl W (.IfExp c a b pos) (mxIf p g g'):=PE.imp (pe_ifExp hc ha hb) fun σ H Q ⟨θ,F,w,c,s',m,v,h,q⟩=>by
  obtain ⟨⟨b,s1⟩,h1,hd⟩:=bind_some h
  refine ⟨θ,F,w,b,s1,m,v,h1,fun θ1 F1 H1 p1 q1 m1=>?_⟩
  cases b with
  | false =>
    rw [if_neg Bool.false_ne_true] at hd ⊢
    exact ⟨θ1,F1,⟨w.η,s1⟩,c,s',m1,v.mono p1 q1,hd,fun θ2 F2 H2 p2 q2 m2=>q θ2 F2 H2 (p1.trans p2) (q1.trans q2) m2⟩
  | true =>
    rw [if_pos rfl] at hd ⊢
    exact ⟨θ1,F1,⟨w.η,s1⟩,c,s',m1,v.mono p1 q1,hd,fun θ2 F2 H2 p2 q2 m2=>q θ2 F2 H2 (p1.trans p2) (q1.trans q2) m2⟩
end L2.PU
namespace L2.PU
open PySem PySem.Spec PyProof.Rows
def mTruL (f:MF):MTF:=fun w=>(f w).bind fun r=>match r.1 with
  | .r n=>(match r.2[n]? with
    | some (.lst ds)=>some (!ds.isEmpty,r.2)
    | _=>none)
  | _=>none
def mLenL (f:MF):MF:=fun w=>(f w).bind fun r=>match r.1 with
  | .r n=>(match r.2[n]? with
    | some (.lst ds)=>some (.d (.int ds.length),r.2)
    | _=>none)
  | _=>none
def mPopL (f:MF):MF:=fun w=>(f w).bind fun r=>match r.1 with
  | .r n=>(match r.2[n]? with
    | some (.lst ds)=>(ds[ds.length - 1]?).bind fun d=>some (d,r.2.set n (.lst ds.dropLast))
    | _=>none)
  | _=>none
def mTupD (fs:MFs):MF:=fun w=>(fs w).bind fun r=>(pDs r.2 r.1).bind fun xs=>if xs.length≤sizeLine then some (.d (.tuple xs),r.2) else none
theorem paired_drop {α β:Type} {R:α→β→Prop} {as:List α} {bs:List β} (h:Paired R as bs):Paired R as.dropLast bs.dropLast:=by
  induction h with
  | nil=>exact .nil
  | @cons a b as bs q t ih =>
    cases t with
    | nil=>exact .nil
    | cons q2 t2=>exact .cons q ih
section
variable {X:Cx} {cl:Nat→Addr} {o e:Expr} {f:MF} {apos cpos pos pp:Pos}
theorem MT.truL (he:ME X cl e f) (hi:∀ whole,isTrue e X.env whole=(do let v ← whole; standAt e.pos; holding [v] (truthy v)):=by intro _; rfl):MT X cl e (mTruL f):=PT.imp (pt_truth he hi) fun σ H Q ⟨θ,F,w,b,s',m,v,hf,q⟩=>by
  obtain ⟨⟨d1,s1⟩,h1,hf⟩:=bind_some hf
  cases d1 with
  | d x=>cases hf
  | r n =>
    dsimp only at hf
    split at hf
    · rename_i ds hc
      cases hf
      refine ⟨θ,F,w,_,_,m,v,h1,fun u θ1 F1 H1 p1 q1 m1 r1=>?_⟩
      obtain ⟨ad,z1,rfl⟩:=r1
      obtain ⟨w1,xs,w3,w4⟩:=m1.cel n ad _ z1 hc
      have hlx:=paired_len w4
      refine ⟨_,.inl ⟨xs,SqL.of w3,?_⟩,q θ1 F1 H1 p1 q1 m1⟩
      cases w4 with
      | nil=>rfl
      | cons _ _=>rfl
    · cases hf
theorem ME.lenL (hm:X.mg "len" = none) (ha:ME X cl e f) (hg:Gl X "len" := by rfl) (he:starEach [e] X.env=(false,eval e X.env)::starEach [] X.env:=by exact star_of rfl):ME X cl (.Call (.Name "len" pp) [e] [] pos) (mLenL f) :=
  PE.imp (pe_callB (call_len_seq.or call_len_str) hg hm PySem.boot_len (MA.cons ha MA.nil he) (by decide) (by decide) he (plain_of rfl)) fun σ H Q ⟨θ,F,w,d,s',m,v,hf,q⟩=>by
    obtain ⟨⟨d1,s1⟩,h1,hf⟩:=bind_some hf
    cases d1 with
    | d x=>cases hf
    | r n =>
      dsimp only at hf
      split at hf
      · rename_i ds hc
        cases hf
        refine ⟨θ,F,w,[.r n],_,m,v,maC_of h1 maN_of,fun vs θ1 F1 H1 p1 q1 m1 r1=>?_⟩
        cases r1 with
        | cons ra rn =>
          cases rn
          obtain ⟨ad,z1,rfl⟩:=ra
          obtain ⟨w1,xs,w3,w4⟩:=m1.cel n ad _ z1 hc
          have hlx:=paired_len w4
          refine .inl ⟨ad,xs,rfl,.inl (SqL.of w3),q _ θ1 F1 H1 p1 q1 m1 ?_⟩
          show Rel X.K F1 (.int ds.length) (.int xs.length)
          rw [hlx]
          exact rel_int
      · cases hf
theorem ME.popL (ho:ME X cl o f) (hbase:attributeBase o "pop" X.env (eval o X.env)=eval o X.env:=by rfl)
    (hline:(apos.endLine==cpos.line)=true:=by rfl):ME X cl (.Call (.Attribute o "pop" apos) [] [] cpos) (mPopL f) :=
  PE.imp (pe_bm0 PySem.F.plainAttrs_list PySem.F.slot_list_pop PySem.F.type_list_pop mt_pop ho hbase hline) fun σ H Q ⟨θ,F,w,d,s',m,v,hf,q⟩=>by
    obtain ⟨⟨d1,s1⟩,h1,hf⟩:=bind_some hf
    cases d1 with
    | d x=>cases hf
    | r n =>
      dsimp only at hf
      split at hf
      · rename_i ds hc
        obtain ⟨d2,hd,hf⟩:=bind_some hf
        cases hf
        refine ⟨θ,F,w,_,s1,m,v,h1,fun u θ1 F1 H1 p1 q1 m1 r1=>?_⟩
        obtain ⟨ad,z1,rfl⟩:=r1
        obtain ⟨w1,xs,w3,w4⟩:=m1.cel n ad _ z1 hc
        have hlx:=paired_len w4
        obtain ⟨y,e1,e2⟩:=DRs.get w4 hd
        rw [hlx] at e1
        refine ⟨.inl ⟨rfl,xs,SqL.of w3⟩,ad,xs,y,rfl,rfl,w3,e1,?_⟩
        exact q _ θ1 F1 _ p1 q1 (m1.put (c':=.lst ds.dropLast) z1 hc rfl ⟨w1,xs.dropLast,upd_same,paired_drop w4⟩) e2
      · cases hf
theorem ME.tupM {x1} {es:List Expr} {fs:MFs} (h:MA X cl es fs):ME X cl (.Tuple es x1 pos) (mTupD fs):=PE.imp (pe_tup h) fun σ H Q ⟨θ,F,w,d,s',m,v,hf,q⟩=>by
  obtain ⟨⟨ds,s1⟩,h1,hf⟩:=bind_some hf
  obtain ⟨xs,h2,hf⟩:=bind_some hf
  split at hf
  · rename_i hl
    cases hf
    refine ⟨θ,F,w,ds,_,m,v,h1,fun vs θ1 F1 H1 p1 q1 m1 r1=>?_⟩
    have rs:=pDs_rel m1 r1 h2
    refine ⟨by rw [rs.length]; exact hl,fun p hp=>?_⟩
    have g2:Gr F1 H1 (upd F1 p (.tup vs)) (upd H1 p (.tup vs)):=Gr.one m1.sm hp
    exact q _ θ1 _ _ p1 (q1.trans g2.ff) (m1.grow g2) (show Rel X.K _ (.tuple xs) (.ref p) from rel_tup (SqT.of upd_same) (rs.mono g2.ff))
  · cases hf
end
end L2.PU
namespace L2.PU
open PySem PySem.Spec PyProof.Rows
section
variable {X:Cx} {tg a b c:Expr} {B:Bd} {fs:En→Option (List PyData)} {pos:Pos}
end
section
variable {X:Cx} {cl:Nat→Addr} {tg a b e:Expr} {f g:MF} {pos:Pos}
end
end L2.PU
namespace L2.PU
open PySem PySem.Spec PyProof.Rows
theorem tg_len5 {t u v w x:En→PyData→Option En}:∀ η ds η',tgCons t (tgCons u (tgCons v (tgCons w (tgCons x tgNil)))) η ds=some η'→ds.length=5:=fun η ds η' h=>by
  match ds,h with
  | d::r,h =>
    obtain ⟨η1,_,h⟩:=bind_some h
    rw [List.length_cons,tg_len4 _ _ _ h]
end L2.PU
namespace K53
open PySem L2 L2.PU
abbrev DFn:=List D→Sto→Option (D×Sto)
abbrev PFn:=List PyData→Option PyData
set_option maxHeartbeats 4000000
def top (i:Nat):Stmt:=PySem.Challenge.pw_touchtree_k53_plans.main.body.getD i (.Pass ⟨0,0,0,0⟩)
abbrev s_qcell:Stmt:=top 29
abbrev s_qdrawn:Stmt:=top 30
abbrev s_qscene:Stmt:=top 31
abbrev s_X___init__:Stmt:=inClass (top 27) 0
abbrev s_qsome:Stmt:=top 39
abbrev s_qput:Stmt:=top 37
abbrev s_qbox:Stmt:=top 32
abbrev s_qpainted:Stmt:=top 34
abbrev s_qpath:Stmt:=top 33
abbrev s_qnext:Stmt:=top 38
abbrev s_X_now:Stmt:=inClass (top 27) 1
abbrev s_X_step_to:Stmt:=inClass (top 27) 2
abbrev s_has_box:Stmt:=top 14
abbrev s_with_box:Stmt:=top 18
abbrev s_X_put:Stmt:=inClass (top 27) 3
abbrev s_box_of:Stmt:=top 15
abbrev s_children:Stmt:=top 16
abbrev s_below:Stmt:=top 17
abbrev s_cut:Stmt:=top 19
abbrev s_X_take:Stmt:=inClass (top 27) 4
abbrev s_raised:Stmt:=top 20
abbrev s_X_lift:Stmt:=inClass (top 27) 5
abbrev s_with_other:Stmt:=top 21
abbrev s_marked:Stmt:=top 22
abbrev s_X_mark:Stmt:=inClass (top 27) 6
abbrev s_put_at:Stmt:=top 23
abbrev s_X_lay:Stmt:=inClass (top 27) 7
abbrev s_X_back:Stmt:=inClass (top 27) 8
abbrev s_X_forth:Stmt:=inClass (top 27) 9
abbrev s_qtold:Stmt:=top 36
abbrev s_X_sizes:Stmt:=inClass (top 27) 10
abbrev s_law:Stmt:=top 40
abbrev s_qrefused:Stmt:=top 35
structure Adr where
  C_Plan:Addr
  _law_cell:Addr
  d_qcell:FuncData
  _law_drawn:Addr
  d_qdrawn:FuncData
  _law_scene:Addr
  d_qscene:FuncData
  X___init__:Addr
  d_X___init__:FuncData
  _law_some:Addr
  d_qsome:FuncData
  _law_put:Addr
  d_qput:FuncData
  _law_box:Addr
  d_qbox:FuncData
  _law_painted:Addr
  d_qpainted:FuncData
  _law_path:Addr
  d_qpath:FuncData
  _law_next:Addr
  d_qnext:FuncData
  X_now:Addr
  d_X_now:FuncData
  X_step_to:Addr
  d_X_step_to:FuncData
  has_box:Addr
  d_has_box:FuncData
  with_box:Addr
  d_with_box:FuncData
  X_put:Addr
  d_X_put:FuncData
  box_of:Addr
  d_box_of:FuncData
  children:Addr
  d_children:FuncData
  below:Addr
  d_below:FuncData
  cut:Addr
  d_cut:FuncData
  X_take:Addr
  d_X_take:FuncData
  raised:Addr
  d_raised:FuncData
  X_lift:Addr
  d_X_lift:FuncData
  with_other:Addr
  d_with_other:FuncData
  marked:Addr
  d_marked:FuncData
  X_mark:Addr
  d_X_mark:FuncData
  put_at:Addr
  d_put_at:FuncData
  X_lay:Addr
  d_X_lay:FuncData
  X_back:Addr
  d_X_back:FuncData
  X_forth:Addr
  d_X_forth:FuncData
  _law_told:Addr
  d_qtold:FuncData
  X_sizes:Addr
  d_X_sizes:FuncData
  law:Addr
  d_law:FuncData
  _law_refused:Addr
  d_qrefused:FuncData
  t_AROUND:Tok
  t_LEFT:Tok
  t_MARKS:Tok
  t_MOST_BOXES:Tok
  t_NAME:Tok
  t_SCENE:Tok
  t_WIDTH:Tok
  t_WORD:Tok
  NoBox:Addr
  Taken:Addr
  TooMany:Addr
  NoNumber:Addr
  TouchError:Addr
def cl (t:Adr):Nat→Addr
  | _=>t.C_Plan
def ca (t:Adr):Nat→Addr:=fun c=>match c with | 0=>t.NoBox | 1=>t.Taken | 2=>t.TooMany | _=>t.NoNumber
structure Tx (K:PySem.W.Frag) (mg:Str→Option Value) (t:Adr):Prop where
  cl_Plan:Cls K (cl t 0)
  mk_Plan:Mk K (cl t 0) t.X___init__
  mg_Plan:mg "Plan" = some (.ref (cl t 0))
  na_Plan_done:NoAttr K (cl t 0) "done"
  na_Plan_scene:NoAttr K (cl t 0) "scene"
  na_Plan_undone:NoAttr K (cl t 0) "undone"
  F_qcell:Fun K "_law_cell" "_law_cell" s_qcell t._law_cell t.d_qcell
  m_qcell:mg "_law_cell" = some (.ref t._law_cell)
  b_qcell:Binds K t.d_qcell ["_law_script", "_law_k"] []
  F_qdrawn:Fun K "_law_drawn" "_law_drawn" s_qdrawn t._law_drawn t.d_qdrawn
  m_qdrawn:mg "_law_drawn" = some (.ref t._law_drawn)
  b_qdrawn:Binds K t.d_qdrawn ["_law_script", "_law_k", "_law_many"] []
  F_qscene:Fun K "_law_scene" "_law_scene" s_qscene t._law_scene t.d_qscene
  m_qscene:mg "_law_scene" = some (.ref t._law_scene)
  b_qscene:Binds K t.d_qscene ["_law_script", "_law_at"] []
  F_X___init__:Fun K "__init__" "Plan.__init__" s_X___init__ t.X___init__ t.d_X___init__
  b_X___init__:Binds K t.d_X___init__ ["self", "scene"] []
  F_qsome:Fun K "_law_some" "_law_some" s_qsome t._law_some t.d_qsome
  m_qsome:mg "_law_some" = some (.ref t._law_some)
  b_qsome:Binds K t.d_qsome ["_law_script", "_law_here"] []
  F_qput:Fun K "_law_put" "_law_put" s_qput t._law_put t.d_qput
  m_qput:mg "_law_put" = some (.ref t._law_put)
  b_qput:Binds K t.d_qput ["_law_scene_here", "_law_names", "_law_box_here"] []
  F_qbox:Fun K "_law_box" "_law_box" s_qbox t._law_box t.d_qbox
  m_qbox:mg "_law_box" = some (.ref t._law_box)
  b_qbox:Binds K t.d_qbox ["_law_scene_here", "_law_name"] []
  F_qpainted:Fun K "_law_painted" "_law_painted" s_qpainted t._law_painted t.d_qpainted
  m_qpainted:mg "_law_painted" = some (.ref t._law_painted)
  b_qpainted:Binds K t.d_qpainted ["_law_scene_here", "_law_around"] []
  F_qpath:Fun K "_law_path" "_law_path" s_qpath t._law_path t.d_qpath
  m_qpath:mg "_law_path" = some (.ref t._law_path)
  b_qpath:Binds K t.d_qpath ["_law_scene_here", "_law_name"] []
  F_qnext:Fun K "_law_next" "_law_next" s_qnext t._law_next t.d_qnext
  m_qnext:mg "_law_next" = some (.ref t._law_next)
  b_qnext:Binds K t.d_qnext ["_law_scene_here", "_law_way", "_law_some_here"] []
  F_X_now:Fun K "now" "Plan.now" s_X_now t.X_now t.d_X_now
  me_X_now:Meth K (cl t 0) "now" t.X_now
  b_X_now:Binds K t.d_X_now ["self"] []
  F_X_step_to:Fun K "step_to" "Plan.step_to" s_X_step_to t.X_step_to t.d_X_step_to
  me_X_step_to:Meth K (cl t 0) "step_to" t.X_step_to
  b_X_step_to:Binds K t.d_X_step_to ["self", "word", "scene"] []
  F_has_box:Fun K "has_box" "has_box" s_has_box t.has_box t.d_has_box
  m_has_box:mg "has_box" = some (.ref t.has_box)
  b_has_box:Binds K t.d_has_box ["scene", "name"] []
  F_with_box:Fun K "with_box" "with_box" s_with_box t.with_box t.d_with_box
  m_with_box:mg "with_box" = some (.ref t.with_box)
  b_with_box:Binds K t.d_with_box ["scene", "box"] []
  F_X_put:Fun K "put" "Plan.put" s_X_put t.X_put t.d_X_put
  me_X_put:Meth K (cl t 0) "put" t.X_put
  b_X_put:Binds K t.d_X_put ["self", "box"] []
  F_box_of:Fun K "box_of" "box_of" s_box_of t.box_of t.d_box_of
  m_box_of:mg "box_of" = some (.ref t.box_of)
  b_box_of:Binds K t.d_box_of ["scene", "name"] []
  F_children:Fun K "children" "children" s_children t.children t.d_children
  m_children:mg "children" = some (.ref t.children)
  b_children:Binds K t.d_children ["scene", "name"] []
  F_below:Fun K "below" "below" s_below t.below t.d_below
  m_below:mg "below" = some (.ref t.below)
  b_below:Binds K t.d_below ["scene", "name"] []
  F_cut:Fun K "cut" "cut" s_cut t.cut t.d_cut
  m_cut:mg "cut" = some (.ref t.cut)
  b_cut:Binds K t.d_cut ["scene", "name"] []
  F_X_take:Fun K "take" "Plan.take" s_X_take t.X_take t.d_X_take
  me_X_take:Meth K (cl t 0) "take" t.X_take
  b_X_take:Binds K t.d_X_take ["self", "name"] []
  F_raised:Fun K "raised" "raised" s_raised t.raised t.d_raised
  m_raised:mg "raised" = some (.ref t.raised)
  b_raised:Binds K t.d_raised ["scene", "name"] []
  F_X_lift:Fun K "lift" "Plan.lift" s_X_lift t.X_lift t.d_X_lift
  me_X_lift:Meth K (cl t 0) "lift" t.X_lift
  b_X_lift:Binds K t.d_X_lift ["self", "name"] []
  F_with_other:Fun K "with_other" "with_other" s_with_other t.with_other t.d_with_other
  m_with_other:mg "with_other" = some (.ref t.with_other)
  b_with_other:Binds K t.d_with_other ["scene", "other"] []
  F_marked:Fun K "marked" "marked" s_marked t.marked t.d_marked
  m_marked:mg "marked" = some (.ref t.marked)
  b_marked:Binds K t.d_marked ["scene", "name", "marks"] []
  F_X_mark:Fun K "mark" "Plan.mark" s_X_mark t.X_mark t.d_X_mark
  me_X_mark:Meth K (cl t 0) "mark" t.X_mark
  b_X_mark:Binds K t.d_X_mark ["self", "name", "marks"] []
  F_put_at:Fun K "put_at" "put_at" s_put_at t.put_at t.d_put_at
  m_put_at:mg "put_at" = some (.ref t.put_at)
  b_put_at:Binds K t.d_put_at ["scene", "name", "left", "top"] []
  F_X_lay:Fun K "lay" "Plan.lay" s_X_lay t.X_lay t.d_X_lay
  me_X_lay:Meth K (cl t 0) "lay" t.X_lay
  b_X_lay:Binds K t.d_X_lay ["self", "name", "left", "top"] []
  F_X_back:Fun K "back" "Plan.back" s_X_back t.X_back t.d_X_back
  me_X_back:Meth K (cl t 0) "back" t.X_back
  b_X_back:Binds K t.d_X_back ["self"] []
  F_X_forth:Fun K "forth" "Plan.forth" s_X_forth t.X_forth t.d_X_forth
  me_X_forth:Meth K (cl t 0) "forth" t.X_forth
  b_X_forth:Binds K t.d_X_forth ["self"] []
  F_qtold:Fun K "_law_told" "_law_told" s_qtold t._law_told t.d_qtold
  m_qtold:mg "_law_told" = some (.ref t._law_told)
  b_qtold:Binds K t.d_qtold ["_law_plan", "_law_way", "_law_some_here"] []
  F_X_sizes:Fun K "sizes" "Plan.sizes" s_X_sizes t.X_sizes t.d_X_sizes
  me_X_sizes:Meth K (cl t 0) "sizes" t.X_sizes
  b_X_sizes:Binds K t.d_X_sizes ["self"] []
  F_law:Fun K "law" "law" s_law t.law t.d_law
  m_law:mg "law" = some (.ref t.law)
  b_law:Binds K t.d_law ["_law_script"] []
  F_qrefused:Fun K "_law_refused" "_law_refused" s_qrefused t._law_refused t.d_qrefused
  m_qrefused:mg "_law_refused" = some (.ref t._law_refused)
  b_qrefused:Binds K t.d_qrefused ["_law_e"] []
  c_AROUND:mg "AROUND" = some (.int (1) t.t_AROUND)
  c_LEFT:mg "LEFT" = some (.int (2) t.t_LEFT)
  c_MARKS:mg "MARKS" = some (.int (6) t.t_MARKS)
  c_MOST_BOXES:mg "MOST_BOXES" = some (.int (12) t.t_MOST_BOXES)
  c_NAME:mg "NAME" = some (.int (0) t.t_NAME)
  c_SCENE:mg "SCENE" = some (.int (1) t.t_SCENE)
  c_WIDTH:mg "WIDTH" = some (.int (4) t.t_WIDTH)
  c_WORD:mg "WORD" = some (.int (0) t.t_WORD)
  z_ValueError:mg "ValueError" = none
  z_any:mg "any" = none
  z_enumerate:mg "enumerate" = none
  z_isinstance:mg "isinstance" = none
  z_len:mg "len" = none
  z_max:mg "max" = none
  z_min:mg "min" = none
  z_range:mg "range" = none
  z_tuple:mg "tuple" = none
  m_NoBox:mg "NoBox" = some (.ref t.NoBox)
  m_Taken:mg "Taken" = some (.ref t.Taken)
  m_TooMany:mg "TooMany" = some (.ref t.TooMany)
  m_NoNumber:mg "NoNumber" = some (.ref t.NoNumber)
  m_TouchError:mg "TouchError" = some (.ref t.TouchError)
  refs:Refs K (ca t)
  ex_TouchError:PySem.W.excIn K t.TouchError bmVE "ValueError.__new__" = true
  mro:∀ c,c < 4→PySem.W.mroIn K (ca t c) (.ref t.TouchError)=some true
section
variable {Pr:Program} {w:World} {K:PySem.W.Frag} {mg:Str→Option Value} {base:Heap} {t:Adr}
theorem sc_qrefused:FnScope ["_law_e", "_law_flags"] ["_law_e"] (defScope s_qrefused):=⟨rfl,rfl,rfl,by decide +kernel,rfl,by decide +kernel,by decide +kernel⟩
theorem G_qrefused (tx:Tx K mg t):FnC Pr w K mg base 1 t._law_refused t.d_qrefused ["_law_e"] (spE K (ca t)) :=
  fnC (k:=0) tx.F_qrefused sc_qrefused (fun vs H Q h=>by obtain ⟨x,c,F,rfl,_⟩:=h; rfl) fun cdv A outer s H vs Q h=>by
    obtain ⟨x,c,F,rfl,hc,hx,sm,q⟩:=h
    refine ⟨_,?_,ref_read tx.refs (tx:=fun _ _ _=>False) hc hx sm q⟩
    exact pss_cons (ps_set (i:=1) sc_qrefused.nd rfl (Or.inl rfl) (pe_lst (pa_cons (pe_isO tx.z_isinstance tx.m_NoBox) (pa_cons (pe_isO tx.z_isinstance tx.m_Taken) (pa_cons (pe_isO tx.z_isinstance tx.m_TooMany) pa_nil)))))
      (pss_cons (ps_set (i:=1) sc_qrefused.nd rfl (Or.inl rfl) (pe_op op_catS (pv 1) (pe_lst (pa_cons (pe_isO tx.z_isinstance tx.m_NoNumber) pa_nil))))
        (pss_cons (ps_if (PW.pt (pw_or (pt_cmpR op_ne (pe_bm PySem.F.plainAttrs_list PySem.F.slot_list_count PySem.F.type_list_count mt_cnt (pv 1) (pa_cons pe_bl pa_nil)) pe_int (nomark _)) (pw_or1 (pt_not (pt_val (pe_isT tx.z_isinstance tx.z_ValueError (by decide +kernel))))))) PSs.no pss_nil)
          (pss_one (ps_ret (pe_tup (pa_cons pe_str (pa_cons (pe_bm PySem.F.plainAttrs_list PySem.F.slot_list_index PySem.F.type_list_index mt_idx (pv 1) (pa_cons pe_bl pa_nil)) pa_nil)))))))
theorem sc_qcell:FnScope ["_law_script", "_law_k"] ["_law_script", "_law_k"] (defScope s_qcell):=⟨rfl,rfl,rfl,by decide +kernel,rfl,by decide +kernel,by decide +kernel⟩
def g_qcell  : En→Option Out :=
  (sSeq (sIf (bT (l2 pEq (eV 0) (oE (fun η=>(aN η).bind gL)))) (sRet (l2 pMul (eC (.int 7)) (eV 1))) sNx)
    (sRet (l2 pAdd (l2 pIx (eV 0) (l2 pMod (eV 1) (lA pLen (aC (eV 0) aN)))) (l2 pMul (eC (.int 6553)) (l2 pFdiv (eV 1) (lA pLen (aC (eV 0) aN)))))))
theorem ok_qcell {k:Nat} (tx:Tx K mg t)  : FnOk Pr w K mg base CX0 (k+1) t._law_cell t.d_qcell ["_law_script", "_law_k"] (spP K (runF 2 2 (g_qcell))) :=
  fnP tx.F_qcell sc_qcell fun _ _ _ _ _ _ _ hr =>
    (@Ss.cons _ _ _ _ _ _ (@S.ifS _ _ _ _ _ _ _ _ _ (T.eq hr (E.v 0) (EO.toE (EO.lst A.nil))) (@Ss.one _ _ _ _ (S.ret (E.mul E.int (E.v 1)))) Ss.nil)
    (@Ss.one _ _ _ _ (S.ret (E.add (E.at (E.v 0) (E.mod (E.v 1) (E.len tx.z_len (A.cons (E.v 0) A.nil)))) (E.mul E.int (E.fdiv (E.v 1) (E.len tx.z_len (A.cons (E.v 0) A.nil))))))))
theorem sc_qdrawn:FnScope ["_law_script", "_law_k", "_law_many", "_law_cell_here"] ["_law_script", "_law_k", "_law_many"] (defScope s_qdrawn):=⟨rfl,rfl,rfl,by decide +kernel,rfl,by decide +kernel,by decide +kernel⟩
def g_qdrawn (fn_qcell:PFn):En→Option Out :=
  (sSeq (sSet 3 (l2 pMod (l2 pAdd (l2 pMul (l2 pMod (lA fn_qcell (aC (eV 0) (aC (eV 1) aN))) (eC (.int 2147483563))) (eC (.int 69069))) (l2 pMul (eC (.int 104723)) (l2 pAdd (eV 1) (eC (.int 1))))) (eC (.int 2147483563))))
    (sSeq (sSet 3 (l2 pMod (l2 pAdd (l2 pMul (eV 3) (eV 3)) (l2 pFdiv (eV 3) (eC (.int 3)))) (eC (.int 2147483399))))
    (sRet (l2 pMod (l2 pFdiv (l2 pMod (l2 pAdd (l2 pMul (eV 3) (eV 3)) (l2 pFdiv (eV 3) (eC (.int 7)))) (eC (.int 2147483647))) (eC (.int 11))) (eV 2)))))
theorem ok_qdrawn {k:Nat} (tx:Tx K mg t) {k_qcell:Nat} {fn_qcell:PFn} (G_qcell:FnOk Pr w K mg base CX0 k_qcell t._law_cell t.d_qcell ["_law_script", "_law_k"] (spP K fn_qcell)) (hk_qcell:k_qcell≤k):FnOk Pr w K mg base CX0 (k+1) t._law_drawn t.d_qdrawn ["_law_script", "_law_k", "_law_many"] (spP K (runF 3 4 (g_qdrawn fn_qcell))) :=
  fnP tx.F_qdrawn sc_qdrawn fun _ _ _ _ _ _ _ hr =>
    (@Ss.cons _ _ _ _ _ _ (S.set 3 sc_qdrawn.nd (E.mod (E.add (E.mul (E.mod (E.call G_qcell hr (by omega) tx.m_qcell tx.F_qcell.kp tx.b_qcell (A.cons (E.v 0) (A.cons (E.v 1) A.nil))) E.int) E.int) (E.mul E.int (E.add (E.v 1) E.int))) E.int))
    (@Ss.cons _ _ _ _ _ _ (S.set 3 sc_qdrawn.nd (E.mod (E.add (E.mul (E.v 3) (E.v 3)) (E.fdiv (E.v 3) E.int)) E.int))
    (@Ss.one _ _ _ _ (S.ret (E.mod (E.fdiv (E.mod (E.add (E.mul (E.v 3) (E.v 3)) (E.fdiv (E.v 3) E.int)) E.int) E.int) (E.v 2))))))
abbrev N_qscene:List Str:=["_law_script", "_law_at", "_law_found", "_law_turn", "_law_k", "_law_here", "_law_around", "_law_places", "_law_sizes", "_law_marks", "_law_j", "_law_sign", "_law_name"]
theorem sc_qscene:FnScope ["_law_script", "_law_at", "_law_found", "_law_turn", "_law_k", "_law_here", "_law_around", "_law_places", "_law_sizes", "_law_marks", "_law_j", "_law_sign", "_law_name"] ["_law_script", "_law_at"] (defScope s_qscene):=⟨rfl,rfl,rfl,by decide +kernel,rfl,by decide +kernel,by decide +kernel⟩
def g_qscene (fn_qdrawn:PFn):En→Option Out :=
  (sSeq (sSet 2 (lA (fun ds=>if ds.length≤sizeLine then some (.tuple ds) else none) aN))
    (sSeq (sSet 3 (lA fn_qdrawn (aC (eV 0) (aC (l2 pAdd (eV 1) (eC (.int 1))) (aC (eC (.int 8)) aN)))))
    (sSeq (sFor (fun η=>((aC (lA fn_qdrawn (aC (eV 0) (aC (eV 1) (aC (eC (.int 8)) aN)))) aN) η).bind rng1) (tgN 4)
    (sSeq (sSet 5 (l2 pAdd (l2 pAdd (eV 1) (eC (.int 3))) (l2 pMul (eC (.int 9)) (eV 4))))
    (sSeq (sSet 6 (l2 pIx (l2 pAdd (oE (fun η=>((aC (eC (.str "")) aN) η).bind gL)) (oE (sComp [none] (lI asTu (eV 2)) (tgN 0) tTrue (l2 pIx (eV 0) (eC (.int 0)))))) (lA fn_qdrawn (aC (eV 0) (aC (eV 5) (aC (l2 pAdd (eV 4) (eC (.int 1))) aN))))))
    (sSeq (sSetO 7 (sComp [none,some 0,some 5] (fun η=>((aC (eC (.int 2)) aN) η).bind rng1) (tgN 0) tTrue (l2 pSub (lA fn_qdrawn (aC (eV 1) (aC (l2 pAdd (l2 pAdd (eV 2) (eC (.int 1))) (eV 0)) (aC (eC (.int 9)) aN)))) (eC (.int 3)))))
    (fun η=>(sSeq (sSetO 8 (sComp [none,some 0,some 5] (fun η=>((aC (eC (.int 2)) aN) η).bind rng1) (tgN 0) tTrue (lA fn_qdrawn (aC (eV 1) (aC (l2 pAdd (l2 pAdd (eV 2) (eC (.int 3))) (eV 0)) (aC (eC (.int 9)) aN))))))
    (fun η=>(sSeq (sSet 9 (eC (.str "")))
    (sSeq (sFor (fun η=>((aC (eC (.str "cfhl")) aN) η).bind enS) (tgT (tgCons (tgN 10) (tgCons (tgN 11) tgNil)))
    (sIf (bT (l2 pEq (lA fn_qdrawn (aC (eV 0) (aC (l2 pAdd (l2 pAdd (eV 5) (eC (.int 5))) (eV 10)) (aC (l2 pIx (oE (fun η=>((aC (eC (.int 4)) (aC (eC (.int 2)) (aC (eC (.int 9)) (aC (eC (.int 6)) aN)))) η).bind gL)) (eV 10)) aN)))) (eC (.int 0)))) (sSet 9 (l2 pAdd (eV 9) (eV 11))) sNx))
    (sSeq (sSet 12 (l2 pIx (eC (.str "dbgahcfe")) (l2 pMod (l2 pAdd (eV 4) (eV 3)) (eC (.int 8)))))
    (sSet 2 (l2 pAdd (eV 2) (lA (fun ds=>if ds.length≤sizeLine then some (.tuple ds) else none) (aC (l2 pAdd (l2 pAdd (lA (fun ds=>if ds.length≤sizeLine then some (.tuple ds) else none) (aC (eV 12) (aC (eV 6) aN))) (lA pTup (aC (l2 pAdd (eV 7) (eV 8)) aN))) (lA (fun ds=>if ds.length≤sizeLine then some (.tuple ds) else none) (aC (eV 9) aN))) aN))))))) (frz 8 η))) (frz 7 η))))))
    (sRet (eV 2)))))
theorem ok_qscene {k:Nat} (tx:Tx K mg t) {k_qdrawn:Nat} {fn_qdrawn:PFn} (G_qdrawn:FnOk Pr w K mg base CX0 k_qdrawn t._law_drawn t.d_qdrawn ["_law_script", "_law_k", "_law_many"] (spP K fn_qdrawn)) (hk_qdrawn:k_qdrawn≤k):FnOk Pr w K mg base CX0 (k+1) t._law_scene t.d_qscene ["_law_script", "_law_at"] (spP K (runF 2 13 (g_qscene fn_qdrawn))) :=
  fnP tx.F_qscene sc_qscene fun _ _ _ _ _ _ _ hr =>
    (@Ss.cons _ _ _ _ _ _ (S.set 2 sc_qscene.nd (E.tup A.nil))
    (@Ss.cons _ _ _ _ _ _ (S.set 3 sc_qscene.nd (E.call G_qdrawn hr (by omega) tx.m_qdrawn tx.F_qdrawn.kp tx.b_qdrawn (A.cons (E.v 0) (A.cons (E.add (E.v 1) E.int) (A.cons E.int A.nil)))))
    (@Ss.cons _ _ _ _ _ _ (@S.for _ _ _ _ _ _ _ _ _ _ _ PassesOwn.never rfl (I.rng1 tx.z_range (A.cons (E.call G_qdrawn hr (by omega) tx.m_qdrawn tx.F_qdrawn.kp tx.b_qdrawn (A.cons (E.v 0) (A.cons (E.v 1) (A.cons E.int A.nil)))) A.nil)) (pg_name (i:=4) sc_qscene.nd rfl (by first | exact Or.inl rfl | exact Or.inr rfl) ) (TgP.name (i:=4))
    (@Ss.cons _ _ _ _ _ _ (S.set 5 sc_qscene.nd (E.add (E.add (E.v 1) E.int) (E.mul E.int (E.v 4))))
    (@Ss.cons _ _ _ _ _ _ (S.set 6 sc_qscene.nd (E.at (E.add (EO.toE (EO.lst (A.cons E.str A.nil))) (EO.toE (EO.comp (N':=["_law_box_here"]) (mp:=[none]) rfl (CompSc.of' N_qscene (defScope s_qscene) rfl rfl (by decide +kernel)) (TgP.name (i:=0)) (by decide) (I.tup (E.v 2)) (fun _ _ _=>⟨(pg_name (i:=0) (show (["_law_box_here"]:List Str).Nodup by decide +kernel) rfl (Or.inl rfl) (.inr rfl)),Ts.nil,(E.at (E.v 0) E.int)⟩)))) (E.call G_qdrawn hr (by omega) tx.m_qdrawn tx.F_qdrawn.kp tx.b_qdrawn (A.cons (E.v 0) (A.cons (E.v 5) (A.cons (E.add (E.v 4) E.int) A.nil))))))
    (@Ss.cons _ _ _ _ _ _ (S.setC 7 (N':=["_law_j", "_law_script", "_law_here"]) (mp:=[none,some 0,some 5]) rfl sc_qscene.nd (CompSc.of' N_qscene (defScope s_qscene) rfl rfl (by decide +kernel)) (TgP.name (i:=0)) (by decide) (I.rng1 tx.z_range (A.cons E.int A.nil)) (fun _ _ _=>⟨(pg_name (i:=0) (show (["_law_j", "_law_script", "_law_here"]:List Str).Nodup by decide +kernel) rfl (Or.inl rfl) (.inr rfl)),Ts.nil,(E.sub (E.call G_qdrawn hr (by omega) tx.m_qdrawn tx.F_qdrawn.kp tx.b_qdrawn (A.cons (E.v 1) (A.cons (E.add (E.add (E.v 2) E.int) (E.v 0)) (A.cons E.int A.nil)))) E.int)⟩))
    (@Ss.frz _ _ _ _ 7 (@Ss.cons _ _ _ _ _ _ (S.setC 8 (N':=["_law_j", "_law_script", "_law_here"]) (mp:=[none,some 0,some 5]) rfl sc_qscene.nd (CompSc.of' N_qscene (defScope s_qscene) rfl rfl (by decide +kernel)) (TgP.name (i:=0)) (by decide) (I.rng1 tx.z_range (A.cons E.int A.nil)) (fun _ _ _=>⟨(pg_name (i:=0) (show (["_law_j", "_law_script", "_law_here"]:List Str).Nodup by decide +kernel) rfl (Or.inl rfl) (.inr rfl)),Ts.nil,(E.call G_qdrawn hr (by omega) tx.m_qdrawn tx.F_qdrawn.kp tx.b_qdrawn (A.cons (E.v 1) (A.cons (E.add (E.add (E.v 2) E.int) (E.v 0)) (A.cons E.int A.nil))))⟩))
    (@Ss.frz _ _ _ _ 8 (@Ss.cons _ _ _ _ _ _ (S.set 9 sc_qscene.nd E.str)
    (@Ss.cons _ _ _ _ _ _ (@S.for _ _ _ _ _ _ _ _ _ _ _ PassesOwn.never rfl (I.enum rfl tx.z_enumerate (A.cons E.str A.nil)) (pg_tup (n:=2) rfl (pgs_cons (pg_name (i:=10) sc_qscene.nd rfl (by first | exact Or.inl rfl | exact Or.inr rfl) ) (pgs_cons (pg_name (i:=11) sc_qscene.nd rfl (by first | exact Or.inl rfl | exact Or.inr rfl) ) pgs_nil))) (TgP.tup (n:=2) (TgsP.cons (TgP.name (i:=10)) (TgsP.cons (TgP.name (i:=11)) TgsP.nil)) (tg_len2))
    (@Ss.one _ _ _ _ (@S.ifS _ _ _ _ _ _ _ _ _ (T.eq hr (E.call G_qdrawn hr (by omega) tx.m_qdrawn tx.F_qdrawn.kp tx.b_qdrawn (A.cons (E.v 0) (A.cons (E.add (E.add (E.v 5) E.int) (E.v 10)) (A.cons (E.at (EO.toE (EO.lst (A.cons E.int (A.cons E.int (A.cons E.int (A.cons E.int A.nil)))))) (E.v 10)) A.nil)))) E.int) (@Ss.one _ _ _ _ (S.set 9 sc_qscene.nd (E.add (E.v 9) (E.v 11)))) Ss.nil)) (fun _=>rfl))
    (@Ss.cons _ _ _ _ _ _ (S.set 12 sc_qscene.nd (E.at E.str (E.mod (E.add (E.v 4) (E.v 3)) E.int)))
    (@Ss.one _ _ _ _ (S.set 2 sc_qscene.nd (E.add (E.v 2) (E.tup (A.cons (E.add (E.add (E.tup (A.cons (E.v 12) (A.cons (E.v 6) A.nil))) (E.tuple tx.z_tuple (A.cons (E.add (E.v 7) (E.v 8)) A.nil))) (E.tup (A.cons (E.v 9) A.nil))) A.nil)))))))))))))) (fun _=>rfl))
    (@Ss.one _ _ _ _ (S.ret (E.v 2))))))
theorem sc_X___init__:FnScope ["self", "scene"] ["self", "scene"] (defScope s_X___init__):=⟨rfl,rfl,rfl,by decide +kernel,rfl,by decide +kernel,by decide +kernel⟩
def g_X___init__  : Wd→Option MOut :=
  (mSeq (mPut 0 "scene" (mV 0) (mP (eV 1)))
    (mSeq (mPut 0 "done" (mV 0) (mN (fun η=>(aN η).bind gL)))
    (mPut 0 "undone" (mV 0) (mN (fun η=>(aN η).bind gL)))))
theorem ok_X___init__ {k:Nat} (tx:Tx K mg t)  : FnOk Pr w K mg base CX0 (k+1) t.X___init__ t.d_X___init__ ["self", "scene"] (spM K (cl t) (runM 2 2 (g_X___init__))) :=
  fnM tx.F_X___init__ sc_X___init__ fun _ _ _ _ _ _ hr =>
    (@MSs.cons _ _ _ _ _ _ (MS.put (k:=0) (ME.v 0) (ME.pu fun _=>(E.v 1)) tx.na_Plan_scene)
    (@MSs.cons _ _ _ _ _ _ (MS.put (k:=0) (ME.v 0) (ME.nw fun _=>(EO.lst A.nil)) tx.na_Plan_done)
    (@MSs.one _ _ _ _ (MS.put (k:=0) (ME.v 0) (ME.nw fun _=>(EO.lst A.nil)) tx.na_Plan_undone))))
theorem sc_qsome:FnScope ["_law_script", "_law_here", "_law_name", "_law_around", "_law_marks", "_law_places", "_law_box_here"] ["_law_script", "_law_here"] (defScope s_qsome):=⟨rfl,rfl,rfl,by decide +kernel,rfl,by decide +kernel,by decide +kernel⟩
def g_qsome (fn_qdrawn:PFn):En→Option Out :=
  (sSeq (sSet 2 (l2 pIx (eC (.list [(.str "a"),(.str "b"),(.str "c"),(.str "d"),(.str "g"),(.str "new"),(.str "zz")])) (lA fn_qdrawn (aC (eV 0) (aC (l2 pAdd (eV 1) (eC (.int 1))) (aC (eC (.int 7)) aN))))))
    (sSeq (sSet 3 (l2 pIx (oE (fun η=>((aC (eC (.str "")) (aC (eC (.str "a")) (aC (eC (.str "b")) (aC (eC (.str "new")) (aC (eC (.str "zz")) aN))))) η).bind gL)) (lA fn_qdrawn (aC (eV 0) (aC (l2 pAdd (eV 1) (eC (.int 2))) (aC (eC (.int 5)) aN))))))
    (sSeq (sSet 4 (l2 pIx (oE (fun η=>((aC (eC (.str "")) (aC (eC (.str "c")) (aC (eC (.str "fh")) (aC (eC (.str "l")) aN)))) η).bind gL)) (lA fn_qdrawn (aC (eV 0) (aC (l2 pAdd (eV 1) (eC (.int 3))) (aC (eC (.int 4)) aN))))))
    (sSeq (sSet 5 (lA (fun ds=>if ds.length≤sizeLine then some (.tuple ds) else none) (aC (l2 pSub (lA fn_qdrawn (aC (eV 0) (aC (l2 pAdd (eV 1) (eC (.int 4))) (aC (eC (.int 9)) aN)))) (eC (.int 4))) (aC (l2 pSub (lA fn_qdrawn (aC (eV 0) (aC (l2 pAdd (eV 1) (eC (.int 5))) (aC (eC (.int 9)) aN)))) (eC (.int 4))) aN))))
    (sSeq (sSet 6 (l2 pAdd (l2 pAdd (lA (fun ds=>if ds.length≤sizeLine then some (.tuple ds) else none) (aC (l2 pIx (oE (fun η=>((aC (eC (.str "new")) (aC (eC (.str "k")) (aC (eC (.str "m")) (aC (eC (.str "a")) aN)))) η).bind gL)) (lA fn_qdrawn (aC (eV 0) (aC (l2 pAdd (eV 1) (eC (.int 6))) (aC (eC (.int 4)) aN))))) (aC (eV 3) aN))) (eV 5)) (lA (fun ds=>if ds.length≤sizeLine then some (.tuple ds) else none) (aC (eC (.int 3)) (aC (eC (.int 4)) (aC (eC (.str "")) aN))))))
    (sRet (l2 pAdd (lA (fun ds=>if ds.length≤sizeLine then some (.tuple ds) else none) (aC (eV 2) (aC (eV 6) (aC (eV 4) aN)))) (eV 5))))))))
theorem ok_qsome {k:Nat} (tx:Tx K mg t) {k_qdrawn:Nat} {fn_qdrawn:PFn} (G_qdrawn:FnOk Pr w K mg base CX0 k_qdrawn t._law_drawn t.d_qdrawn ["_law_script", "_law_k", "_law_many"] (spP K fn_qdrawn)) (hk_qdrawn:k_qdrawn≤k):FnOk Pr w K mg base CX0 (k+1) t._law_some t.d_qsome ["_law_script", "_law_here"] (spP K (runF 2 7 (g_qsome fn_qdrawn))) :=
  fnP tx.F_qsome sc_qsome fun _ _ _ _ _ _ _ hr =>
    (@Ss.cons _ _ _ _ _ _ (S.set 2 sc_qsome.nd (E.at (@E.cst _ _ _ _ rfl) (E.call G_qdrawn hr (by omega) tx.m_qdrawn tx.F_qdrawn.kp tx.b_qdrawn (A.cons (E.v 0) (A.cons (E.add (E.v 1) E.int) (A.cons E.int A.nil))))))
    (@Ss.cons _ _ _ _ _ _ (S.set 3 sc_qsome.nd (E.at (EO.toE (EO.lst (A.cons E.str (A.cons E.str (A.cons E.str (A.cons E.str (A.cons E.str A.nil))))))) (E.call G_qdrawn hr (by omega) tx.m_qdrawn tx.F_qdrawn.kp tx.b_qdrawn (A.cons (E.v 0) (A.cons (E.add (E.v 1) E.int) (A.cons E.int A.nil))))))
    (@Ss.cons _ _ _ _ _ _ (S.set 4 sc_qsome.nd (E.at (EO.toE (EO.lst (A.cons E.str (A.cons E.str (A.cons E.str (A.cons E.str A.nil)))))) (E.call G_qdrawn hr (by omega) tx.m_qdrawn tx.F_qdrawn.kp tx.b_qdrawn (A.cons (E.v 0) (A.cons (E.add (E.v 1) E.int) (A.cons E.int A.nil))))))
    (@Ss.cons _ _ _ _ _ _ (S.set 5 sc_qsome.nd (E.tup (A.cons (E.sub (E.call G_qdrawn hr (by omega) tx.m_qdrawn tx.F_qdrawn.kp tx.b_qdrawn (A.cons (E.v 0) (A.cons (E.add (E.v 1) E.int) (A.cons E.int A.nil)))) E.int) (A.cons (E.sub (E.call G_qdrawn hr (by omega) tx.m_qdrawn tx.F_qdrawn.kp tx.b_qdrawn (A.cons (E.v 0) (A.cons (E.add (E.v 1) E.int) (A.cons E.int A.nil)))) E.int) A.nil))))
    (@Ss.cons _ _ _ _ _ _ (S.set 6 sc_qsome.nd (E.add (E.add (E.tup (A.cons (E.at (EO.toE (EO.lst (A.cons E.str (A.cons E.str (A.cons E.str (A.cons E.str A.nil)))))) (E.call G_qdrawn hr (by omega) tx.m_qdrawn tx.F_qdrawn.kp tx.b_qdrawn (A.cons (E.v 0) (A.cons (E.add (E.v 1) E.int) (A.cons E.int A.nil))))) (A.cons (E.v 3) A.nil))) (E.v 5)) (E.tup (A.cons E.int (A.cons E.int (A.cons E.str A.nil))))))
    (@Ss.one _ _ _ _ (S.ret (E.add (E.tup (A.cons (E.v 2) (A.cons (E.v 6) (A.cons (E.v 4) A.nil)))) (E.v 5)))))))))
theorem sc_qput:FnScope ["_law_scene_here", "_law_names", "_law_box_here"] ["_law_scene_here", "_law_names", "_law_box_here"] (defScope s_qput):=⟨rfl,rfl,rfl,by decide +kernel,rfl,by decide +kernel,by decide +kernel⟩
def g_qput  : En→Option Out :=
  (sSeq (sIf (bT (l2 (pIn false) (l2 pIx (eV 2) (eC (.int 0))) (eV 1))) (sRet (lA (fun ds=>if ds.length≤sizeLine then some (.tuple ds) else none) (aC (lA (fun ds=>if ds.length≤sizeLine then some (.tuple ds) else none) (aC (eC (.str "refused")) (aC (eC (.int 1)) aN))) (aC (eC .none) aN)))) sNx)
    (sSeq (sIf (bAnd (bT (l2 pNe (l2 pIx (eV 2) (eC (.int 1))) (eC (.str "")))) (bT (l2 (pIn true) (l2 pIx (eV 2) (eC (.int 1))) (eV 1)))) (sRet (lA (fun ds=>if ds.length≤sizeLine then some (.tuple ds) else none) (aC (lA (fun ds=>if ds.length≤sizeLine then some (.tuple ds) else none) (aC (eC (.str "refused")) (aC (eC (.int 0)) aN))) (aC (eC .none) aN)))) sNx)
    (sSeq (sIf (bT (l2 pEq (lA pLen (aC (eV 0) aN)) (eC (.int 12)))) (sRet (lA (fun ds=>if ds.length≤sizeLine then some (.tuple ds) else none) (aC (lA (fun ds=>if ds.length≤sizeLine then some (.tuple ds) else none) (aC (eC (.str "refused")) (aC (eC (.int 2)) aN))) (aC (eC .none) aN)))) sNx)
    (sRet (lA (fun ds=>if ds.length≤sizeLine then some (.tuple ds) else none) (aC (eC .none) (aC (l2 pAdd (eV 0) (lA (fun ds=>if ds.length≤sizeLine then some (.tuple ds) else none) (aC (eV 2) aN))) aN)))))))
theorem ok_qput {k:Nat} (tx:Tx K mg t)  : FnOk Pr w K mg base CX0 (k+1) t._law_put t.d_qput ["_law_scene_here", "_law_names", "_law_box_here"] (spP K (runF 3 3 (g_qput))) :=
  fnP tx.F_qput sc_qput fun _ _ _ _ _ _ _ hr =>
    (@Ss.cons _ _ _ _ _ _ (@S.ifS _ _ _ _ _ _ _ _ _ (T.in (E.at (E.v 2) E.int) (E.v 1)) (@Ss.one _ _ _ _ (S.ret (E.tup (A.cons (E.tup (A.cons E.str (A.cons E.int A.nil))) (A.cons E.non A.nil))))) Ss.nil)
    (@Ss.cons _ _ _ _ _ _ (@S.ifS _ _ _ _ _ _ _ _ _ (TW.t (TW.and (T.ne hr (E.at (E.v 2) E.int) E.str) (TW.and1 (T.notIn (E.at (E.v 2) E.int) (E.v 1))))) (@Ss.one _ _ _ _ (S.ret (E.tup (A.cons (E.tup (A.cons E.str (A.cons E.int A.nil))) (A.cons E.non A.nil))))) Ss.nil)
    (@Ss.cons _ _ _ _ _ _ (@S.ifS _ _ _ _ _ _ _ _ _ (T.eq hr (E.len tx.z_len (A.cons (E.v 0) A.nil)) E.int) (@Ss.one _ _ _ _ (S.ret (E.tup (A.cons (E.tup (A.cons E.str (A.cons E.int A.nil))) (A.cons E.non A.nil))))) Ss.nil)
    (@Ss.one _ _ _ _ (S.ret (E.tup (A.cons E.non (A.cons (E.add (E.v 0) (E.tup (A.cons (E.v 2) A.nil))) A.nil))))))))
abbrev N_qbox:List Str:=["_law_scene_here", "_law_name"]
theorem sc_qbox:FnScope ["_law_scene_here", "_law_name"] ["_law_scene_here", "_law_name"] (defScope s_qbox):=⟨rfl,rfl,rfl,by decide +kernel,rfl,by decide +kernel,by decide +kernel⟩
def g_qbox  : En→Option Out :=
  (sRet (l2 pIx (oE (sComp [none,some 1] (lI asTu (eV 0)) (tgN 0) (bT (l2 pEq (l2 pIx (eV 0) (eC (.int 0))) (eV 1))) (eV 0))) (eC (.int 0))))
theorem ok_qbox {k:Nat} (tx:Tx K mg t)  : FnOk Pr w K mg base CX0 (k+1) t._law_box t.d_qbox ["_law_scene_here", "_law_name"] (spP K (runF 2 2 (g_qbox))) :=
  fnP tx.F_qbox sc_qbox fun _ _ _ _ _ _ _ hr =>
    (@Ss.one _ _ _ _ (S.ret (E.at (EO.toE (EO.comp (N':=["_law_box_here", "_law_name"]) (mp:=[none,some 1]) rfl (CompSc.of' N_qbox (defScope s_qbox) rfl rfl (by decide +kernel)) (TgP.name (i:=0)) (by decide) (I.tup (E.v 0)) (fun _ _ _=>⟨(pg_name (i:=0) (show (["_law_box_here", "_law_name"]:List Str).Nodup by decide +kernel) rfl (Or.inl rfl) (.inr rfl)),(Ts.one (T.eq hr (E.at (E.v 0) E.int) (E.v 1))),(E.v 0)⟩))) E.int)))
theorem sc_qpainted:FnScope ["_law_scene_here", "_law_around", "_law_found", "_law_box_here"] ["_law_scene_here", "_law_around"] (defScope s_qpainted):=⟨rfl,rfl,rfl,by decide +kernel,rfl,by decide +kernel,by decide +kernel⟩
def g_qpainted (fn_qpainted:PFn):En→Option Out :=
  (sSeq (sSet 2 (oE (fun η=>(aN η).bind gL)))
    (sSeq (sFor (lI asTu (eV 0)) (tgN 3)
    (sIf (bT (l2 pEq (l2 pIx (eV 3) (eC (.int 1))) (eV 1))) (sSet 2 (l2 pAdd (l2 pAdd (eV 2) (oE (fun η=>((aC (l2 pIx (eV 3) (eC (.int 0))) aN) η).bind gL))) (lA fn_qpainted (aC (eV 0) (aC (l2 pIx (eV 3) (eC (.int 0))) aN))))) sNx))
    (sRet (eV 2))))
theorem ok_qpainted {k:Nat} (tx:Tx K mg t) {k_qpainted:Nat} {fn_qpainted:PFn} (G_qpainted:FnOk Pr w K mg base CX0 k_qpainted t._law_painted t.d_qpainted ["_law_scene_here", "_law_around"] (spP K fn_qpainted)) (hk_qpainted:k_qpainted≤k):FnOk Pr w K mg base CX0 (k+1) t._law_painted t.d_qpainted ["_law_scene_here", "_law_around"] (spP K (runF 2 4 (g_qpainted fn_qpainted))) :=
  fnP tx.F_qpainted sc_qpainted fun _ _ _ _ _ _ _ hr =>
    (@Ss.cons _ _ _ _ _ _ (S.set 2 sc_qpainted.nd (EO.toE (EO.lst A.nil)))
    (@Ss.cons _ _ _ _ _ _ (@S.for _ _ _ _ _ _ _ _ _ _ _ PassesOwn.never rfl (I.tup (E.v 0)) (pg_name (i:=3) sc_qpainted.nd rfl (by first | exact Or.inl rfl | exact Or.inr rfl) ) (TgP.name (i:=3))
    (@Ss.one _ _ _ _ (@S.ifS _ _ _ _ _ _ _ _ _ (T.eq hr (E.at (E.v 3) E.int) (E.v 1)) (@Ss.one _ _ _ _ (S.set 2 sc_qpainted.nd (E.add (E.add (E.v 2) (EO.toE (EO.lst (A.cons (E.at (E.v 3) E.int) A.nil)))) (E.call G_qpainted hr (by omega) tx.m_qpainted tx.F_qpainted.kp tx.b_qpainted (A.cons (E.v 0) (A.cons (E.at (E.v 3) E.int) A.nil)))))) Ss.nil)) (fun _=>rfl))
    (@Ss.one _ _ _ _ (S.ret (E.v 2)))))
theorem sc_qpath:FnScope ["_law_scene_here", "_law_name", "_law_found"] ["_law_scene_here", "_law_name"] (defScope s_qpath):=⟨rfl,rfl,rfl,by decide +kernel,rfl,by decide +kernel,by decide +kernel⟩
def g_qpath (fn_qbox:PFn):En→Option Out :=
  (sSeq (sSet 2 (oE (fun η=>((aC (eV 1) aN) η).bind gL)))
    (sSeq (sWh (bT (l2 pNe (l2 pIx (lA fn_qbox (aC (eV 0) (aC (l2 pIx (eV 2) (eC (.int 0))) aN))) (eC (.int 1))) (eC (.str "")))) (sSet 2 (l2 pAdd (oE (fun η=>((aC (l2 pIx (lA fn_qbox (aC (eV 0) (aC (l2 pIx (eV 2) (eC (.int 0))) aN))) (eC (.int 1))) aN) η).bind gL)) (eV 2))) 13)
    (sRet (eV 2))))
theorem ok_qpath {k:Nat} (tx:Tx K mg t) {k_qbox:Nat} {fn_qbox:PFn} (G_qbox:FnOk Pr w K mg base CX0 k_qbox t._law_box t.d_qbox ["_law_scene_here", "_law_name"] (spP K fn_qbox)) (hk_qbox:k_qbox≤k):FnOk Pr w K mg base CX0 (k+1) t._law_path t.d_qpath ["_law_scene_here", "_law_name"] (spP K (runF 2 3 (g_qpath fn_qbox))) :=
  fnP tx.F_qpath sc_qpath fun _ _ _ _ _ _ _ hr =>
    (@Ss.cons _ _ _ _ _ _ (S.set 2 sc_qpath.nd (EO.toE (EO.lst (A.cons (E.v 1) A.nil))))
    (@Ss.cons _ _ _ _ _ _ (S.while 13 PassesOwn.never (T.ne hr (E.at (E.call G_qbox hr (by omega) tx.m_qbox tx.F_qbox.kp tx.b_qbox (A.cons (E.v 0) (A.cons (E.at (E.v 2) E.int) A.nil))) E.int) E.str) (@Ss.one _ _ _ _ (S.set 2 sc_qpath.nd (E.add (EO.toE (EO.lst (A.cons (E.at (E.call G_qbox hr (by omega) tx.m_qbox tx.F_qbox.kp tx.b_qbox (A.cons (E.v 0) (A.cons (E.at (E.v 2) E.int) A.nil))) E.int) A.nil))) (E.v 2)))))
    (@Ss.one _ _ _ _ (S.ret (E.v 2)))))
abbrev N_qnext:List Str:=["_law_scene_here", "_law_way", "_law_some_here", "_law_name", "_law_box_here", "_law_marks", "_law_left", "_law_top", "_law_names", "_law_own", "_law_at", "_law_inner", "_law_rest", "_law_moved"]
theorem sc_qnext:FnScope ["_law_scene_here", "_law_way", "_law_some_here", "_law_name", "_law_box_here", "_law_marks", "_law_left", "_law_top", "_law_names", "_law_own", "_law_at", "_law_inner", "_law_rest", "_law_moved"] ["_law_scene_here", "_law_way", "_law_some_here"] (defScope s_qnext):=⟨rfl,rfl,rfl,by decide +kernel,rfl,by decide +kernel,by decide +kernel⟩
def g_qnext (fn_qput:PFn) (fn_qbox:PFn) (fn_qpainted:PFn) (fn_qpath:PFn):En→Option Out :=
  (sSeq (sUnp (eV 2) (tgT (tgCons (tgN 3) (tgCons (tgN 4) (tgCons (tgN 5) (tgCons (tgN 6) (tgCons (tgN 7) tgNil)))))))
    (sSeq (sSetO 8 (sComp [none] (lI asTu (eV 0)) (tgN 0) tTrue (l2 pIx (eV 0) (eC (.int 0)))))
    (fun η=>(sSeq (sIf (bT (l2 pEq (eV 1) (eC (.int 0)))) (sRet (lA fn_qput (aC (eV 0) (aC (eV 8) (aC (eV 4) aN))))) sNx)
    (sSeq (sIf (bT (l2 (pIn true) (eV 3) (eV 8))) (sRet (lA (fun ds=>if ds.length≤sizeLine then some (.tuple ds) else none) (aC (lA (fun ds=>if ds.length≤sizeLine then some (.tuple ds) else none) (aC (eC (.str "refused")) (aC (eC (.int 0)) aN))) (aC (eC .none) aN)))) sNx)
    (sSeq (sSet 9 (lA fn_qbox (aC (eV 0) (aC (eV 3) aN))))
    (sSeq (sSet 10 (l2 pIdx (eV 8) (eV 3)))
    (sSeq (sIf (bT (l2 pLt (eV 1) (eC (.int 3)))) (sSeq (sSet 11 (oE (sComp [none,some 0,some 3] (lI asL (lA fn_qpainted (aC (eV 0) (aC (eC (.str "")) aN)))) (tgN 0) (bT (l2 (pIn false) (eV 2) (lA fn_qpath (aC (eV 1) (aC (eV 0) aN))))) (eV 0))))
    (sSeq (sSet 12 (lA pTup (aC (oE (sComp [none,some 11] (lI asTu (eV 0)) (tgN 0) (bT (l2 (pIn true) (l2 pIx (eV 0) (eC (.int 0))) (eV 1))) (eV 0))) aN)))
    (sSeq (sSet 13 (lA pTup (aC (oE (sComp [none,some 11] (lI asTu (eV 0)) (tgN 0) (bT (l2 (pIn false) (l2 pIx (eV 0) (eC (.int 0))) (eV 1))) (eV 0))) aN)))
    (sRet (vIf (bT (l2 pEq (eV 1) (eC (.int 1)))) (lA (fun ds=>if ds.length≤sizeLine then some (.tuple ds) else none) (aC (eV 11) (aC (eV 12) aN))) (lA (fun ds=>if ds.length≤sizeLine then some (.tuple ds) else none) (aC (eC .none) (aC (l2 pAdd (eV 12) (eV 13)) aN)))))))) sNx)
    (sSeq (sIf (bT (l2 pEq (eV 1) (eC (.int 3)))) (sRet (lA (fun ds=>if ds.length≤sizeLine then some (.tuple ds) else none) (aC (l2 pIx (eV 9) (eC (.int 6))) (aC (l2 pAdd (l2 pAdd (eSl (eV 0) pN (pS (eV 10))) (lA (fun ds=>if ds.length≤sizeLine then some (.tuple ds) else none) (aC (l2 pAdd (eSl (eV 9) pN (pS (eC (.int 6)))) (lA (fun ds=>if ds.length≤sizeLine then some (.tuple ds) else none) (aC (eV 5) aN))) aN))) (eSl (eV 0) (pS (l2 pAdd (eV 10) (eC (.int 1)))) pN)) aN)))) sNx)
    (sRet (lA (fun ds=>if ds.length≤sizeLine then some (.tuple ds) else none) (aC (eSl (eV 9) (pS (eC (.int 2))) (pS (eC (.int 4)))) (aC (l2 pAdd (l2 pAdd (eSl (eV 0) pN (pS (eV 10))) (lA (fun ds=>if ds.length≤sizeLine then some (.tuple ds) else none) (aC (l2 pAdd (l2 pAdd (eSl (eV 9) pN (pS (eC (.int 2)))) (lA (fun ds=>if ds.length≤sizeLine then some (.tuple ds) else none) (aC (eV 6) (aC (eV 7) aN)))) (eSl (eV 9) (pS (eC (.int 4))) pN)) aN))) (eSl (eV 0) (pS (l2 pAdd (eV 10) (eC (.int 1)))) pN)) aN)))))))))) (frz 8 η))))
theorem ok_qnext {k:Nat} (tx:Tx K mg t) {k_qput:Nat} {fn_qput:PFn} (G_qput:FnOk Pr w K mg base CX0 k_qput t._law_put t.d_qput ["_law_scene_here", "_law_names", "_law_box_here"] (spP K fn_qput)) (hk_qput:k_qput≤k) {k_qbox:Nat} {fn_qbox:PFn} (G_qbox:FnOk Pr w K mg base CX0 k_qbox t._law_box t.d_qbox ["_law_scene_here", "_law_name"] (spP K fn_qbox)) (hk_qbox:k_qbox≤k) {k_qpainted:Nat} {fn_qpainted:PFn} (G_qpainted:FnOk Pr w K mg base CX0 k_qpainted t._law_painted t.d_qpainted ["_law_scene_here", "_law_around"] (spP K fn_qpainted)) (hk_qpainted:k_qpainted≤k) {k_qpath:Nat} {fn_qpath:PFn} (G_qpath:FnOk Pr w K mg base CX0 k_qpath t._law_path t.d_qpath ["_law_scene_here", "_law_name"] (spP K fn_qpath)) (hk_qpath:k_qpath≤k):FnOk Pr w K mg base CX0 (k+1) t._law_next t.d_qnext ["_law_scene_here", "_law_way", "_law_some_here"] (spP K (runF 3 14 (g_qnext fn_qput fn_qbox fn_qpainted fn_qpath))) :=
  fnP tx.F_qnext sc_qnext fun _ _ _ _ _ _ _ hr =>
    (@Ss.cons _ _ _ _ _ _ (S.unp (E.v 2) (pg_tup (n:=5) rfl (pgs_cons (pg_name (i:=3) sc_qnext.nd rfl (by first | exact Or.inl rfl | exact Or.inr rfl) ) (pgs_cons (pg_name (i:=4) sc_qnext.nd rfl (by first | exact Or.inl rfl | exact Or.inr rfl) ) (pgs_cons (pg_name (i:=5) sc_qnext.nd rfl (by first | exact Or.inl rfl | exact Or.inr rfl) ) (pgs_cons (pg_name (i:=6) sc_qnext.nd rfl (by first | exact Or.inl rfl | exact Or.inr rfl) ) (pgs_cons (pg_name (i:=7) sc_qnext.nd rfl (by first | exact Or.inl rfl | exact Or.inr rfl) ) pgs_nil)))))) (TgP.tup (n:=5) (TgsP.cons (TgP.name (i:=3)) (TgsP.cons (TgP.name (i:=4)) (TgsP.cons (TgP.name (i:=5)) (TgsP.cons (TgP.name (i:=6)) (TgsP.cons (TgP.name (i:=7)) TgsP.nil))))) (tg_len5)))
    (@Ss.cons _ _ _ _ _ _ (S.setC 8 (N':=["_law_one"]) (mp:=[none]) rfl sc_qnext.nd (CompSc.of' N_qnext (defScope s_qnext) rfl rfl (by decide +kernel)) (TgP.name (i:=0)) (by decide) (I.tup (E.v 0)) (fun _ _ _=>⟨(pg_name (i:=0) (show (["_law_one"]:List Str).Nodup by decide +kernel) rfl (Or.inl rfl) (.inr rfl)),Ts.nil,(E.at (E.v 0) E.int)⟩))
    (@Ss.frz _ _ _ _ 8 (@Ss.cons _ _ _ _ _ _ (@S.ifS _ _ _ _ _ _ _ _ _ (T.eq hr (E.v 1) E.int) (@Ss.one _ _ _ _ (S.ret (E.call G_qput hr (by omega) tx.m_qput tx.F_qput.kp tx.b_qput (A.cons (E.v 0) (A.cons (E.v 8) (A.cons (E.v 4) A.nil)))))) Ss.nil)
    (@Ss.cons _ _ _ _ _ _ (@S.ifS _ _ _ _ _ _ _ _ _ (T.notIn (E.v 3) (E.v 8)) (@Ss.one _ _ _ _ (S.ret (E.tup (A.cons (E.tup (A.cons E.str (A.cons E.int A.nil))) (A.cons E.non A.nil))))) Ss.nil)
    (@Ss.cons _ _ _ _ _ _ (S.set 9 sc_qnext.nd (E.call G_qbox hr (by omega) tx.m_qbox tx.F_qbox.kp tx.b_qbox (A.cons (E.v 0) (A.cons (E.v 3) A.nil))))
    (@Ss.cons _ _ _ _ _ _ (S.set 10 sc_qnext.nd (E.index (E.v 8) (E.v 3)))
    (@Ss.cons _ _ _ _ _ _ (@S.ifS _ _ _ _ _ _ _ _ _ (T.lt (E.v 1) E.int) (@Ss.cons _ _ _ _ _ _ (S.set 11 sc_qnext.nd (EO.toE (EO.comp (N':=["_law_one", "_law_scene_here", "_law_name"]) (mp:=[none,some 0,some 3]) rfl (CompSc.of' N_qnext (defScope s_qnext) rfl rfl (by decide +kernel)) (TgP.name (i:=0)) (by decide) (I.list (E.call G_qpainted hr (by omega) tx.m_qpainted tx.F_qpainted.kp tx.b_qpainted (A.cons (E.v 0) (A.cons E.str A.nil)))) (fun _ _ _=>⟨(pg_name (i:=0) (show (["_law_one", "_law_scene_here", "_law_name"]:List Str).Nodup by decide +kernel) rfl (Or.inl rfl) (.inr rfl)),(Ts.one (T.in (E.v 2) (E.call G_qpath hr (by omega) tx.m_qpath tx.F_qpath.kp tx.b_qpath (A.cons (E.v 1) (A.cons (E.v 0) A.nil))))),(E.v 0)⟩))))
    (@Ss.cons _ _ _ _ _ _ (S.set 12 sc_qnext.nd (E.tuple tx.z_tuple (A.cons (EO.toE (EO.comp (N':=["_law_one", "_law_inner"]) (mp:=[none,some 11]) rfl (CompSc.of' N_qnext (defScope s_qnext) rfl rfl (by decide +kernel)) (TgP.name (i:=0)) (by decide) (I.tup (E.v 0)) (fun _ _ _=>⟨(pg_name (i:=0) (show (["_law_one", "_law_inner"]:List Str).Nodup by decide +kernel) rfl (Or.inl rfl) (.inr rfl)),(Ts.one (T.notIn (E.at (E.v 0) E.int) (E.v 1))),(E.v 0)⟩))) A.nil)))
    (@Ss.cons _ _ _ _ _ _ (S.set 13 sc_qnext.nd (E.tuple tx.z_tuple (A.cons (EO.toE (EO.comp (N':=["_law_one", "_law_inner"]) (mp:=[none,some 11]) rfl (CompSc.of' N_qnext (defScope s_qnext) rfl rfl (by decide +kernel)) (TgP.name (i:=0)) (by decide) (I.tup (E.v 0)) (fun _ _ _=>⟨(pg_name (i:=0) (show (["_law_one", "_law_inner"]:List Str).Nodup by decide +kernel) rfl (Or.inl rfl) (.inr rfl)),(Ts.one (T.in (E.at (E.v 0) E.int) (E.v 1))),(E.v 0)⟩))) A.nil)))
    (@Ss.one _ _ _ _ (S.ret (E.ifE (T.eq hr (E.v 1) E.int) (E.tup (A.cons (E.v 11) (A.cons (E.v 12) A.nil))) (E.tup (A.cons E.non (A.cons (E.add (E.v 12) (E.v 13)) A.nil))))))))) Ss.nil)
    (@Ss.cons _ _ _ _ _ _ (@S.ifS _ _ _ _ _ _ _ _ _ (T.eq hr (E.v 1) E.int) (@Ss.one _ _ _ _ (S.ret (E.tup (A.cons (E.at (E.v 9) E.int) (A.cons (E.add (E.add (E.sl (E.v 0) P.none (P.some (E.v 10))) (E.tup (A.cons (E.add (E.sl (E.v 9) P.none (P.some E.int)) (E.tup (A.cons (E.v 5) A.nil))) A.nil))) (E.sl (E.v 0) (P.some (E.add (E.v 10) E.int)) P.none)) A.nil))))) Ss.nil)
    (@Ss.one _ _ _ _ (S.ret (E.tup (A.cons (E.sl (E.v 9) (P.some E.int) (P.some E.int)) (A.cons (E.add (E.add (E.sl (E.v 0) P.none (P.some (E.v 10))) (E.tup (A.cons (E.add (E.add (E.sl (E.v 9) P.none (P.some E.int)) (E.tup (A.cons (E.v 6) (A.cons (E.v 7) A.nil)))) (E.sl (E.v 9) (P.some E.int) P.none)) A.nil))) (E.sl (E.v 0) (P.some (E.add (E.v 10) E.int)) P.none)) A.nil))))))))))))))
theorem sc_X_now:FnScope ["self"] ["self"] (defScope s_X_now):=⟨rfl,rfl,rfl,by decide +kernel,rfl,by decide +kernel,by decide +kernel⟩
def g_X_now  : Wd→Option MOut :=
  (mRet (mP (eFld 0 "scene")))
theorem ok_X_now {k:Nat} (tx:Tx K mg t)  : FnOk Pr w K mg base CX0 (k+1) t.X_now t.d_X_now ["self"] (spM K (cl t) (runM 1 1 (g_X_now))) :=
  fnM tx.F_X_now sc_X_now fun _ _ _ _ _ _ hr =>
    (@MSs.one _ _ _ _ (MS.ret (ME.pu fun _=>(E.fld 0))))
theorem sc_X_step_to:FnScope ["self", "word", "scene"] ["self", "word", "scene"] (defScope s_X_step_to):=⟨rfl,rfl,rfl,by decide +kernel,rfl,by decide +kernel,by decide +kernel⟩
def g_X_step_to  : Wd→Option MOut :=
  (mSeq (mExp (mAppC (mFld (mV 0) "done") (mP (lA (fun ds=>if ds.length≤sizeLine then some (.tuple ds) else none) (aC (eV 1) (aC (eFld 0 "scene") aN))))))
    (mSeq (mPut 0 "undone" (mV 0) (mN (fun η=>(aN η).bind gL)))
    (mPut 0 "scene" (mV 0) (mP (eV 2)))))
theorem ok_X_step_to {k:Nat} (tx:Tx K mg t)  : FnOk Pr w K mg base CX0 (k+1) t.X_step_to t.d_X_step_to ["self", "word", "scene"] (spM K (cl t) (runM 3 3 (g_X_step_to))) :=
  fnM tx.F_X_step_to sc_X_step_to fun _ _ _ _ _ _ hr =>
    (@MSs.cons _ _ _ _ _ _ (MS.exp (ME.appC (ME.fld (ME.v 0)) (ME.pu fun _=>(E.tup (A.cons (E.v 1) (A.cons (E.fld 0) A.nil))))))
    (@MSs.cons _ _ _ _ _ _ (MS.put (k:=0) (ME.v 0) (ME.nw fun _=>(EO.lst A.nil)) tx.na_Plan_undone)
    (@MSs.one _ _ _ _ (MS.put (k:=0) (ME.v 0) (ME.pu fun _=>(E.v 2)) tx.na_Plan_scene))))
abbrev N_has_box:List Str:=["scene", "name"]
theorem sc_has_box:FnScope ["scene", "name"] ["scene", "name"] (defScope s_has_box):=⟨rfl,rfl,rfl,by decide +kernel,rfl,by decide +kernel,by decide +kernel⟩
def g_has_box  : En→Option Out :=
  (sRet (lA pAny (aC (oE (sComp [none,some 1] (lI asTu (eV 0)) (tgN 0) tTrue (l2 pEq (l2 pIx (eV 0) (eC (.int 0))) (eV 1)))) aN)))
theorem ok_has_box {k:Nat} (tx:Tx K mg t)  : FnOk Pr w K mg base CX0 (k+1) t.has_box t.d_has_box ["scene", "name"] (spP K (runF 2 2 (g_has_box))) :=
  fnP tx.F_has_box sc_has_box fun _ _ _ _ _ _ _ hr =>
    (@Ss.one _ _ _ _ (S.ret (E.any rfl tx.z_any (A.cons (EO.toE (EO.comp (N':=["box", "name"]) (mp:=[none,some 1]) rfl (CompSc.of' N_has_box (defScope s_has_box) rfl rfl (by decide +kernel)) (TgP.name (i:=0)) (by decide) (I.tup (E.v 0)) (fun _ _ _=>⟨(pg_name (i:=0) (show (["box", "name"]:List Str).Nodup by decide +kernel) rfl (Or.inl rfl) (.inr rfl)),Ts.nil,(E.eq hr (E.at (E.v 0) (E.globI tx.c_NAME)) (E.v 1))⟩))) A.nil))))
theorem sc_with_box:FnScope ["scene", "box", "name", "around"] ["scene", "box"] (defScope s_with_box):=⟨rfl,rfl,rfl,by decide +kernel,rfl,by decide +kernel,by decide +kernel⟩
def g_with_box (fn_has_box:PFn):En→Option Out :=
  (sSeq (sSet 2 (l2 pIx (eV 1) (eC (.int 0))))
    (sSeq (sSet 3 (l2 pIx (eV 1) (eC (.int 1))))
    (sSeq (sIf (bT (lA fn_has_box (aC (eV 0) (aC (eV 2) aN)))) (fun _=>none) sNx)
    (sSeq (sIf (bAnd (bT (l2 pNe (eV 3) (eC (.str "")))) (bNot (bT (lA fn_has_box (aC (eV 0) (aC (eV 3) aN)))))) (fun _=>none) sNx)
    (sSeq (sIf (bT (l2 pGe (lA pLen (aC (eV 0) aN)) (eC (.int 12)))) (fun _=>none) sNx)
    (sRet (l2 pAdd (eV 0) (lA (fun ds=>if ds.length≤sizeLine then some (.tuple ds) else none) (aC (eV 1) aN)))))))))
theorem ok_with_box {k:Nat} (tx:Tx K mg t) {k_has_box:Nat} {fn_has_box:PFn} (G_has_box:FnOk Pr w K mg base CX0 k_has_box t.has_box t.d_has_box ["scene", "name"] (spP K fn_has_box)) (hk_has_box:k_has_box≤k):FnOk Pr w K mg base CX0 (k+1) t.with_box t.d_with_box ["scene", "box"] (spP K (runF 2 4 (g_with_box fn_has_box))) :=
  fnP tx.F_with_box sc_with_box fun _ _ _ _ _ _ _ hr =>
    (@Ss.cons _ _ _ _ _ _ (S.set 2 sc_with_box.nd (E.at (E.v 1) (E.globI tx.c_NAME)))
    (@Ss.cons _ _ _ _ _ _ (S.set 3 sc_with_box.nd (E.at (E.v 1) (E.globI tx.c_AROUND)))
    (@Ss.cons _ _ _ _ _ _ (@S.ifS _ _ _ _ _ _ _ _ _ (T.val (E.call G_has_box hr (by omega) tx.m_has_box tx.F_has_box.kp tx.b_has_box (A.cons (E.v 0) (A.cons (E.v 2) A.nil)))) (@Ss.one _ _ _ _ S.never) Ss.nil)
    (@Ss.cons _ _ _ _ _ _ (@S.ifS _ _ _ _ _ _ _ _ _ (TW.t (TW.and (T.ne hr (E.v 3) E.str) (TW.and1 (T.not (T.val (E.call G_has_box hr (by omega) tx.m_has_box tx.F_has_box.kp tx.b_has_box (A.cons (E.v 0) (A.cons (E.v 3) A.nil)))))))) (@Ss.one _ _ _ _ S.never) Ss.nil)
    (@Ss.cons _ _ _ _ _ _ (@S.ifS _ _ _ _ _ _ _ _ _ (T.ge (E.len tx.z_len (A.cons (E.v 0) A.nil)) (E.globI tx.c_MOST_BOXES)) (@Ss.one _ _ _ _ S.never) Ss.nil)
    (@Ss.one _ _ _ _ (S.ret (E.add (E.v 0) (E.tup (A.cons (E.v 1) A.nil))))))))))
def gx_with_box (fn_has_box:PFn):En→Option Nat :=
  (xSeq (sSet 2 (l2 pIx (eV 1) (eC (.int 0))))
    (xSeq (sSet 3 (l2 pIx (eV 1) (eC (.int 1))))
    (xOr (xIf (bT (lA fn_has_box (aC (eV 0) (aC (eV 2) aN)))) (fun η=>if (fun η=>pYes η&&pRep (eV 2) η&&pYes η) η=true then some 1 else none) xNo) (xSeq (sIf (bT (lA fn_has_box (aC (eV 0) (aC (eV 2) aN)))) (fun _=>none) sNx)
    (xOr (xIf (bAnd (bT (l2 pNe (eV 3) (eC (.str "")))) (bNot (bT (lA fn_has_box (aC (eV 0) (aC (eV 3) aN)))))) (fun η=>if (fun η=>pYes η&&pRep (eV 3) η) η=true then some 0 else none) xNo) (xSeq (sIf (bAnd (bT (l2 pNe (eV 3) (eC (.str "")))) (bNot (bT (lA fn_has_box (aC (eV 0) (aC (eV 3) aN)))))) (fun _=>none) sNx)
    (xIf (bT (l2 pGe (lA pLen (aC (eV 0) aN)) (eC (.int 12)))) (fun η=>if (fun η=>pYes η&&pFmI (eC (.int 12)) η&&pYes η) η=true then some 2 else none) xNo)))))))
theorem okx_with_box {k:Nat} (tx:Tx K mg t) {k_has_box:Nat} {fn_has_box:PFn} (G_has_box:FnOk Pr w K mg base CX0 k_has_box t.has_box t.d_has_box ["scene", "name"] (spP K fn_has_box)) (hk_has_box:k_has_box≤k):FnOk Pr w K mg base (CXX Pr w) (k+1) t.with_box t.d_with_box ["scene", "box"] (spX K (ca t) (runX 2 4 (gx_with_box fn_has_box))) :=
  fnX tx.F_with_box sc_with_box fun _ _ _ _ _ _ _ _ hr hx hm =>
    (SsX.cons (S.nx (S.set 2 sc_with_box.nd (E.at (E.v 1) (E.globI tx.c_NAME))))
    (SsX.cons (S.nx (S.set 3 sc_with_box.nd (E.at (E.v 1) (E.globI tx.c_AROUND))))
    (SsX.or (SsX.one (SX.ifS (T.val (E.call G_has_box hr (by omega) tx.m_has_box tx.F_has_box.kp tx.b_has_box (A.cons (E.v 0) (A.cons (E.v 2) A.nil)))) (SsX.one (SX.raise 1 hm rfl tx.m_Taken (tx.refs.xc 1 (by decide)).ex (EA.js3 (ES.lit (by decide)) (ES.repr (E.v 2)) (ES.lit (by decide))))) SsX.no)) (SsX.cons (S.nx (@S.ifS _ _ _ _ _ _ _ _ _ (T.val (E.call G_has_box hr (by omega) tx.m_has_box tx.F_has_box.kp tx.b_has_box (A.cons (E.v 0) (A.cons (E.v 2) A.nil)))) (@Ss.one _ _ _ _ S.never) Ss.nil))
    (SsX.or (SsX.one (SX.ifS (TW.t (TW.and (T.ne hr (E.v 3) E.str) (TW.and1 (T.not (T.val (E.call G_has_box hr (by omega) tx.m_has_box tx.F_has_box.kp tx.b_has_box (A.cons (E.v 0) (A.cons (E.v 3) A.nil)))))))) (SsX.one (SX.raise 0 hm rfl tx.m_NoBox (tx.refs.xc 0 (by decide)).ex (EA.js2 (ES.lit (by decide)) (ES.repr (E.v 3))))) SsX.no)) (SsX.cons (S.nx (@S.ifS _ _ _ _ _ _ _ _ _ (TW.t (TW.and (T.ne hr (E.v 3) E.str) (TW.and1 (T.not (T.val (E.call G_has_box hr (by omega) tx.m_has_box tx.F_has_box.kp tx.b_has_box (A.cons (E.v 0) (A.cons (E.v 3) A.nil)))))))) (@Ss.one _ _ _ _ S.never) Ss.nil))
    (SsX.one (SX.ifS (T.ge (E.len tx.z_len (A.cons (E.v 0) A.nil)) (E.globI tx.c_MOST_BOXES)) (SsX.one (SX.raise 2 hm rfl tx.m_TooMany (tx.refs.xc 2 (by decide)).ex (EA.js3 (ES.lit (by decide)) (ES.fmtI (E.globI tx.c_MOST_BOXES)) (ES.lit (by decide))))) SsX.no))))))))
theorem sc_X_put:FnScope ["self", "box"] ["self", "box"] (defScope s_X_put):=⟨rfl,rfl,rfl,by decide +kernel,rfl,by decide +kernel,by decide +kernel⟩
def g_X_put (fn_X_step_to:DFn) (fn_with_box:PFn):Wd→Option MOut :=
  (mExp (mMeth 0 "step_to" fn_X_step_to (mV 0) (maC (mP (eC (.str "put"))) (maC (mP (lA fn_with_box (aC (eFld 0 "scene") (aC (eV 1) aN)))) maN))))
theorem ok_X_put {k:Nat} (tx:Tx K mg t) {k_X_step_to:Nat} {fn_X_step_to:DFn} (G_X_step_to:FnOk Pr w K mg base CX0 k_X_step_to t.X_step_to t.d_X_step_to ["self", "word", "scene"] (spM K (cl t) fn_X_step_to)) (hk_X_step_to:k_X_step_to≤k) {k_with_box:Nat} {fn_with_box:PFn} (G_with_box:FnOk Pr w K mg base CX0 k_with_box t.with_box t.d_with_box ["scene", "box"] (spP K fn_with_box)) (hk_with_box:k_with_box≤k):FnOk Pr w K mg base CX0 (k+1) t.X_put t.d_X_put ["self", "box"] (spM K (cl t) (runM 2 2 (g_X_put fn_X_step_to fn_with_box))) :=
  fnM tx.F_X_put sc_X_put fun _ _ _ _ _ _ hr =>
    (@MSs.one _ _ _ _ (MS.exp (ME.meth (kc:=0) (ME.v 0) tx.cl_Plan tx.me_X_step_to G_X_step_to hr (by omega) tx.b_X_step_to (MA.cons (ME.pu fun _=>E.str) (MA.cons (ME.pu fun _=>(E.call G_with_box hr (by omega) tx.m_with_box tx.F_with_box.kp tx.b_with_box (A.cons (E.fld 0) (A.cons (E.v 1) A.nil)))) MA.nil)))))
def gx_X_put (fn_X_step_to:DFn) (fx_with_box:List PyData→Option Nat):MXF :=
  (mxArg 0 "step_to" (mV 0) (mxP (fun η=>((eC (.str "put")) η).bind fun _=>(fun η=>((aC (eFld 0 "scene") (aC (eV 1) aN)) η).bind fx_with_box) η)))
theorem okx_X_put {k:Nat} (tx:Tx K mg t) {k_X_step_to:Nat} {fn_X_step_to:DFn} (G_X_step_to:FnOk Pr w K mg base CX0 k_X_step_to t.X_step_to t.d_X_step_to ["self", "word", "scene"] (spM K (cl t) fn_X_step_to)) (hk_X_step_to:k_X_step_to≤k) {kx_with_box:Nat} {fx_with_box:List PyData→Option Nat} (GX_with_box:FnOk Pr w K mg base (CXX Pr w) kx_with_box t.with_box t.d_with_box ["scene", "box"] (spX K (ca t) fx_with_box)) (hkx_with_box:kx_with_box≤k):FnOk Pr w K mg base (CXX Pr w) (k+1) t.X_put t.d_X_put ["self", "box"] (spMX K (cl t) (ca t) (runMX 2 2 (gx_X_put fn_X_step_to fx_with_box))) :=
  fnMX tx.F_X_put sc_X_put fun _ _ _ _ _ _ _ hr hx hm =>
    (MSsX.one (MSX.exp (MEX.arg (kc:=0) (ME.v 0) tx.cl_Plan tx.me_X_step_to G_X_step_to hr (by omega) tx.b_X_step_to (MAX.pu fun _=>(AX.tail E.str (AX.head (hr:=PA.no) (EX.call GX_with_box hx hr (by omega) tx.m_with_box tx.F_with_box.kp tx.b_with_box (A.cons (E.fld 0) (A.cons (E.v 1) A.nil)))))))))
theorem sc_box_of:FnScope ["scene", "name", "box"] ["scene", "name"] (defScope s_box_of):=⟨rfl,rfl,rfl,by decide +kernel,rfl,by decide +kernel,by decide +kernel⟩
def g_box_of  : En→Option Out :=
  (sSeq (sFor (lI asTu (eV 0)) (tgN 2)
    (sIf (bT (l2 pEq (l2 pIx (eV 2) (eC (.int 0))) (eV 1))) (sRet (eV 2)) sNx))
    (fun _=>none))
theorem ok_box_of {k:Nat} (tx:Tx K mg t)  : FnOk Pr w K mg base CX0 (k+1) t.box_of t.d_box_of ["scene", "name"] (spP K (runF 2 3 (g_box_of))) :=
  fnP tx.F_box_of sc_box_of fun _ _ _ _ _ _ _ hr =>
    (@Ss.cons _ _ _ _ _ _ (@S.for _ _ _ _ _ _ _ _ _ _ _ PassesOwn.never rfl (I.tup (E.v 0)) (pg_name (i:=2) sc_box_of.nd rfl (by first | exact Or.inl rfl | exact Or.inr rfl) ) (TgP.name (i:=2))
    (@Ss.one _ _ _ _ (@S.ifS _ _ _ _ _ _ _ _ _ (T.eq hr (E.at (E.v 2) (E.globI tx.c_NAME)) (E.v 1)) (@Ss.one _ _ _ _ (S.ret (E.v 2))) Ss.nil)) (fun _=>rfl))
    (@Ss.one _ _ _ _ S.never))
def gx_box_of  : En→Option Nat :=
  (xSeq (sFor (lI asTu (eV 0)) (tgN 2)
    (sIf (bT (l2 pEq (l2 pIx (eV 2) (eC (.int 0))) (eV 1))) (sRet (eV 2)) sNx))
    (fun η=>if (fun η=>pYes η&&pRep (eV 1) η) η=true then some 0 else none))
theorem okx_box_of {k:Nat} (tx:Tx K mg t)  : FnOk Pr w K mg base (CXX Pr w) (k+1) t.box_of t.d_box_of ["scene", "name"] (spX K (ca t) (runX 2 3 (gx_box_of))) :=
  fnX tx.F_box_of sc_box_of fun _ _ _ _ _ _ _ _ hr hx hm =>
    (SsX.cons (S.nx (@S.for _ _ _ _ _ _ _ _ _ _ _ PassesOwn.never rfl (I.tup (E.v 0)) (pg_name (i:=2) sc_box_of.nd rfl (by first | exact Or.inl rfl | exact Or.inr rfl) ) (TgP.name (i:=2))
    (@Ss.one _ _ _ _ (@S.ifS _ _ _ _ _ _ _ _ _ (T.eq hr (E.at (E.v 2) (E.globI tx.c_NAME)) (E.v 1)) (@Ss.one _ _ _ _ (S.ret (E.v 2))) Ss.nil)) (fun _=>rfl)))
    (SsX.one (SX.raise 0 hm rfl tx.m_NoBox (tx.refs.xc 0 (by decide)).ex (EA.js2 (ES.lit (by decide)) (ES.repr (E.v 1))))))
abbrev N_children:List Str:=["scene", "name"]
theorem sc_children:FnScope ["scene", "name"] ["scene", "name"] (defScope s_children):=⟨rfl,rfl,rfl,by decide +kernel,rfl,by decide +kernel,by decide +kernel⟩
def g_children  : En→Option Out :=
  (sRet (oE (sComp [none,some 1] (lI asTu (eV 0)) (tgN 0) (bT (l2 pEq (l2 pIx (eV 0) (eC (.int 1))) (eV 1))) (l2 pIx (eV 0) (eC (.int 0))))))
theorem ok_children {k:Nat} (tx:Tx K mg t)  : FnOk Pr w K mg base CX0 (k+1) t.children t.d_children ["scene", "name"] (spP K (runF 2 2 (g_children))) :=
  fnP tx.F_children sc_children fun _ _ _ _ _ _ _ hr =>
    (@Ss.one _ _ _ _ (S.ret (EO.toE (EO.comp (N':=["box", "name"]) (mp:=[none,some 1]) rfl (CompSc.of' N_children (defScope s_children) rfl rfl (by decide +kernel)) (TgP.name (i:=0)) (by decide) (I.tup (E.v 0)) (fun _ _ _=>⟨(pg_name (i:=0) (show (["box", "name"]:List Str).Nodup by decide +kernel) rfl (Or.inl rfl) (.inr rfl)),(Ts.one (T.eq hr (E.at (E.v 0) (E.globI tx.c_AROUND)) (E.v 1))),(E.at (E.v 0) (E.globI tx.c_NAME))⟩)))))
theorem sc_below:FnScope ["scene", "name", "names", "child"] ["scene", "name"] (defScope s_below):=⟨rfl,rfl,rfl,by decide +kernel,rfl,by decide +kernel,by decide +kernel⟩
def g_below (fn_box_of:PFn) (fn_children:PFn) (fn_below:PFn):En→Option Out :=
  (sSeq (sSetO 2 (fun η=>((aC (l2 pIx (lA fn_box_of (aC (eV 0) (aC (eV 1) aN))) (eC (.int 0))) aN) η).bind gL))
    (sSeq (sFor (lI asL (lA fn_children (aC (eV 0) (aC (eV 1) aN)))) (tgN 3)
    (sExt 2 (lI asL (lA fn_below (aC (eV 0) (aC (eV 3) aN))))))
    (sRetO 2)))
theorem ok_below {k:Nat} (tx:Tx K mg t) {k_box_of:Nat} {fn_box_of:PFn} (G_box_of:FnOk Pr w K mg base CX0 k_box_of t.box_of t.d_box_of ["scene", "name"] (spP K fn_box_of)) (hk_box_of:k_box_of≤k) {k_children:Nat} {fn_children:PFn} (G_children:FnOk Pr w K mg base CX0 k_children t.children t.d_children ["scene", "name"] (spP K fn_children)) (hk_children:k_children≤k) {k_below:Nat} {fn_below:PFn} (G_below:FnOk Pr w K mg base CX0 k_below t.below t.d_below ["scene", "name"] (spP K fn_below)) (hk_below:k_below≤k):FnOk Pr w K mg base CX0 (k+1) t.below t.d_below ["scene", "name"] (spP K (runF 2 4 (g_below fn_box_of fn_children fn_below))) :=
  fnP tx.F_below sc_below fun _ _ _ _ _ _ _ hr =>
    (@Ss.cons _ _ _ _ _ _ (S.setO 2 sc_below.nd (EO.lst (A.cons (E.at (E.call G_box_of hr (by omega) tx.m_box_of tx.F_box_of.kp tx.b_box_of (A.cons (E.v 0) (A.cons (E.v 1) A.nil))) (E.globI tx.c_NAME)) A.nil)))
    (@Ss.cons _ _ _ _ _ _ (@S.for _ _ _ _ _ _ _ _ _ _ _ PassesOwn.never rfl (I.list (E.call G_children hr (by omega) tx.m_children tx.F_children.kp tx.b_children (A.cons (E.v 0) (A.cons (E.v 1) A.nil)))) (pg_name (i:=3) sc_below.nd rfl (by first | exact Or.inl rfl | exact Or.inr rfl) ) (TgP.name (i:=3))
    (@Ss.one _ _ _ _ (S.ext 2 (E.call G_below hr (by omega) tx.m_below tx.F_below.kp tx.b_below (A.cons (E.v 0) (A.cons (E.v 3) A.nil))))) (fun _=>rfl))
    (@Ss.one _ _ _ _ (S.retO 2))))
def gx_below (fx_box_of:List PyData→Option Nat):En→Option Nat :=
  (fun η=>((aC (eV 0) (aC (eV 1) aN)) η).bind fx_box_of)
theorem okx_below {k:Nat} (tx:Tx K mg t) {kx_box_of:Nat} {fx_box_of:List PyData→Option Nat} (GX_box_of:FnOk Pr w K mg base (CXX Pr w) kx_box_of t.box_of t.d_box_of ["scene", "name"] (spX K (ca t) fx_box_of)) (hkx_box_of:kx_box_of≤k):FnOk Pr w K mg base (CXX Pr w) (k+1) t.below t.d_below ["scene", "name"] (spX K (ca t) (runX 2 4 (gx_below fx_box_of))) :=
  fnX tx.F_below sc_below fun _ _ _ _ _ _ _ _ hr hx hm =>
    (SsX.one (SX.set 2 sc_below.nd (EX.lst (AX.head (hr:=PA.no) (EX.ix (EX.call GX_box_of hx hr (by omega) tx.m_box_of tx.F_box_of.kp tx.b_box_of (A.cons (E.v 0) (A.cons (E.v 1) A.nil))))))))
abbrev N_cut:List Str:=["scene", "name", "gone"]
theorem sc_cut:FnScope ["scene", "name", "gone"] ["scene", "name"] (defScope s_cut):=⟨rfl,rfl,rfl,by decide +kernel,rfl,by decide +kernel,by decide +kernel⟩
def g_cut (fn_below:PFn):En→Option Out :=
  (sSeq (sSet 2 (lA fn_below (aC (eV 0) (aC (eV 1) aN))))
    (sRet (lA pTup (aC (oE (sComp [none,some 2] (lI asTu (eV 0)) (tgN 0) (bT (l2 (pIn true) (l2 pIx (eV 0) (eC (.int 0))) (eV 1))) (eV 0))) aN))))
theorem ok_cut {k:Nat} (tx:Tx K mg t) {k_below:Nat} {fn_below:PFn} (G_below:FnOk Pr w K mg base CX0 k_below t.below t.d_below ["scene", "name"] (spP K fn_below)) (hk_below:k_below≤k):FnOk Pr w K mg base CX0 (k+1) t.cut t.d_cut ["scene", "name"] (spP K (runF 2 3 (g_cut fn_below))) :=
  fnP tx.F_cut sc_cut fun _ _ _ _ _ _ _ hr =>
    (@Ss.cons _ _ _ _ _ _ (S.set 2 sc_cut.nd (E.call G_below hr (by omega) tx.m_below tx.F_below.kp tx.b_below (A.cons (E.v 0) (A.cons (E.v 1) A.nil))))
    (@Ss.one _ _ _ _ (S.ret (E.tuple tx.z_tuple (A.cons (EO.toE (EO.comp (N':=["box", "gone"]) (mp:=[none,some 2]) rfl (CompSc.of' N_cut (defScope s_cut) rfl rfl (by decide +kernel)) (TgP.name (i:=0)) (by decide) (I.tup (E.v 0)) (fun _ _ _=>⟨(pg_name (i:=0) (show (["box", "gone"]:List Str).Nodup by decide +kernel) rfl (Or.inl rfl) (.inr rfl)),(Ts.one (T.notIn (E.at (E.v 0) (E.globI tx.c_NAME)) (E.v 1))),(E.v 0)⟩))) A.nil)))))
def gx_cut (fx_below:List PyData→Option Nat):En→Option Nat :=
  (fun η=>((aC (eV 0) (aC (eV 1) aN)) η).bind fx_below)
theorem okx_cut {k:Nat} (tx:Tx K mg t) {kx_below:Nat} {fx_below:List PyData→Option Nat} (GX_below:FnOk Pr w K mg base (CXX Pr w) kx_below t.below t.d_below ["scene", "name"] (spX K (ca t) fx_below)) (hkx_below:kx_below≤k):FnOk Pr w K mg base (CXX Pr w) (k+1) t.cut t.d_cut ["scene", "name"] (spX K (ca t) (runX 2 3 (gx_cut fx_below))) :=
  fnX tx.F_cut sc_cut fun _ _ _ _ _ _ _ _ hr hx hm =>
    (SsX.one (SX.set 2 sc_cut.nd (EX.call GX_below hx hr (by omega) tx.m_below tx.F_below.kp tx.b_below (A.cons (E.v 0) (A.cons (E.v 1) A.nil)))))
theorem sc_X_take:FnScope ["self", "name", "names"] ["self", "name"] (defScope s_X_take):=⟨rfl,rfl,rfl,by decide +kernel,rfl,by decide +kernel,by decide +kernel⟩
def g_X_take (fn_below:PFn) (fn_X_step_to:DFn) (fn_cut:PFn):Wd→Option MOut :=
  (mSeq (mSet 2 (mP (lA fn_below (aC (eFld 0 "scene") (aC (eV 1) aN)))))
    (mSeq (mExp (mMeth 0 "step_to" fn_X_step_to (mV 0) (maC (mP (eC (.str "take"))) (maC (mP (lA fn_cut (aC (eFld 0 "scene") (aC (eV 1) aN)))) maN))))
    (mRet (mP (eV 2)))))
theorem ok_X_take {k:Nat} (tx:Tx K mg t) {k_below:Nat} {fn_below:PFn} (G_below:FnOk Pr w K mg base CX0 k_below t.below t.d_below ["scene", "name"] (spP K fn_below)) (hk_below:k_below≤k) {k_X_step_to:Nat} {fn_X_step_to:DFn} (G_X_step_to:FnOk Pr w K mg base CX0 k_X_step_to t.X_step_to t.d_X_step_to ["self", "word", "scene"] (spM K (cl t) fn_X_step_to)) (hk_X_step_to:k_X_step_to≤k) {k_cut:Nat} {fn_cut:PFn} (G_cut:FnOk Pr w K mg base CX0 k_cut t.cut t.d_cut ["scene", "name"] (spP K fn_cut)) (hk_cut:k_cut≤k):FnOk Pr w K mg base CX0 (k+1) t.X_take t.d_X_take ["self", "name"] (spM K (cl t) (runM 2 3 (g_X_take fn_below fn_X_step_to fn_cut))) :=
  fnM tx.F_X_take sc_X_take fun _ _ _ _ _ _ hr =>
    (@MSs.cons _ _ _ _ _ _ (MS.set 2 sc_X_take.nd (ME.pu fun _=>(E.call G_below hr (by omega) tx.m_below tx.F_below.kp tx.b_below (A.cons (E.fld 0) (A.cons (E.v 1) A.nil)))))
    (@MSs.cons _ _ _ _ _ _ (MS.exp (ME.meth (kc:=0) (ME.v 0) tx.cl_Plan tx.me_X_step_to G_X_step_to hr (by omega) tx.b_X_step_to (MA.cons (ME.pu fun _=>E.str) (MA.cons (ME.pu fun _=>(E.call G_cut hr (by omega) tx.m_cut tx.F_cut.kp tx.b_cut (A.cons (E.fld 0) (A.cons (E.v 1) A.nil)))) MA.nil))))
    (@MSs.one _ _ _ _ (MS.ret (ME.pu fun _=>(E.v 2))))))
def gx_X_take (fn_below:PFn) (fn_X_step_to:DFn) (fx_below:List PyData→Option Nat) (fx_cut:List PyData→Option Nat):MXF :=
  (mxOr (mxP (fun η=>((aC (eFld 0 "scene") (aC (eV 1) aN)) η).bind fx_below)) (mxSeq (mSet 2 (mP (lA fn_below (aC (eFld 0 "scene") (aC (eV 1) aN)))))
    (mxArg 0 "step_to" (mV 0) (mxP (fun η=>((eC (.str "take")) η).bind fun _=>(fun η=>((aC (eFld 0 "scene") (aC (eV 1) aN)) η).bind fx_cut) η)))))
theorem okx_X_take {k:Nat} (tx:Tx K mg t) {k_below:Nat} {fn_below:PFn} (G_below:FnOk Pr w K mg base CX0 k_below t.below t.d_below ["scene", "name"] (spP K fn_below)) (hk_below:k_below≤k) {k_X_step_to:Nat} {fn_X_step_to:DFn} (G_X_step_to:FnOk Pr w K mg base CX0 k_X_step_to t.X_step_to t.d_X_step_to ["self", "word", "scene"] (spM K (cl t) fn_X_step_to)) (hk_X_step_to:k_X_step_to≤k) {kx_below:Nat} {fx_below:List PyData→Option Nat} (GX_below:FnOk Pr w K mg base (CXX Pr w) kx_below t.below t.d_below ["scene", "name"] (spX K (ca t) fx_below)) (hkx_below:kx_below≤k) {kx_cut:Nat} {fx_cut:List PyData→Option Nat} (GX_cut:FnOk Pr w K mg base (CXX Pr w) kx_cut t.cut t.d_cut ["scene", "name"] (spX K (ca t) fx_cut)) (hkx_cut:kx_cut≤k):FnOk Pr w K mg base (CXX Pr w) (k+1) t.X_take t.d_X_take ["self", "name"] (spMX K (cl t) (ca t) (runMX 2 3 (gx_X_take fn_below fn_X_step_to fx_below fx_cut))) :=
  fnMX tx.F_X_take sc_X_take fun _ _ _ _ _ _ _ hr hx hm =>
    (MSsX.or (MSsX.one (MSX.set 2 sc_X_take.nd (MEX.pu fun _=>(EX.call GX_below hx hr (by omega) tx.m_below tx.F_below.kp tx.b_below (A.cons (E.fld 0) (A.cons (E.v 1) A.nil)))))) (MSsX.cons (MS.nx (MS.set 2 sc_X_take.nd (ME.pu fun _=>(E.call G_below hr (by omega) tx.m_below tx.F_below.kp tx.b_below (A.cons (E.fld 0) (A.cons (E.v 1) A.nil))))))
    (MSsX.one (MSX.exp (MEX.arg (kc:=0) (ME.v 0) tx.cl_Plan tx.me_X_step_to G_X_step_to hr (by omega) tx.b_X_step_to (MAX.pu fun _=>(AX.tail E.str (AX.head (hr:=PA.no) (EX.call GX_cut hx hr (by omega) tx.m_cut tx.F_cut.kp tx.b_cut (A.cons (E.fld 0) (A.cons (E.v 1) A.nil)))))))))))
abbrev N_raised:List Str:=["scene", "name", "lifted"]
theorem sc_raised:FnScope ["scene", "name", "lifted"] ["scene", "name"] (defScope s_raised):=⟨rfl,rfl,rfl,by decide +kernel,rfl,by decide +kernel,by decide +kernel⟩
def g_raised (fn_below:PFn) (fn_cut:PFn):En→Option Out :=
  (sSeq (sSet 2 (lA fn_below (aC (eV 0) (aC (eV 1) aN))))
    (sRet (l2 pAdd (lA fn_cut (aC (eV 0) (aC (eV 1) aN))) (lA pTup (aC (oE (sComp [none,some 2] (lI asTu (eV 0)) (tgN 0) (bT (l2 (pIn false) (l2 pIx (eV 0) (eC (.int 0))) (eV 1))) (eV 0))) aN)))))
theorem ok_raised {k:Nat} (tx:Tx K mg t) {k_below:Nat} {fn_below:PFn} (G_below:FnOk Pr w K mg base CX0 k_below t.below t.d_below ["scene", "name"] (spP K fn_below)) (hk_below:k_below≤k) {k_cut:Nat} {fn_cut:PFn} (G_cut:FnOk Pr w K mg base CX0 k_cut t.cut t.d_cut ["scene", "name"] (spP K fn_cut)) (hk_cut:k_cut≤k):FnOk Pr w K mg base CX0 (k+1) t.raised t.d_raised ["scene", "name"] (spP K (runF 2 3 (g_raised fn_below fn_cut))) :=
  fnP tx.F_raised sc_raised fun _ _ _ _ _ _ _ hr =>
    (@Ss.cons _ _ _ _ _ _ (S.set 2 sc_raised.nd (E.call G_below hr (by omega) tx.m_below tx.F_below.kp tx.b_below (A.cons (E.v 0) (A.cons (E.v 1) A.nil))))
    (@Ss.one _ _ _ _ (S.ret (E.add (E.call G_cut hr (by omega) tx.m_cut tx.F_cut.kp tx.b_cut (A.cons (E.v 0) (A.cons (E.v 1) A.nil))) (E.tuple tx.z_tuple (A.cons (EO.toE (EO.comp (N':=["box", "lifted"]) (mp:=[none,some 2]) rfl (CompSc.of' N_raised (defScope s_raised) rfl rfl (by decide +kernel)) (TgP.name (i:=0)) (by decide) (I.tup (E.v 0)) (fun _ _ _=>⟨(pg_name (i:=0) (show (["box", "lifted"]:List Str).Nodup by decide +kernel) rfl (Or.inl rfl) (.inr rfl)),(Ts.one (T.in (E.at (E.v 0) (E.globI tx.c_NAME)) (E.v 1))),(E.v 0)⟩))) A.nil))))))
def gx_raised (fn_below:PFn) (fx_below:List PyData→Option Nat) (fx_cut:List PyData→Option Nat):En→Option Nat :=
  (xOr (fun η=>((aC (eV 0) (aC (eV 1) aN)) η).bind fx_below) (xSeq (sSet 2 (lA fn_below (aC (eV 0) (aC (eV 1) aN))))
    (fun η=>((aC (eV 0) (aC (eV 1) aN)) η).bind fx_cut)))
theorem okx_raised {k:Nat} (tx:Tx K mg t) {k_below:Nat} {fn_below:PFn} (G_below:FnOk Pr w K mg base CX0 k_below t.below t.d_below ["scene", "name"] (spP K fn_below)) (hk_below:k_below≤k) {kx_below:Nat} {fx_below:List PyData→Option Nat} (GX_below:FnOk Pr w K mg base (CXX Pr w) kx_below t.below t.d_below ["scene", "name"] (spX K (ca t) fx_below)) (hkx_below:kx_below≤k) {kx_cut:Nat} {fx_cut:List PyData→Option Nat} (GX_cut:FnOk Pr w K mg base (CXX Pr w) kx_cut t.cut t.d_cut ["scene", "name"] (spX K (ca t) fx_cut)) (hkx_cut:kx_cut≤k):FnOk Pr w K mg base (CXX Pr w) (k+1) t.raised t.d_raised ["scene", "name"] (spX K (ca t) (runX 2 3 (gx_raised fn_below fx_below fx_cut))) :=
  fnX tx.F_raised sc_raised fun _ _ _ _ _ _ _ _ hr hx hm =>
    (SsX.or (SsX.one (SX.set 2 sc_raised.nd (EX.call GX_below hx hr (by omega) tx.m_below tx.F_below.kp tx.b_below (A.cons (E.v 0) (A.cons (E.v 1) A.nil))))) (SsX.cons (S.nx (S.set 2 sc_raised.nd (E.call G_below hr (by omega) tx.m_below tx.F_below.kp tx.b_below (A.cons (E.v 0) (A.cons (E.v 1) A.nil)))))
    (SsX.one (SX.ret (EX.addL (EX.call GX_cut hx hr (by omega) tx.m_cut tx.F_cut.kp tx.b_cut (A.cons (E.v 0) (A.cons (E.v 1) A.nil))))))))
theorem sc_X_lift:FnScope ["self", "name"] ["self", "name"] (defScope s_X_lift):=⟨rfl,rfl,rfl,by decide +kernel,rfl,by decide +kernel,by decide +kernel⟩
def g_X_lift (fn_X_step_to:DFn) (fn_raised:PFn):Wd→Option MOut :=
  (mExp (mMeth 0 "step_to" fn_X_step_to (mV 0) (maC (mP (eC (.str "lift"))) (maC (mP (lA fn_raised (aC (eFld 0 "scene") (aC (eV 1) aN)))) maN))))
theorem ok_X_lift {k:Nat} (tx:Tx K mg t) {k_X_step_to:Nat} {fn_X_step_to:DFn} (G_X_step_to:FnOk Pr w K mg base CX0 k_X_step_to t.X_step_to t.d_X_step_to ["self", "word", "scene"] (spM K (cl t) fn_X_step_to)) (hk_X_step_to:k_X_step_to≤k) {k_raised:Nat} {fn_raised:PFn} (G_raised:FnOk Pr w K mg base CX0 k_raised t.raised t.d_raised ["scene", "name"] (spP K fn_raised)) (hk_raised:k_raised≤k):FnOk Pr w K mg base CX0 (k+1) t.X_lift t.d_X_lift ["self", "name"] (spM K (cl t) (runM 2 2 (g_X_lift fn_X_step_to fn_raised))) :=
  fnM tx.F_X_lift sc_X_lift fun _ _ _ _ _ _ hr =>
    (@MSs.one _ _ _ _ (MS.exp (ME.meth (kc:=0) (ME.v 0) tx.cl_Plan tx.me_X_step_to G_X_step_to hr (by omega) tx.b_X_step_to (MA.cons (ME.pu fun _=>E.str) (MA.cons (ME.pu fun _=>(E.call G_raised hr (by omega) tx.m_raised tx.F_raised.kp tx.b_raised (A.cons (E.fld 0) (A.cons (E.v 1) A.nil)))) MA.nil)))))
def gx_X_lift (fn_X_step_to:DFn) (fx_raised:List PyData→Option Nat):MXF :=
  (mxArg 0 "step_to" (mV 0) (mxP (fun η=>((eC (.str "lift")) η).bind fun _=>(fun η=>((aC (eFld 0 "scene") (aC (eV 1) aN)) η).bind fx_raised) η)))
theorem okx_X_lift {k:Nat} (tx:Tx K mg t) {k_X_step_to:Nat} {fn_X_step_to:DFn} (G_X_step_to:FnOk Pr w K mg base CX0 k_X_step_to t.X_step_to t.d_X_step_to ["self", "word", "scene"] (spM K (cl t) fn_X_step_to)) (hk_X_step_to:k_X_step_to≤k) {kx_raised:Nat} {fx_raised:List PyData→Option Nat} (GX_raised:FnOk Pr w K mg base (CXX Pr w) kx_raised t.raised t.d_raised ["scene", "name"] (spX K (ca t) fx_raised)) (hkx_raised:kx_raised≤k):FnOk Pr w K mg base (CXX Pr w) (k+1) t.X_lift t.d_X_lift ["self", "name"] (spMX K (cl t) (ca t) (runMX 2 2 (gx_X_lift fn_X_step_to fx_raised))) :=
  fnMX tx.F_X_lift sc_X_lift fun _ _ _ _ _ _ _ hr hx hm =>
    (MSsX.one (MSX.exp (MEX.arg (kc:=0) (ME.v 0) tx.cl_Plan tx.me_X_step_to G_X_step_to hr (by omega) tx.b_X_step_to (MAX.pu fun _=>(AX.tail E.str (AX.head (hr:=PA.no) (EX.call GX_raised hx hr (by omega) tx.m_raised tx.F_raised.kp tx.b_raised (A.cons (E.fld 0) (A.cons (E.v 1) A.nil)))))))))
abbrev N_with_other:List Str:=["scene", "other"]
theorem sc_with_other:FnScope ["scene", "other"] ["scene", "other"] (defScope s_with_other):=⟨rfl,rfl,rfl,by decide +kernel,rfl,by decide +kernel,by decide +kernel⟩
def g_with_other  : En→Option Out :=
  (sRet (lA pTup (aC (oE (sComp [none,some 1] (lI asTu (eV 0)) (tgN 0) tTrue (vIf (bT (l2 pEq (l2 pIx (eV 0) (eC (.int 0))) (l2 pIx (eV 1) (eC (.int 0))))) (eV 1) (eV 0)))) aN)))
theorem ok_with_other {k:Nat} (tx:Tx K mg t)  : FnOk Pr w K mg base CX0 (k+1) t.with_other t.d_with_other ["scene", "other"] (spP K (runF 2 2 (g_with_other))) :=
  fnP tx.F_with_other sc_with_other fun _ _ _ _ _ _ _ hr =>
    (@Ss.one _ _ _ _ (S.ret (E.tuple tx.z_tuple (A.cons (EO.toE (EO.comp (N':=["box", "other"]) (mp:=[none,some 1]) rfl (CompSc.of' N_with_other (defScope s_with_other) rfl rfl (by decide +kernel)) (TgP.name (i:=0)) (by decide) (I.tup (E.v 0)) (fun _ _ _=>⟨(pg_name (i:=0) (show (["box", "other"]:List Str).Nodup by decide +kernel) rfl (Or.inl rfl) (.inr rfl)),Ts.nil,(E.ifE (T.eq hr (E.at (E.v 0) (E.globI tx.c_NAME)) (E.at (E.v 1) (E.globI tx.c_NAME))) (E.v 1) (E.v 0))⟩))) A.nil))))
theorem sc_marked:FnScope ["scene", "name", "marks", "box"] ["scene", "name", "marks"] (defScope s_marked):=⟨rfl,rfl,rfl,by decide +kernel,rfl,by decide +kernel,by decide +kernel⟩
def g_marked (fn_box_of:PFn) (fn_with_other:PFn):En→Option Out :=
  (sSeq (sSet 3 (lA fn_box_of (aC (eV 0) (aC (eV 1) aN))))
    (sRet (lA fn_with_other (aC (eV 0) (aC (l2 pAdd (eSl (eV 3) pN (pS (eC (.int 6)))) (lA (fun ds=>if ds.length≤sizeLine then some (.tuple ds) else none) (aC (eV 2) aN))) aN)))))
theorem ok_marked {k:Nat} (tx:Tx K mg t) {k_box_of:Nat} {fn_box_of:PFn} (G_box_of:FnOk Pr w K mg base CX0 k_box_of t.box_of t.d_box_of ["scene", "name"] (spP K fn_box_of)) (hk_box_of:k_box_of≤k) {k_with_other:Nat} {fn_with_other:PFn} (G_with_other:FnOk Pr w K mg base CX0 k_with_other t.with_other t.d_with_other ["scene", "other"] (spP K fn_with_other)) (hk_with_other:k_with_other≤k):FnOk Pr w K mg base CX0 (k+1) t.marked t.d_marked ["scene", "name", "marks"] (spP K (runF 3 4 (g_marked fn_box_of fn_with_other))) :=
  fnP tx.F_marked sc_marked fun _ _ _ _ _ _ _ hr =>
    (@Ss.cons _ _ _ _ _ _ (S.set 3 sc_marked.nd (E.call G_box_of hr (by omega) tx.m_box_of tx.F_box_of.kp tx.b_box_of (A.cons (E.v 0) (A.cons (E.v 1) A.nil))))
    (@Ss.one _ _ _ _ (S.ret (E.call G_with_other hr (by omega) tx.m_with_other tx.F_with_other.kp tx.b_with_other (A.cons (E.v 0) (A.cons (E.add (E.sl (E.v 3) P.none (P.some (E.globI tx.c_MARKS))) (E.tup (A.cons (E.v 2) A.nil))) A.nil))))))
def gx_marked (fx_box_of:List PyData→Option Nat):En→Option Nat :=
  (fun η=>((aC (eV 0) (aC (eV 1) aN)) η).bind fx_box_of)
theorem okx_marked {k:Nat} (tx:Tx K mg t) {kx_box_of:Nat} {fx_box_of:List PyData→Option Nat} (GX_box_of:FnOk Pr w K mg base (CXX Pr w) kx_box_of t.box_of t.d_box_of ["scene", "name"] (spX K (ca t) fx_box_of)) (hkx_box_of:kx_box_of≤k):FnOk Pr w K mg base (CXX Pr w) (k+1) t.marked t.d_marked ["scene", "name", "marks"] (spX K (ca t) (runX 3 4 (gx_marked fx_box_of))) :=
  fnX tx.F_marked sc_marked fun _ _ _ _ _ _ _ _ hr hx hm =>
    (SsX.one (SX.set 3 sc_marked.nd (EX.call GX_box_of hx hr (by omega) tx.m_box_of tx.F_box_of.kp tx.b_box_of (A.cons (E.v 0) (A.cons (E.v 1) A.nil)))))
theorem sc_X_mark:FnScope ["self", "name", "marks", "box"] ["self", "name", "marks"] (defScope s_X_mark):=⟨rfl,rfl,rfl,by decide +kernel,rfl,by decide +kernel,by decide +kernel⟩
def g_X_mark (fn_box_of:PFn) (fn_X_step_to:DFn) (fn_marked:PFn):Wd→Option MOut :=
  (mSeq (mSet 3 (mP (lA fn_box_of (aC (eFld 0 "scene") (aC (eV 1) aN)))))
    (mSeq (mExp (mMeth 0 "step_to" fn_X_step_to (mV 0) (maC (mP (eC (.str "mark"))) (maC (mP (lA fn_marked (aC (eFld 0 "scene") (aC (eV 1) (aC (eV 2) aN))))) maN))))
    (mRet (mP (l2 pIx (eV 3) (eC (.int 6)))))))
theorem ok_X_mark {k:Nat} (tx:Tx K mg t) {k_box_of:Nat} {fn_box_of:PFn} (G_box_of:FnOk Pr w K mg base CX0 k_box_of t.box_of t.d_box_of ["scene", "name"] (spP K fn_box_of)) (hk_box_of:k_box_of≤k) {k_X_step_to:Nat} {fn_X_step_to:DFn} (G_X_step_to:FnOk Pr w K mg base CX0 k_X_step_to t.X_step_to t.d_X_step_to ["self", "word", "scene"] (spM K (cl t) fn_X_step_to)) (hk_X_step_to:k_X_step_to≤k) {k_marked:Nat} {fn_marked:PFn} (G_marked:FnOk Pr w K mg base CX0 k_marked t.marked t.d_marked ["scene", "name", "marks"] (spP K fn_marked)) (hk_marked:k_marked≤k):FnOk Pr w K mg base CX0 (k+1) t.X_mark t.d_X_mark ["self", "name", "marks"] (spM K (cl t) (runM 3 4 (g_X_mark fn_box_of fn_X_step_to fn_marked))) :=
  fnM tx.F_X_mark sc_X_mark fun _ _ _ _ _ _ hr =>
    (@MSs.cons _ _ _ _ _ _ (MS.set 3 sc_X_mark.nd (ME.pu fun _=>(E.call G_box_of hr (by omega) tx.m_box_of tx.F_box_of.kp tx.b_box_of (A.cons (E.fld 0) (A.cons (E.v 1) A.nil)))))
    (@MSs.cons _ _ _ _ _ _ (MS.exp (ME.meth (kc:=0) (ME.v 0) tx.cl_Plan tx.me_X_step_to G_X_step_to hr (by omega) tx.b_X_step_to (MA.cons (ME.pu fun _=>E.str) (MA.cons (ME.pu fun _=>(E.call G_marked hr (by omega) tx.m_marked tx.F_marked.kp tx.b_marked (A.cons (E.fld 0) (A.cons (E.v 1) (A.cons (E.v 2) A.nil))))) MA.nil))))
    (@MSs.one _ _ _ _ (MS.ret (ME.pu fun _=>(E.at (E.v 3) (E.globI tx.c_MARKS)))))))
def gx_X_mark (fn_box_of:PFn) (fn_X_step_to:DFn) (fx_box_of:List PyData→Option Nat) (fx_marked:List PyData→Option Nat):MXF :=
  (mxOr (mxP (fun η=>((aC (eFld 0 "scene") (aC (eV 1) aN)) η).bind fx_box_of)) (mxSeq (mSet 3 (mP (lA fn_box_of (aC (eFld 0 "scene") (aC (eV 1) aN)))))
    (mxArg 0 "step_to" (mV 0) (mxP (fun η=>((eC (.str "mark")) η).bind fun _=>(fun η=>((aC (eFld 0 "scene") (aC (eV 1) (aC (eV 2) aN))) η).bind fx_marked) η)))))
theorem okx_X_mark {k:Nat} (tx:Tx K mg t) {k_box_of:Nat} {fn_box_of:PFn} (G_box_of:FnOk Pr w K mg base CX0 k_box_of t.box_of t.d_box_of ["scene", "name"] (spP K fn_box_of)) (hk_box_of:k_box_of≤k) {k_X_step_to:Nat} {fn_X_step_to:DFn} (G_X_step_to:FnOk Pr w K mg base CX0 k_X_step_to t.X_step_to t.d_X_step_to ["self", "word", "scene"] (spM K (cl t) fn_X_step_to)) (hk_X_step_to:k_X_step_to≤k) {kx_box_of:Nat} {fx_box_of:List PyData→Option Nat} (GX_box_of:FnOk Pr w K mg base (CXX Pr w) kx_box_of t.box_of t.d_box_of ["scene", "name"] (spX K (ca t) fx_box_of)) (hkx_box_of:kx_box_of≤k) {kx_marked:Nat} {fx_marked:List PyData→Option Nat} (GX_marked:FnOk Pr w K mg base (CXX Pr w) kx_marked t.marked t.d_marked ["scene", "name", "marks"] (spX K (ca t) fx_marked)) (hkx_marked:kx_marked≤k):FnOk Pr w K mg base (CXX Pr w) (k+1) t.X_mark t.d_X_mark ["self", "name", "marks"] (spMX K (cl t) (ca t) (runMX 3 4 (gx_X_mark fn_box_of fn_X_step_to fx_box_of fx_marked))) :=
  fnMX tx.F_X_mark sc_X_mark fun _ _ _ _ _ _ _ hr hx hm =>
    (MSsX.or (MSsX.one (MSX.set 3 sc_X_mark.nd (MEX.pu fun _=>(EX.call GX_box_of hx hr (by omega) tx.m_box_of tx.F_box_of.kp tx.b_box_of (A.cons (E.fld 0) (A.cons (E.v 1) A.nil)))))) (MSsX.cons (MS.nx (MS.set 3 sc_X_mark.nd (ME.pu fun _=>(E.call G_box_of hr (by omega) tx.m_box_of tx.F_box_of.kp tx.b_box_of (A.cons (E.fld 0) (A.cons (E.v 1) A.nil))))))
    (MSsX.one (MSX.exp (MEX.arg (kc:=0) (ME.v 0) tx.cl_Plan tx.me_X_step_to G_X_step_to hr (by omega) tx.b_X_step_to (MAX.pu fun _=>(AX.tail E.str (AX.head (hr:=PA.no) (EX.call GX_marked hx hr (by omega) tx.m_marked tx.F_marked.kp tx.b_marked (A.cons (E.fld 0) (A.cons (E.v 1) (A.cons (E.v 2) A.nil))))))))))))
theorem sc_put_at:FnScope ["scene", "name", "left", "top", "box"] ["scene", "name", "left", "top"] (defScope s_put_at):=⟨rfl,rfl,rfl,by decide +kernel,rfl,by decide +kernel,by decide +kernel⟩
def g_put_at (fn_box_of:PFn) (fn_with_other:PFn):En→Option Out :=
  (sSeq (sSet 4 (lA fn_box_of (aC (eV 0) (aC (eV 1) aN))))
    (sRet (lA fn_with_other (aC (eV 0) (aC (l2 pAdd (l2 pAdd (eSl (eV 4) pN (pS (eC (.int 2)))) (lA (fun ds=>if ds.length≤sizeLine then some (.tuple ds) else none) (aC (eV 2) (aC (eV 3) aN)))) (eSl (eV 4) (pS (eC (.int 4))) pN)) aN)))))
theorem ok_put_at {k:Nat} (tx:Tx K mg t) {k_box_of:Nat} {fn_box_of:PFn} (G_box_of:FnOk Pr w K mg base CX0 k_box_of t.box_of t.d_box_of ["scene", "name"] (spP K fn_box_of)) (hk_box_of:k_box_of≤k) {k_with_other:Nat} {fn_with_other:PFn} (G_with_other:FnOk Pr w K mg base CX0 k_with_other t.with_other t.d_with_other ["scene", "other"] (spP K fn_with_other)) (hk_with_other:k_with_other≤k):FnOk Pr w K mg base CX0 (k+1) t.put_at t.d_put_at ["scene", "name", "left", "top"] (spP K (runF 4 5 (g_put_at fn_box_of fn_with_other))) :=
  fnP tx.F_put_at sc_put_at fun _ _ _ _ _ _ _ hr =>
    (@Ss.cons _ _ _ _ _ _ (S.set 4 sc_put_at.nd (E.call G_box_of hr (by omega) tx.m_box_of tx.F_box_of.kp tx.b_box_of (A.cons (E.v 0) (A.cons (E.v 1) A.nil))))
    (@Ss.one _ _ _ _ (S.ret (E.call G_with_other hr (by omega) tx.m_with_other tx.F_with_other.kp tx.b_with_other (A.cons (E.v 0) (A.cons (E.add (E.add (E.sl (E.v 4) P.none (P.some (E.globI tx.c_LEFT))) (E.tup (A.cons (E.v 2) (A.cons (E.v 3) A.nil)))) (E.sl (E.v 4) (P.some (E.globI tx.c_WIDTH)) P.none)) A.nil))))))
def gx_put_at (fx_box_of:List PyData→Option Nat):En→Option Nat :=
  (fun η=>((aC (eV 0) (aC (eV 1) aN)) η).bind fx_box_of)
theorem okx_put_at {k:Nat} (tx:Tx K mg t) {kx_box_of:Nat} {fx_box_of:List PyData→Option Nat} (GX_box_of:FnOk Pr w K mg base (CXX Pr w) kx_box_of t.box_of t.d_box_of ["scene", "name"] (spX K (ca t) fx_box_of)) (hkx_box_of:kx_box_of≤k):FnOk Pr w K mg base (CXX Pr w) (k+1) t.put_at t.d_put_at ["scene", "name", "left", "top"] (spX K (ca t) (runX 4 5 (gx_put_at fx_box_of))) :=
  fnX tx.F_put_at sc_put_at fun _ _ _ _ _ _ _ _ hr hx hm =>
    (SsX.one (SX.set 4 sc_put_at.nd (EX.call GX_box_of hx hr (by omega) tx.m_box_of tx.F_box_of.kp tx.b_box_of (A.cons (E.v 0) (A.cons (E.v 1) A.nil)))))
theorem sc_X_lay:FnScope ["self", "name", "left", "top", "box"] ["self", "name", "left", "top"] (defScope s_X_lay):=⟨rfl,rfl,rfl,by decide +kernel,rfl,by decide +kernel,by decide +kernel⟩
def g_X_lay (fn_box_of:PFn) (fn_X_step_to:DFn) (fn_put_at:PFn):Wd→Option MOut :=
  (mSeq (mSet 4 (mP (lA fn_box_of (aC (eFld 0 "scene") (aC (eV 1) aN)))))
    (mSeq (mExp (mMeth 0 "step_to" fn_X_step_to (mV 0) (maC (mP (eC (.str "lay"))) (maC (mP (lA fn_put_at (aC (eFld 0 "scene") (aC (eV 1) (aC (eV 2) (aC (eV 3) aN)))))) maN))))
    (mRet (mP (eSl (eV 4) (pS (eC (.int 2))) (pS (eC (.int 4))))))))
theorem ok_X_lay {k:Nat} (tx:Tx K mg t) {k_box_of:Nat} {fn_box_of:PFn} (G_box_of:FnOk Pr w K mg base CX0 k_box_of t.box_of t.d_box_of ["scene", "name"] (spP K fn_box_of)) (hk_box_of:k_box_of≤k) {k_X_step_to:Nat} {fn_X_step_to:DFn} (G_X_step_to:FnOk Pr w K mg base CX0 k_X_step_to t.X_step_to t.d_X_step_to ["self", "word", "scene"] (spM K (cl t) fn_X_step_to)) (hk_X_step_to:k_X_step_to≤k) {k_put_at:Nat} {fn_put_at:PFn} (G_put_at:FnOk Pr w K mg base CX0 k_put_at t.put_at t.d_put_at ["scene", "name", "left", "top"] (spP K fn_put_at)) (hk_put_at:k_put_at≤k):FnOk Pr w K mg base CX0 (k+1) t.X_lay t.d_X_lay ["self", "name", "left", "top"] (spM K (cl t) (runM 4 5 (g_X_lay fn_box_of fn_X_step_to fn_put_at))) :=
  fnM tx.F_X_lay sc_X_lay fun _ _ _ _ _ _ hr =>
    (@MSs.cons _ _ _ _ _ _ (MS.set 4 sc_X_lay.nd (ME.pu fun _=>(E.call G_box_of hr (by omega) tx.m_box_of tx.F_box_of.kp tx.b_box_of (A.cons (E.fld 0) (A.cons (E.v 1) A.nil)))))
    (@MSs.cons _ _ _ _ _ _ (MS.exp (ME.meth (kc:=0) (ME.v 0) tx.cl_Plan tx.me_X_step_to G_X_step_to hr (by omega) tx.b_X_step_to (MA.cons (ME.pu fun _=>E.str) (MA.cons (ME.pu fun _=>(E.call G_put_at hr (by omega) tx.m_put_at tx.F_put_at.kp tx.b_put_at (A.cons (E.fld 0) (A.cons (E.v 1) (A.cons (E.v 2) (A.cons (E.v 3) A.nil)))))) MA.nil))))
    (@MSs.one _ _ _ _ (MS.ret (ME.pu fun _=>(E.sl (E.v 4) (P.some (E.globI tx.c_LEFT)) (P.some (E.globI tx.c_WIDTH))))))))
def gx_X_lay (fn_box_of:PFn) (fn_X_step_to:DFn) (fx_box_of:List PyData→Option Nat) (fx_put_at:List PyData→Option Nat):MXF :=
  (mxOr (mxP (fun η=>((aC (eFld 0 "scene") (aC (eV 1) aN)) η).bind fx_box_of)) (mxSeq (mSet 4 (mP (lA fn_box_of (aC (eFld 0 "scene") (aC (eV 1) aN)))))
    (mxArg 0 "step_to" (mV 0) (mxP (fun η=>((eC (.str "lay")) η).bind fun _=>(fun η=>((aC (eFld 0 "scene") (aC (eV 1) (aC (eV 2) (aC (eV 3) aN)))) η).bind fx_put_at) η)))))
theorem okx_X_lay {k:Nat} (tx:Tx K mg t) {k_box_of:Nat} {fn_box_of:PFn} (G_box_of:FnOk Pr w K mg base CX0 k_box_of t.box_of t.d_box_of ["scene", "name"] (spP K fn_box_of)) (hk_box_of:k_box_of≤k) {k_X_step_to:Nat} {fn_X_step_to:DFn} (G_X_step_to:FnOk Pr w K mg base CX0 k_X_step_to t.X_step_to t.d_X_step_to ["self", "word", "scene"] (spM K (cl t) fn_X_step_to)) (hk_X_step_to:k_X_step_to≤k) {kx_box_of:Nat} {fx_box_of:List PyData→Option Nat} (GX_box_of:FnOk Pr w K mg base (CXX Pr w) kx_box_of t.box_of t.d_box_of ["scene", "name"] (spX K (ca t) fx_box_of)) (hkx_box_of:kx_box_of≤k) {kx_put_at:Nat} {fx_put_at:List PyData→Option Nat} (GX_put_at:FnOk Pr w K mg base (CXX Pr w) kx_put_at t.put_at t.d_put_at ["scene", "name", "left", "top"] (spX K (ca t) fx_put_at)) (hkx_put_at:kx_put_at≤k):FnOk Pr w K mg base (CXX Pr w) (k+1) t.X_lay t.d_X_lay ["self", "name", "left", "top"] (spMX K (cl t) (ca t) (runMX 4 5 (gx_X_lay fn_box_of fn_X_step_to fx_box_of fx_put_at))) :=
  fnMX tx.F_X_lay sc_X_lay fun _ _ _ _ _ _ _ hr hx hm =>
    (MSsX.or (MSsX.one (MSX.set 4 sc_X_lay.nd (MEX.pu fun _=>(EX.call GX_box_of hx hr (by omega) tx.m_box_of tx.F_box_of.kp tx.b_box_of (A.cons (E.fld 0) (A.cons (E.v 1) A.nil)))))) (MSsX.cons (MS.nx (MS.set 4 sc_X_lay.nd (ME.pu fun _=>(E.call G_box_of hr (by omega) tx.m_box_of tx.F_box_of.kp tx.b_box_of (A.cons (E.fld 0) (A.cons (E.v 1) A.nil))))))
    (MSsX.one (MSX.exp (MEX.arg (kc:=0) (ME.v 0) tx.cl_Plan tx.me_X_step_to G_X_step_to hr (by omega) tx.b_X_step_to (MAX.pu fun _=>(AX.tail E.str (AX.head (hr:=PA.no) (EX.call GX_put_at hx hr (by omega) tx.m_put_at tx.F_put_at.kp tx.b_put_at (A.cons (E.fld 0) (A.cons (E.v 1) (A.cons (E.v 2) (A.cons (E.v 3) A.nil)))))))))))))
theorem sc_X_back:FnScope ["self", "step"] ["self"] (defScope s_X_back):=⟨rfl,rfl,rfl,by decide +kernel,rfl,by decide +kernel,by decide +kernel⟩
def g_X_back  : Wd→Option MOut :=
  (mSeq (mIf (tmNot (mTruL (mFld (mV 0) "done"))) (fun _=>none) mNx)
    (mSeq (mSet 1 (mPopL (mFld (mV 0) "done")))
    (mSeq (mExp (mAppC (mFld (mV 0) "undone") (mP (lA (fun ds=>if ds.length≤sizeLine then some (.tuple ds) else none) (aC (l2 pIx (eV 1) (eC (.int 0))) (aC (eFld 0 "scene") aN))))))
    (mSeq (mPut 0 "scene" (mV 0) (mP (l2 pIx (eV 1) (eC (.int 1)))))
    (mRet (mP (l2 pIx (eV 1) (eC (.int 0)))))))))
theorem ok_X_back {k:Nat} (tx:Tx K mg t)  : FnOk Pr w K mg base CX0 (k+1) t.X_back t.d_X_back ["self"] (spM K (cl t) (runM 1 2 (g_X_back))) :=
  fnM tx.F_X_back sc_X_back fun _ _ _ _ _ _ hr =>
    (@MSs.cons _ _ _ _ _ _ (@MS.ifS _ _ _ _ _ _ _ _ _ (MT.not (MT.truL (ME.fld (ME.v 0)))) (@MSs.one _ _ _ _ MS.never) MSs.nil)
    (@MSs.cons _ _ _ _ _ _ (MS.set 1 sc_X_back.nd (ME.popL (ME.fld (ME.v 0))))
    (@MSs.cons _ _ _ _ _ _ (MS.exp (ME.appC (ME.fld (ME.v 0)) (ME.pu fun _=>(E.tup (A.cons (E.at (E.v 1) (E.globI tx.c_WORD)) (A.cons (E.fld 0) A.nil))))))
    (@MSs.cons _ _ _ _ _ _ (MS.put (k:=0) (ME.v 0) (ME.pu fun _=>(E.at (E.v 1) (E.globI tx.c_SCENE))) tx.na_Plan_scene)
    (@MSs.one _ _ _ _ (MS.ret (ME.pu fun _=>(E.at (E.v 1) (E.globI tx.c_WORD)))))))))
def gx_X_back  : MXF :=
  (mxIf (tmNot (mTruL (mFld (mV 0) "done"))) (mxP (fun η=>if (fun η=>((eC (.str "there is no step to take back")) η).isSome) η=true then some 3 else none)) mxNo)
theorem okx_X_back {k:Nat} (tx:Tx K mg t)  : FnOk Pr w K mg base (CXX Pr w) (k+1) t.X_back t.d_X_back ["self"] (spMX K (cl t) (ca t) (runMX 1 2 (gx_X_back))) :=
  fnMX tx.F_X_back sc_X_back fun _ _ _ _ _ _ _ hr hx hm =>
    (MSsX.one (MSX.ifS (MT.not (MT.truL (ME.fld (ME.v 0)))) (MSsX.one (MSX.pu fun _=>(SX.raise 3 hm rfl tx.m_NoNumber (tx.refs.xc 3 (by decide)).ex (EA.of E.str)))) MSsX.no))
theorem sc_X_forth:FnScope ["self", "step"] ["self"] (defScope s_X_forth):=⟨rfl,rfl,rfl,by decide +kernel,rfl,by decide +kernel,by decide +kernel⟩
def g_X_forth  : Wd→Option MOut :=
  (mSeq (mIf (tmNot (mTruL (mFld (mV 0) "undone"))) (fun _=>none) mNx)
    (mSeq (mSet 1 (mPopL (mFld (mV 0) "undone")))
    (mSeq (mExp (mAppC (mFld (mV 0) "done") (mP (lA (fun ds=>if ds.length≤sizeLine then some (.tuple ds) else none) (aC (l2 pIx (eV 1) (eC (.int 0))) (aC (eFld 0 "scene") aN))))))
    (mSeq (mPut 0 "scene" (mV 0) (mP (l2 pIx (eV 1) (eC (.int 1)))))
    (mRet (mP (l2 pIx (eV 1) (eC (.int 0)))))))))
theorem ok_X_forth {k:Nat} (tx:Tx K mg t)  : FnOk Pr w K mg base CX0 (k+1) t.X_forth t.d_X_forth ["self"] (spM K (cl t) (runM 1 2 (g_X_forth))) :=
  fnM tx.F_X_forth sc_X_forth fun _ _ _ _ _ _ hr =>
    (@MSs.cons _ _ _ _ _ _ (@MS.ifS _ _ _ _ _ _ _ _ _ (MT.not (MT.truL (ME.fld (ME.v 0)))) (@MSs.one _ _ _ _ MS.never) MSs.nil)
    (@MSs.cons _ _ _ _ _ _ (MS.set 1 sc_X_forth.nd (ME.popL (ME.fld (ME.v 0))))
    (@MSs.cons _ _ _ _ _ _ (MS.exp (ME.appC (ME.fld (ME.v 0)) (ME.pu fun _=>(E.tup (A.cons (E.at (E.v 1) (E.globI tx.c_WORD)) (A.cons (E.fld 0) A.nil))))))
    (@MSs.cons _ _ _ _ _ _ (MS.put (k:=0) (ME.v 0) (ME.pu fun _=>(E.at (E.v 1) (E.globI tx.c_SCENE))) tx.na_Plan_scene)
    (@MSs.one _ _ _ _ (MS.ret (ME.pu fun _=>(E.at (E.v 1) (E.globI tx.c_WORD)))))))))
def gx_X_forth  : MXF :=
  (mxIf (tmNot (mTruL (mFld (mV 0) "undone"))) (mxP (fun η=>if (fun η=>((eC (.str "there is no step to do again")) η).isSome) η=true then some 3 else none)) mxNo)
theorem okx_X_forth {k:Nat} (tx:Tx K mg t)  : FnOk Pr w K mg base (CXX Pr w) (k+1) t.X_forth t.d_X_forth ["self"] (spMX K (cl t) (ca t) (runMX 1 2 (gx_X_forth))) :=
  fnMX tx.F_X_forth sc_X_forth fun _ _ _ _ _ _ _ hr hx hm =>
    (MSsX.one (MSX.ifS (MT.not (MT.truL (ME.fld (ME.v 0)))) (MSsX.one (MSX.pu fun _=>(SX.raise 3 hm rfl tx.m_NoNumber (tx.refs.xc 3 (by decide)).ex (EA.of E.str)))) MSsX.no))
theorem sc_qtold:FnScope ["_law_plan", "_law_way", "_law_some_here", "_law_name", "_law_box_here", "_law_marks", "_law_left", "_law_top", "_law_e"] ["_law_plan", "_law_way", "_law_some_here"] (defScope s_qtold):=⟨rfl,rfl,rfl,by decide +kernel,rfl,by decide +kernel,by decide +kernel⟩
def g_qtold (fn_X_put:DFn) (fn_X_take:DFn) (fn_X_lift:DFn) (fn_X_mark:DFn) (fn_X_lay:DFn) (fn_X_back:DFn) (fn_X_forth:DFn) (fx_X_put:List D→Sto→Option (Nat×Sto)) (fx_X_take:List D→Sto→Option (Nat×Sto)) (fx_X_lift:List D→Sto→Option (Nat×Sto)) (fx_X_mark:List D→Sto→Option (Nat×Sto)) (fx_X_lay:List D→Sto→Option (Nat×Sto)) (fx_X_back:List D→Sto→Option (Nat×Sto)) (fx_X_forth:List D→Sto→Option (Nat×Sto)):Wd→Option MOut :=
  (mSeq (mUnp [3,4,5,6,7] (mP (eV 2)) (tgT (tgCons (tgN 3) (tgCons (tgN 4) (tgCons (tgN 5) (tgCons (tgN 6) (tgCons (tgN 7) tgNil)))))))
    (mTry (mxOr (mxIf (tPv (bT (l2 pEq (eV 1) (eC (.int 0))))) (mxMeth 0 "put" fx_X_put (mV 0) (maC (mP (eV 4)) maN)) mxNo) (mxSeq (mIf (tPv (bT (l2 pEq (eV 1) (eC (.int 0))))) (mRet (mMeth 0 "put" fn_X_put (mV 0) (maC (mP (eV 4)) maN))) mNx)
    (mxOr (mxIf (tPv (bT (l2 pLt (eV 1) (eC (.int 3))))) (mxIf (tPv (bT (l2 pEq (eV 1) (eC (.int 1))))) (mxMeth 0 "take" fx_X_take (mV 0) (maC (mP (eV 3)) maN)) (mxMeth 0 "lift" fx_X_lift (mV 0) (maC (mP (eV 3)) maN))) mxNo) (mxSeq (mIf (tPv (bT (l2 pLt (eV 1) (eC (.int 3))))) (mRet (mIfx (tPv (bT (l2 pEq (eV 1) (eC (.int 1))))) (mMeth 0 "take" fn_X_take (mV 0) (maC (mP (eV 3)) maN)) (mMeth 0 "lift" fn_X_lift (mV 0) (maC (mP (eV 3)) maN)))) mNx)
    (mxOr (mxIf (tPv (bT (l2 pLt (eV 1) (eC (.int 5))))) (mxIf (tPv (bT (l2 pEq (eV 1) (eC (.int 3))))) (mxMeth 0 "mark" fx_X_mark (mV 0) (maC (mP (eV 3)) (maC (mP (eV 5)) maN))) (mxMeth 0 "lay" fx_X_lay (mV 0) (maC (mP (eV 3)) (maC (mP (eV 6)) (maC (mP (eV 7)) maN))))) mxNo) (mxSeq (mIf (tPv (bT (l2 pLt (eV 1) (eC (.int 5))))) (mRet (mIfx (tPv (bT (l2 pEq (eV 1) (eC (.int 3))))) (mMeth 0 "mark" fn_X_mark (mV 0) (maC (mP (eV 3)) (maC (mP (eV 5)) maN))) (mMeth 0 "lay" fn_X_lay (mV 0) (maC (mP (eV 3)) (maC (mP (eV 6)) (maC (mP (eV 7)) maN)))))) mNx)
    (mxIf (tPv (bT (l2 pEq (eV 1) (eC (.int 5))))) (mxMeth 0 "back" fx_X_back (mV 0) maN) (mxMeth 0 "forth" fx_X_forth (mV 0) maN)))))))) (fun c=>if c < 4 then some (refD c) else none)
    (mSeq (mIf (tPv (bT (l2 pEq (eV 1) (eC (.int 0))))) (mRet (mMeth 0 "put" fn_X_put (mV 0) (maC (mP (eV 4)) maN))) mNx)
    (mSeq (mIf (tPv (bT (l2 pLt (eV 1) (eC (.int 3))))) (mRet (mIfx (tPv (bT (l2 pEq (eV 1) (eC (.int 1))))) (mMeth 0 "take" fn_X_take (mV 0) (maC (mP (eV 3)) maN)) (mMeth 0 "lift" fn_X_lift (mV 0) (maC (mP (eV 3)) maN)))) mNx)
    (mSeq (mIf (tPv (bT (l2 pLt (eV 1) (eC (.int 5))))) (mRet (mIfx (tPv (bT (l2 pEq (eV 1) (eC (.int 3))))) (mMeth 0 "mark" fn_X_mark (mV 0) (maC (mP (eV 3)) (maC (mP (eV 5)) maN))) (mMeth 0 "lay" fn_X_lay (mV 0) (maC (mP (eV 3)) (maC (mP (eV 6)) (maC (mP (eV 7)) maN)))))) mNx)
    (mRet (mIfx (tPv (bT (l2 pEq (eV 1) (eC (.int 5))))) (mMeth 0 "back" fn_X_back (mV 0) maN) (mMeth 0 "forth" fn_X_forth (mV 0) maN))))))))
theorem ok_qtold {k:Nat} (tx:Tx K mg t) (hk_ref:1≤k) {k_X_put:Nat} {fn_X_put:DFn} (G_X_put:FnOk Pr w K mg base CX0 k_X_put t.X_put t.d_X_put ["self", "box"] (spM K (cl t) fn_X_put)) (hk_X_put:k_X_put≤k) {k_X_take:Nat} {fn_X_take:DFn} (G_X_take:FnOk Pr w K mg base CX0 k_X_take t.X_take t.d_X_take ["self", "name"] (spM K (cl t) fn_X_take)) (hk_X_take:k_X_take≤k) {k_X_lift:Nat} {fn_X_lift:DFn} (G_X_lift:FnOk Pr w K mg base CX0 k_X_lift t.X_lift t.d_X_lift ["self", "name"] (spM K (cl t) fn_X_lift)) (hk_X_lift:k_X_lift≤k) {k_X_mark:Nat} {fn_X_mark:DFn} (G_X_mark:FnOk Pr w K mg base CX0 k_X_mark t.X_mark t.d_X_mark ["self", "name", "marks"] (spM K (cl t) fn_X_mark)) (hk_X_mark:k_X_mark≤k) {k_X_lay:Nat} {fn_X_lay:DFn} (G_X_lay:FnOk Pr w K mg base CX0 k_X_lay t.X_lay t.d_X_lay ["self", "name", "left", "top"] (spM K (cl t) fn_X_lay)) (hk_X_lay:k_X_lay≤k) {k_X_back:Nat} {fn_X_back:DFn} (G_X_back:FnOk Pr w K mg base CX0 k_X_back t.X_back t.d_X_back ["self"] (spM K (cl t) fn_X_back)) (hk_X_back:k_X_back≤k) {k_X_forth:Nat} {fn_X_forth:DFn} (G_X_forth:FnOk Pr w K mg base CX0 k_X_forth t.X_forth t.d_X_forth ["self"] (spM K (cl t) fn_X_forth)) (hk_X_forth:k_X_forth≤k) {kx_X_put:Nat} {fx_X_put:List D→Sto→Option (Nat×Sto)} (GX_X_put:FnOk Pr w K mg base (CXX Pr w) kx_X_put t.X_put t.d_X_put ["self", "box"] (spMX K (cl t) (ca t) fx_X_put)) (hkx_X_put:kx_X_put≤k) {kx_X_take:Nat} {fx_X_take:List D→Sto→Option (Nat×Sto)} (GX_X_take:FnOk Pr w K mg base (CXX Pr w) kx_X_take t.X_take t.d_X_take ["self", "name"] (spMX K (cl t) (ca t) fx_X_take)) (hkx_X_take:kx_X_take≤k) {kx_X_lift:Nat} {fx_X_lift:List D→Sto→Option (Nat×Sto)} (GX_X_lift:FnOk Pr w K mg base (CXX Pr w) kx_X_lift t.X_lift t.d_X_lift ["self", "name"] (spMX K (cl t) (ca t) fx_X_lift)) (hkx_X_lift:kx_X_lift≤k) {kx_X_mark:Nat} {fx_X_mark:List D→Sto→Option (Nat×Sto)} (GX_X_mark:FnOk Pr w K mg base (CXX Pr w) kx_X_mark t.X_mark t.d_X_mark ["self", "name", "marks"] (spMX K (cl t) (ca t) fx_X_mark)) (hkx_X_mark:kx_X_mark≤k) {kx_X_lay:Nat} {fx_X_lay:List D→Sto→Option (Nat×Sto)} (GX_X_lay:FnOk Pr w K mg base (CXX Pr w) kx_X_lay t.X_lay t.d_X_lay ["self", "name", "left", "top"] (spMX K (cl t) (ca t) fx_X_lay)) (hkx_X_lay:kx_X_lay≤k) {kx_X_back:Nat} {fx_X_back:List D→Sto→Option (Nat×Sto)} (GX_X_back:FnOk Pr w K mg base (CXX Pr w) kx_X_back t.X_back t.d_X_back ["self"] (spMX K (cl t) (ca t) fx_X_back)) (hkx_X_back:kx_X_back≤k) {kx_X_forth:Nat} {fx_X_forth:List D→Sto→Option (Nat×Sto)} (GX_X_forth:FnOk Pr w K mg base (CXX Pr w) kx_X_forth t.X_forth t.d_X_forth ["self"] (spMX K (cl t) (ca t) fx_X_forth)) (hkx_X_forth:kx_X_forth≤k):FnOk Pr w K mg base CX0 (k+1) t._law_told t.d_qtold ["_law_plan", "_law_way", "_law_some_here"] (spM K (cl t) (runM 3 9 (g_qtold fn_X_put fn_X_take fn_X_lift fn_X_mark fn_X_lay fn_X_back fn_X_forth fx_X_put fx_X_take fx_X_lift fx_X_mark fx_X_lay fx_X_back fx_X_forth))) :=
  fnM tx.F_qtold sc_qtold fun _ _ _ _ _ _ hr =>
    (@MSs.cons _ _ _ _ _ _ (MS.unp (ME.pu fun _=>(E.v 2)) (pg_tup (n:=5) rfl (pgs_cons (pg_name (i:=3) sc_qtold.nd rfl (by first | exact Or.inl rfl | exact Or.inr rfl) ) (pgs_cons (pg_name (i:=4) sc_qtold.nd rfl (by first | exact Or.inl rfl | exact Or.inr rfl) ) (pgs_cons (pg_name (i:=5) sc_qtold.nd rfl (by first | exact Or.inl rfl | exact Or.inr rfl) ) (pgs_cons (pg_name (i:=6) sc_qtold.nd rfl (by first | exact Or.inl rfl | exact Or.inr rfl) ) (pgs_cons (pg_name (i:=7) sc_qtold.nd rfl (by first | exact Or.inl rfl | exact Or.inr rfl) ) pgs_nil)))))) (TgP.tup (n:=5) (TgsP.cons (TgP.name (i:=3)) (TgsP.cons (TgP.name (i:=4)) (TgsP.cons (TgP.name (i:=5)) (TgsP.cons (TgP.name (i:=6)) (TgsP.cons (TgP.name (i:=7)) TgsP.nil))))) (tg_len5)))
    (@MSs.one _ _ _ _ (MS.tryX (fun _ _=>(@MSs.cons _ _ _ _ _ _ (@MS.ifS _ _ _ _ _ _ _ _ _ (MT.pu fun _=>(T.eq hr (E.v 1) E.int)) (@MSs.one _ _ _ _ (MS.ret (ME.meth (kc:=0) (ME.v 0) tx.cl_Plan tx.me_X_put G_X_put hr (by omega) tx.b_X_put (MA.cons (ME.pu fun _=>(E.v 4)) MA.nil)))) MSs.nil)
    (@MSs.cons _ _ _ _ _ _ (@MS.ifS _ _ _ _ _ _ _ _ _ (MT.pu fun _=>(T.lt (E.v 1) E.int)) (@MSs.one _ _ _ _ (MS.ret (ME.ifx (MT.pu fun _=>(T.eq hr (E.v 1) E.int)) (ME.meth (kc:=0) (ME.v 0) tx.cl_Plan tx.me_X_take G_X_take hr (by omega) tx.b_X_take (MA.cons (ME.pu fun _=>(E.v 3)) MA.nil)) (ME.meth (kc:=0) (ME.v 0) tx.cl_Plan tx.me_X_lift G_X_lift hr (by omega) tx.b_X_lift (MA.cons (ME.pu fun _=>(E.v 3)) MA.nil))))) MSs.nil)
    (@MSs.cons _ _ _ _ _ _ (@MS.ifS _ _ _ _ _ _ _ _ _ (MT.pu fun _=>(T.lt (E.v 1) E.int)) (@MSs.one _ _ _ _ (MS.ret (ME.ifx (MT.pu fun _=>(T.eq hr (E.v 1) E.int)) (ME.meth (kc:=0) (ME.v 0) tx.cl_Plan tx.me_X_mark G_X_mark hr (by omega) tx.b_X_mark (MA.cons (ME.pu fun _=>(E.v 3)) (MA.cons (ME.pu fun _=>(E.v 5)) MA.nil))) (ME.meth (kc:=0) (ME.v 0) tx.cl_Plan tx.me_X_lay G_X_lay hr (by omega) tx.b_X_lay (MA.cons (ME.pu fun _=>(E.v 3)) (MA.cons (ME.pu fun _=>(E.v 6)) (MA.cons (ME.pu fun _=>(E.v 7)) MA.nil))))))) MSs.nil)
    (@MSs.one _ _ _ _ (MS.ret (ME.ifx (MT.pu fun _=>(T.eq hr (E.v 1) E.int)) (ME.meth0 (kc:=0) (ME.v 0) tx.cl_Plan tx.me_X_back G_X_back hr (by omega) tx.b_X_back) (ME.meth0 (kc:=0) (ME.v 0) tx.cl_Plan tx.me_X_forth G_X_forth hr (by omega) tx.b_X_forth))))))))
    (fun _ _ _ hx=>(MSsX.or (MSsX.one (MSX.ifS (MT.pu fun _=>(T.eq hr (E.v 1) E.int)) (MSsX.one (MSX.ret (MEX.meth (kc:=0) (ME.v 0) tx.cl_Plan tx.me_X_put GX_X_put hx hr (by omega) tx.b_X_put (MA.cons (ME.pu fun _=>(E.v 4)) MA.nil)))) MSsX.no)) (MSsX.cons (MS.nx (@MS.ifS _ _ _ _ _ _ _ _ _ (MT.pu fun _=>(T.eq hr (E.v 1) E.int)) (@MSs.one _ _ _ _ (MS.ret (ME.meth (kc:=0) (ME.v 0) tx.cl_Plan tx.me_X_put G_X_put hr (by omega) tx.b_X_put (MA.cons (ME.pu fun _=>(E.v 4)) MA.nil)))) MSs.nil))
    (MSsX.or (MSsX.one (MSX.ifS (MT.pu fun _=>(T.lt (E.v 1) E.int)) (MSsX.one (MSX.ret (MEX.ifE (MT.pu fun _=>(T.eq hr (E.v 1) E.int)) (MEX.meth (kc:=0) (ME.v 0) tx.cl_Plan tx.me_X_take GX_X_take hx hr (by omega) tx.b_X_take (MA.cons (ME.pu fun _=>(E.v 3)) MA.nil)) (MEX.meth (kc:=0) (ME.v 0) tx.cl_Plan tx.me_X_lift GX_X_lift hx hr (by omega) tx.b_X_lift (MA.cons (ME.pu fun _=>(E.v 3)) MA.nil))))) MSsX.no)) (MSsX.cons (MS.nx (@MS.ifS _ _ _ _ _ _ _ _ _ (MT.pu fun _=>(T.lt (E.v 1) E.int)) (@MSs.one _ _ _ _ (MS.ret (ME.ifx (MT.pu fun _=>(T.eq hr (E.v 1) E.int)) (ME.meth (kc:=0) (ME.v 0) tx.cl_Plan tx.me_X_take G_X_take hr (by omega) tx.b_X_take (MA.cons (ME.pu fun _=>(E.v 3)) MA.nil)) (ME.meth (kc:=0) (ME.v 0) tx.cl_Plan tx.me_X_lift G_X_lift hr (by omega) tx.b_X_lift (MA.cons (ME.pu fun _=>(E.v 3)) MA.nil))))) MSs.nil))
    (MSsX.or (MSsX.one (MSX.ifS (MT.pu fun _=>(T.lt (E.v 1) E.int)) (MSsX.one (MSX.ret (MEX.ifE (MT.pu fun _=>(T.eq hr (E.v 1) E.int)) (MEX.meth (kc:=0) (ME.v 0) tx.cl_Plan tx.me_X_mark GX_X_mark hx hr (by omega) tx.b_X_mark (MA.cons (ME.pu fun _=>(E.v 3)) (MA.cons (ME.pu fun _=>(E.v 5)) MA.nil))) (MEX.meth (kc:=0) (ME.v 0) tx.cl_Plan tx.me_X_lay GX_X_lay hx hr (by omega) tx.b_X_lay (MA.cons (ME.pu fun _=>(E.v 3)) (MA.cons (ME.pu fun _=>(E.v 6)) (MA.cons (ME.pu fun _=>(E.v 7)) MA.nil))))))) MSsX.no)) (MSsX.cons (MS.nx (@MS.ifS _ _ _ _ _ _ _ _ _ (MT.pu fun _=>(T.lt (E.v 1) E.int)) (@MSs.one _ _ _ _ (MS.ret (ME.ifx (MT.pu fun _=>(T.eq hr (E.v 1) E.int)) (ME.meth (kc:=0) (ME.v 0) tx.cl_Plan tx.me_X_mark G_X_mark hr (by omega) tx.b_X_mark (MA.cons (ME.pu fun _=>(E.v 3)) (MA.cons (ME.pu fun _=>(E.v 5)) MA.nil))) (ME.meth (kc:=0) (ME.v 0) tx.cl_Plan tx.me_X_lay G_X_lay hr (by omega) tx.b_X_lay (MA.cons (ME.pu fun _=>(E.v 3)) (MA.cons (ME.pu fun _=>(E.v 6)) (MA.cons (ME.pu fun _=>(E.v 7)) MA.nil))))))) MSs.nil))
    (MSsX.one (MSX.ret (MEX.ifE (MT.pu fun _=>(T.eq hr (E.v 1) E.int)) (MEX.meth0 (kc:=0) (ME.v 0) tx.cl_Plan tx.me_X_back GX_X_back hx hr (by omega) tx.b_X_back) (MEX.meth0 (kc:=0) (ME.v 0) tx.cl_Plan tx.me_X_forth GX_X_forth hx hr (by omega) tx.b_X_forth)))))))))))
    (fun _=>(Hdl.as (i:=8) tx.m_TouchError tx.refs tx.ex_TouchError tx.mro (G_qrefused tx) ((RoomC.of hr).mono hk_ref) tx.m_qrefused tx.F_qrefused.kp tx.b_qrefused sc_qtold.nd)))))
theorem sc_X_sizes:FnScope ["self"] ["self"] (defScope s_X_sizes):=⟨rfl,rfl,rfl,by decide +kernel,rfl,by decide +kernel,by decide +kernel⟩
def g_X_sizes  : Wd→Option MOut :=
  (mRet (mTupD (maC (mLenL (mFld (mV 0) "done")) (maC (mLenL (mFld (mV 0) "undone")) maN))))
theorem ok_X_sizes {k:Nat} (tx:Tx K mg t)  : FnOk Pr w K mg base CX0 (k+1) t.X_sizes t.d_X_sizes ["self"] (spM K (cl t) (runM 1 1 (g_X_sizes))) :=
  fnM tx.F_X_sizes sc_X_sizes fun _ _ _ _ _ _ hr =>
    (@MSs.one _ _ _ _ (MS.ret (ME.tupM (MA.cons (ME.lenL tx.z_len (ME.fld (ME.v 0))) (MA.cons (ME.lenL tx.z_len (ME.fld (ME.v 0))) MA.nil)))))
abbrev N_law:List Str:=["_law_script", "_law_scene_here", "_law_plan", "_law_states", "_law_at", "_law_k", "_law_here", "_law_way", "_law_some_here", "_law_there", "_law_due", "_law_new"]
theorem sc_law:FnScope ["_law_script", "_law_scene_here", "_law_plan", "_law_states", "_law_at", "_law_k", "_law_here", "_law_way", "_law_some_here", "_law_there", "_law_due", "_law_new"] ["_law_script"] (defScope s_law):=⟨rfl,rfl,rfl,by decide +kernel,rfl,by decide +kernel,by decide +kernel⟩
def g_law (fn_qscene:PFn) (fn_qdrawn:PFn) (fn_X___init__:DFn) (fn_qsome:PFn) (fn_qnext:PFn) (fn_X_now:DFn) (fn_qtold:DFn) (fn_X_sizes:DFn):Wd→Option MOut :=
  (mSeq (mSet 1 (mP (lA fn_qscene (aC (eV 0) (aC (eC (.int 0)) aN)))))
    (mSeq (mIf (tPv (bT (l2 pEq (lA fn_qdrawn (aC (eV 0) (aC (eC (.int 100)) (aC (eC (.int 4)) aN)))) (eC (.int 0))))) (mSet 1 (mP (l2 pAdd (eV 1) (lA pTup (aC (oE (sComp [none] (fun η=>((aC (l2 pSub (eC (.int 12)) (lA pLen (aC (eV 1) aN))) aN) η).bind rng1) (tgN 0) tTrue (lA (fun ds=>if ds.length≤sizeLine then some (.tuple ds) else none) (aC (l2 pAdd (eC (.str "k")) (l2 pIx (eC (.str "abcdefghijkl")) (eV 0))) (aC (eC (.str "")) (aC (eV 0) (aC (eC (.int 0)) (aC (eC (.int 1)) (aC (eV 0) (aC (eC (.str "")) aN)))))))))) aN))))) mNx)
    (mSeq (mSet 2 (mMake 0 fn_X___init__ (maC (mP (eV 1)) maN)))
    (mSeq (mSet 3 (mP (oE (fun η=>((aC (lA (fun ds=>if ds.length≤sizeLine then some (.tuple ds) else none) (aC (eC (.str "")) (aC (eV 1) aN))) aN) η).bind gL))))
    (mSeq (mSet 4 (mP (eC (.int 0))))
    (mSeq (mFor [5] (iPu (fun η=>((aC (lA pMax (aC (eC (.int 1)) (aC (lA pMin (aC (eC (.int 10)) (aC (lA pLen (aC (eV 0) aN)) aN))) aN))) aN) η).bind rng1)) (tgN 5)
    (mSeq (mSet 6 (mP (l2 pAdd (eC (.int 110)) (l2 pMul (eC (.int 8)) (eV 5)))))
    (mSeq (mSet 7 (mP (l2 pIx (eC (.list [(.int 0),(.int 0),(.int 0),(.int 1),(.int 2),(.int 3),(.int 4),(.int 5),(.int 6)])) (lA fn_qdrawn (aC (eV 0) (aC (eV 6) (aC (eC (.int 9)) aN)))))))
    (mSeq (mSet 8 (mP (lA fn_qsome (aC (eV 0) (aC (eV 6) aN)))))
    (mSeq (mIf (tPv (bT (l2 pGt (eV 7) (eC (.int 4))))) (mSeq (mSet 9 (mP (vIf (bT (l2 pEq (eV 7) (eC (.int 5)))) (l2 pSub (eV 4) (eC (.int 1))) (l2 pAdd (eV 4) (eC (.int 1))))))
    (mSeq (mSet 10 (mP (vIf (bT (lch pLe pLt (eC (.int 0)) (eV 9) (lA pLen (aC (eV 3) aN)))) (l2 pIx (l2 pIx (eV 3) (lA pMax (aC (eV 4) (aC (eV 9) aN)))) (eC (.int 0))) (lA (fun ds=>if ds.length≤sizeLine then some (.tuple ds) else none) (aC (eC (.str "refused")) (aC (eC (.int 3)) aN))))))
    (mSet 4 (mP (vIf (bT (lch pLe pLt (eC (.int 0)) (eV 9) (lA pLen (aC (eV 3) aN)))) (eV 9) (eV 4)))))) (mSeq (mUnp [10,11] (mP (lA fn_qnext (aC (l2 pIx (l2 pIx (eV 3) (eV 4)) (eC (.int 1))) (aC (eV 7) (aC (eV 8) aN))))) (tgT (tgCons (tgN 10) (tgCons (tgN 11) tgNil))))
    (mIf (tPv (bT (l2 (pIsN true) (eV 11) (eC .none)))) (mSeq (mSet 3 (mP (l2 pAdd (eSl (eV 3) pN (pS (l2 pAdd (eV 4) (eC (.int 1))))) (oE (fun η=>((aC (lA (fun ds=>if ds.length≤sizeLine then some (.tuple ds) else none) (aC (l2 pIx (oE (fun η=>((aC (eC (.str "put")) (aC (eC (.str "take")) (aC (eC (.str "lift")) (aC (eC (.str "mark")) (aC (eC (.str "lay")) aN))))) η).bind gL)) (eV 7)) (aC (eV 11) aN))) aN) η).bind gL)))))
    (mSet 4 (mP (l2 pAdd (eV 4) (eC (.int 1)))))) mNx)))
    (mSeq (mIf (tmOr (mB (mOpL pNe (mCall fn_qtold (maC (mV 2) (maC (mP (eV 7)) (maC (mP (eV 8)) maN)))) (mP (eV 10)))) (mB (mOpL pNe (mMeth 0 "now" fn_X_now (mV 2) maN) (mP (l2 pIx (l2 pIx (eV 3) (eV 4)) (eC (.int 1))))))) (mRet (mP (eC (.bool false)))) mNx)
    (mIf (mB (mOpL pNe (mMeth 0 "sizes" fn_X_sizes (mV 2) maN) (mP (lA (fun ds=>if ds.length≤sizeLine then some (.tuple ds) else none) (aC (eV 4) (aC (l2 pSub (l2 pSub (lA pLen (aC (eV 3) aN)) (eC (.int 1))) (eV 4)) aN)))))) (mRet (mP (eC (.bool false)))) mNx)))))))
    (mRet (mP (eC (.bool true))))))))))
theorem ok_law {k:Nat} (tx:Tx K mg t) {k_qscene:Nat} {fn_qscene:PFn} (G_qscene:FnOk Pr w K mg base CX0 k_qscene t._law_scene t.d_qscene ["_law_script", "_law_at"] (spP K fn_qscene)) (hk_qscene:k_qscene≤k) {k_qdrawn:Nat} {fn_qdrawn:PFn} (G_qdrawn:FnOk Pr w K mg base CX0 k_qdrawn t._law_drawn t.d_qdrawn ["_law_script", "_law_k", "_law_many"] (spP K fn_qdrawn)) (hk_qdrawn:k_qdrawn≤k) {k_X___init__:Nat} {fn_X___init__:DFn} (G_X___init__:FnOk Pr w K mg base CX0 k_X___init__ t.X___init__ t.d_X___init__ ["self", "scene"] (spM K (cl t) fn_X___init__)) (hk_X___init__:k_X___init__+1≤k) {k_qsome:Nat} {fn_qsome:PFn} (G_qsome:FnOk Pr w K mg base CX0 k_qsome t._law_some t.d_qsome ["_law_script", "_law_here"] (spP K fn_qsome)) (hk_qsome:k_qsome≤k) {k_qnext:Nat} {fn_qnext:PFn} (G_qnext:FnOk Pr w K mg base CX0 k_qnext t._law_next t.d_qnext ["_law_scene_here", "_law_way", "_law_some_here"] (spP K fn_qnext)) (hk_qnext:k_qnext≤k) {k_X_now:Nat} {fn_X_now:DFn} (G_X_now:FnOk Pr w K mg base CX0 k_X_now t.X_now t.d_X_now ["self"] (spM K (cl t) fn_X_now)) (hk_X_now:k_X_now≤k) {k_qtold:Nat} {fn_qtold:DFn} (G_qtold:FnOk Pr w K mg base CX0 k_qtold t._law_told t.d_qtold ["_law_plan", "_law_way", "_law_some_here"] (spM K (cl t) fn_qtold)) (hk_qtold:k_qtold≤k) {k_X_sizes:Nat} {fn_X_sizes:DFn} (G_X_sizes:FnOk Pr w K mg base CX0 k_X_sizes t.X_sizes t.d_X_sizes ["self"] (spM K (cl t) fn_X_sizes)) (hk_X_sizes:k_X_sizes≤k):FnOk Pr w K mg base CX0 (k+1) t.law t.d_law ["_law_script"] (spM K (cl t) (runM 1 12 (g_law fn_qscene fn_qdrawn fn_X___init__ fn_qsome fn_qnext fn_X_now fn_qtold fn_X_sizes))) :=
  fnM tx.F_law sc_law fun _ _ _ _ _ _ hr =>
    (@MSs.cons _ _ _ _ _ _ (MS.set 1 sc_law.nd (ME.pu fun _=>(E.call G_qscene hr (by omega) tx.m_qscene tx.F_qscene.kp tx.b_qscene (A.cons (E.v 0) (A.cons E.int A.nil)))))
    (@MSs.cons _ _ _ _ _ _ (@MS.ifS _ _ _ _ _ _ _ _ _ (MT.pu fun _=>(T.eq hr (E.call G_qdrawn hr (by omega) tx.m_qdrawn tx.F_qdrawn.kp tx.b_qdrawn (A.cons (E.v 0) (A.cons E.int (A.cons E.int A.nil)))) E.int)) (@MSs.one _ _ _ _ (MS.set 1 sc_law.nd (ME.pu fun _=>(E.add (E.v 1) (E.tuple tx.z_tuple (A.cons (EO.toE (EO.comp (N':=["_law_k"]) (mp:=[none]) rfl (CompSc.of' N_law (defScope s_law) rfl rfl (by decide +kernel)) (TgP.name (i:=0)) (by decide) (I.rng1 tx.z_range (A.cons (E.sub E.int (E.len tx.z_len (A.cons (E.v 1) A.nil))) A.nil)) (fun _ _ _=>⟨(pg_name (i:=0) (show (["_law_k"]:List Str).Nodup by decide +kernel) rfl (Or.inl rfl) (.inr rfl)),Ts.nil,(E.tup (A.cons (E.add E.str (E.at E.str (E.v 0))) (A.cons E.str (A.cons (E.v 0) (A.cons E.int (A.cons E.int (A.cons (E.v 0) (A.cons E.str A.nil))))))))⟩))) A.nil)))))) MSs.nil)
    (@MSs.cons _ _ _ _ _ _ (MS.set 2 sc_law.nd (ME.make (kc:=0) tx.cl_Plan tx.mk_Plan G_X___init__ hr (by omega) tx.mg_Plan tx.b_X___init__ (MA.cons (ME.pu fun _=>(E.v 1)) MA.nil)))
    (@MSs.cons _ _ _ _ _ _ (MS.set 3 sc_law.nd (ME.pu fun _=>(EO.toE (EO.lst (A.cons (E.tup (A.cons E.str (A.cons (E.v 1) A.nil))) A.nil)))))
    (@MSs.cons _ _ _ _ _ _ (MS.set 4 sc_law.nd (ME.pu fun _=>E.int))
    (@MSs.cons _ _ _ _ _ _ (@MS.for _ _ _ _ _ _ _ _ _ _ _ PassesOwn.never rfl (MI.pu fun _=>(I.rng1 tx.z_range (A.cons (E.max rfl tx.z_max (A.cons E.int (A.cons (E.min rfl tx.z_min (A.cons E.int (A.cons (E.len tx.z_len (A.cons (E.v 0) A.nil)) A.nil))) A.nil))) A.nil))) (pg_name (i:=5) sc_law.nd rfl (by first | exact Or.inl rfl | exact Or.inr rfl) ) (TgP.name (i:=5))
    (@MSs.cons _ _ _ _ _ _ (MS.set 6 sc_law.nd (ME.pu fun _=>(E.add E.int (E.mul E.int (E.v 5)))))
    (@MSs.cons _ _ _ _ _ _ (MS.set 7 sc_law.nd (ME.pu fun _=>(E.at (@E.cst _ _ _ _ rfl) (E.call G_qdrawn hr (by omega) tx.m_qdrawn tx.F_qdrawn.kp tx.b_qdrawn (A.cons (E.v 0) (A.cons (E.v 6) (A.cons E.int A.nil)))))))
    (@MSs.cons _ _ _ _ _ _ (MS.set 8 sc_law.nd (ME.pu fun _=>(E.call G_qsome hr (by omega) tx.m_qsome tx.F_qsome.kp tx.b_qsome (A.cons (E.v 0) (A.cons (E.v 6) A.nil)))))
    (@MSs.cons _ _ _ _ _ _ (@MS.ifS _ _ _ _ _ _ _ _ _ (MT.pu fun _=>(T.gt (E.v 7) E.int)) (@MSs.cons _ _ _ _ _ _ (MS.set 9 sc_law.nd (ME.pu fun _=>(E.ifE (T.eq hr (E.v 7) E.int) (E.sub (E.v 4) E.int) (E.add (E.v 4) E.int))))
    (@MSs.cons _ _ _ _ _ _ (MS.set 10 sc_law.nd (ME.pu fun _=>(E.ifE (T.chain op_le (ad_I0 fun _ _ _=>rel_bl) op_lt (ad_I0 fun _ _ _=>rel_bl) E.int (E.v 9) (E.len tx.z_len (A.cons (E.v 3) A.nil))) (E.at (E.at (E.v 3) (E.max rfl tx.z_max (A.cons (E.v 4) (A.cons (E.v 9) A.nil)))) E.int) (E.tup (A.cons E.str (A.cons E.int A.nil))))))
    (@MSs.one _ _ _ _ (MS.set 4 sc_law.nd (ME.pu fun _=>(E.ifE (T.chain op_le (ad_I0 fun _ _ _=>rel_bl) op_lt (ad_I0 fun _ _ _=>rel_bl) E.int (E.v 9) (E.len tx.z_len (A.cons (E.v 3) A.nil))) (E.v 9) (E.v 4))))))) (@MSs.cons _ _ _ _ _ _ (MS.unp (ME.pu fun _=>(E.call G_qnext hr (by omega) tx.m_qnext tx.F_qnext.kp tx.b_qnext (A.cons (E.at (E.at (E.v 3) (E.v 4)) E.int) (A.cons (E.v 7) (A.cons (E.v 8) A.nil))))) (pg_tup (n:=2) rfl (pgs_cons (pg_name (i:=10) sc_law.nd rfl (by first | exact Or.inl rfl | exact Or.inr rfl) ) (pgs_cons (pg_name (i:=11) sc_law.nd rfl (by first | exact Or.inl rfl | exact Or.inr rfl) ) pgs_nil))) (TgP.tup (n:=2) (TgsP.cons (TgP.name (i:=10)) (TgsP.cons (TgP.name (i:=11)) TgsP.nil)) (tg_len2)))
    (@MSs.one _ _ _ _ (@MS.ifS _ _ _ _ _ _ _ _ _ (MT.pu fun _=>(T.notN (E.v 11) E.non)) (@MSs.cons _ _ _ _ _ _ (MS.set 3 sc_law.nd (ME.pu fun _=>(E.add (E.sl (E.v 3) P.none (P.some (E.add (E.v 4) E.int))) (EO.toE (EO.lst (A.cons (E.tup (A.cons (E.at (EO.toE (EO.lst (A.cons E.str (A.cons E.str (A.cons E.str (A.cons E.str (A.cons E.str A.nil))))))) (E.v 7)) (A.cons (E.v 11) A.nil))) A.nil))))))
    (@MSs.one _ _ _ _ (MS.set 4 sc_law.nd (ME.pu fun _=>(E.add (E.v 4) E.int))))) MSs.nil))))
    (@MSs.cons _ _ _ _ _ _ (@MS.ifS _ _ _ _ _ _ _ _ _ (MTW.t (MTW.or (MT.ne hr (ME.call G_qtold hr (by omega) tx.m_qtold tx.F_qtold.kp tx.b_qtold (MA.cons (ME.v 2) (MA.cons (ME.pu fun _=>(E.v 7)) (MA.cons (ME.pu fun _=>(E.v 8)) MA.nil)))) (ME.pu fun _=>(E.v 10))) (MTW.or1 (MT.ne hr (ME.meth0 (kc:=0) (ME.v 2) tx.cl_Plan tx.me_X_now G_X_now hr (by omega) tx.b_X_now) (ME.pu fun _=>(E.at (E.at (E.v 3) (E.v 4)) E.int)))))) (@MSs.one _ _ _ _ (MS.ret (ME.pu fun _=>E.bl))) MSs.nil)
    (@MSs.one _ _ _ _ (@MS.ifS _ _ _ _ _ _ _ _ _ (MT.ne hr (ME.meth0 (kc:=0) (ME.v 2) tx.cl_Plan tx.me_X_sizes G_X_sizes hr (by omega) tx.b_X_sizes) (ME.pu fun _=>(E.tup (A.cons (E.v 4) (A.cons (E.sub (E.sub (E.len tx.z_len (A.cons (E.v 3) A.nil)) E.int) (E.v 4)) A.nil))))) (@MSs.one _ _ _ _ (MS.ret (ME.pu fun _=>E.bl))) MSs.nil))))))) (fun _=>rfl))
    (@MSs.one _ _ _ _ (MS.ret (ME.pu fun _=>E.bl)))))))))
def F_qcell:PFn:=runF 2 2 (g_qcell )
theorem G_qcell (tx:Tx K mg t):FnOk Pr w K mg base CX0 1 t._law_cell t.d_qcell ["_law_script", "_law_k"] (spP K F_qcell):=ok_qcell (k:=0) tx 
def F_qdrawn:PFn:=runF 3 4 (g_qdrawn F_qcell)
theorem G_qdrawn (tx:Tx K mg t):FnOk Pr w K mg base CX0 2 t._law_drawn t.d_qdrawn ["_law_script", "_law_k", "_law_many"] (spP K F_qdrawn):=ok_qdrawn (k:=1) tx (G_qcell tx) (by omega)
def F_qscene:PFn:=runF 2 13 (g_qscene F_qdrawn)
theorem G_qscene (tx:Tx K mg t):FnOk Pr w K mg base CX0 3 t._law_scene t.d_qscene ["_law_script", "_law_at"] (spP K F_qscene):=ok_qscene (k:=2) tx (G_qdrawn tx) (by omega)
def F_X___init__:DFn:=runM 2 2 (g_X___init__ )
theorem G_X___init__ (tx:Tx K mg t):FnOk Pr w K mg base CX0 1 t.X___init__ t.d_X___init__ ["self", "scene"] (spM K (cl t) F_X___init__):=ok_X___init__ (k:=0) tx 
def F_qsome:PFn:=runF 2 7 (g_qsome F_qdrawn)
theorem G_qsome (tx:Tx K mg t):FnOk Pr w K mg base CX0 3 t._law_some t.d_qsome ["_law_script", "_law_here"] (spP K F_qsome):=ok_qsome (k:=2) tx (G_qdrawn tx) (by omega)
def F_qput:PFn:=runF 3 3 (g_qput )
theorem G_qput (tx:Tx K mg t):FnOk Pr w K mg base CX0 1 t._law_put t.d_qput ["_law_scene_here", "_law_names", "_law_box_here"] (spP K F_qput):=ok_qput (k:=0) tx 
def F_qbox:PFn:=runF 2 2 (g_qbox )
theorem G_qbox (tx:Tx K mg t):FnOk Pr w K mg base CX0 1 t._law_box t.d_qbox ["_law_scene_here", "_law_name"] (spP K F_qbox):=ok_qbox (k:=0) tx 
def F_qpainted:Nat→PFn
  | 0=>fun _=>none
  | n+1=>runF 2 4 (g_qpainted (F_qpainted n))
theorem G_qpainted (tx:Tx K mg t):∀ n:Nat,FnOk Pr w K mg base CX0 (n+0) t._law_painted t.d_qpainted ["_law_scene_here", "_law_around"] (spP K (F_qpainted n))
  | 0=>fn0
  | n+1=>(ok_qpainted (k:=n+0) tx (G_qpainted tx n) (by omega)).mono (by omega)
def F_qpath:PFn:=runF 2 3 (g_qpath F_qbox)
theorem G_qpath (tx:Tx K mg t):FnOk Pr w K mg base CX0 2 t._law_path t.d_qpath ["_law_scene_here", "_law_name"] (spP K F_qpath):=ok_qpath (k:=1) tx (G_qbox tx) (by omega)
def F_qnext:PFn:=runF 3 14 (g_qnext F_qput F_qbox (F_qpainted 13) F_qpath)
theorem G_qnext (tx:Tx K mg t):FnOk Pr w K mg base CX0 14 t._law_next t.d_qnext ["_law_scene_here", "_law_way", "_law_some_here"] (spP K F_qnext):=ok_qnext (k:=13) tx (G_qput tx) (by omega) (G_qbox tx) (by omega) (G_qpainted tx 13) (by omega) (G_qpath tx) (by omega)
def F_X_now:DFn:=runM 1 1 (g_X_now )
theorem G_X_now (tx:Tx K mg t):FnOk Pr w K mg base CX0 1 t.X_now t.d_X_now ["self"] (spM K (cl t) F_X_now):=ok_X_now (k:=0) tx 
def F_X_step_to:DFn:=runM 3 3 (g_X_step_to )
theorem G_X_step_to (tx:Tx K mg t):FnOk Pr w K mg base CX0 1 t.X_step_to t.d_X_step_to ["self", "word", "scene"] (spM K (cl t) F_X_step_to):=ok_X_step_to (k:=0) tx 
def F_has_box:PFn:=runF 2 2 (g_has_box )
theorem G_has_box (tx:Tx K mg t):FnOk Pr w K mg base CX0 1 t.has_box t.d_has_box ["scene", "name"] (spP K F_has_box):=ok_has_box (k:=0) tx 
def F_with_box:PFn:=runF 2 4 (g_with_box F_has_box)
theorem G_with_box (tx:Tx K mg t):FnOk Pr w K mg base CX0 2 t.with_box t.d_with_box ["scene", "box"] (spP K F_with_box):=ok_with_box (k:=1) tx (G_has_box tx) (by omega)
def FX_with_box:List PyData→Option Nat:=runX 2 4 (gx_with_box F_has_box)
theorem GX_with_box (tx:Tx K mg t):FnOk Pr w K mg base (CXX Pr w) 2 t.with_box t.d_with_box ["scene", "box"] (spX K (ca t) FX_with_box):=okx_with_box (k:=1) tx (G_has_box tx) (by omega)
def F_X_put:DFn:=runM 2 2 (g_X_put F_X_step_to F_with_box)
theorem G_X_put (tx:Tx K mg t):FnOk Pr w K mg base CX0 3 t.X_put t.d_X_put ["self", "box"] (spM K (cl t) F_X_put):=ok_X_put (k:=2) tx (G_X_step_to tx) (by omega) (G_with_box tx) (by omega)
def FX_X_put:List D→Sto→Option (Nat×Sto):=runMX 2 2 (gx_X_put F_X_step_to FX_with_box)
theorem GX_X_put (tx:Tx K mg t):FnOk Pr w K mg base (CXX Pr w) 3 t.X_put t.d_X_put ["self", "box"] (spMX K (cl t) (ca t) FX_X_put):=okx_X_put (k:=2) tx (G_X_step_to tx) (by omega) (GX_with_box tx) (by omega)
def F_box_of:PFn:=runF 2 3 (g_box_of )
theorem G_box_of (tx:Tx K mg t):FnOk Pr w K mg base CX0 1 t.box_of t.d_box_of ["scene", "name"] (spP K F_box_of):=ok_box_of (k:=0) tx 
def FX_box_of:List PyData→Option Nat:=runX 2 3 (gx_box_of )
theorem GX_box_of (tx:Tx K mg t):FnOk Pr w K mg base (CXX Pr w) 1 t.box_of t.d_box_of ["scene", "name"] (spX K (ca t) FX_box_of):=okx_box_of (k:=0) tx 
def F_children:PFn:=runF 2 2 (g_children )
theorem G_children (tx:Tx K mg t):FnOk Pr w K mg base CX0 1 t.children t.d_children ["scene", "name"] (spP K F_children):=ok_children (k:=0) tx 
def F_below:Nat→PFn
  | 0=>fun _=>none
  | n+1=>runF 2 4 (g_below F_box_of F_children (F_below n))
theorem G_below (tx:Tx K mg t):∀ n:Nat,FnOk Pr w K mg base CX0 (n+1) t.below t.d_below ["scene", "name"] (spP K (F_below n))
  | 0=>fn0
  | n+1=>(ok_below (k:=n+1) tx (G_box_of tx) (by omega) (G_children tx) (by omega) (G_below tx n) (by omega)).mono (by omega)
def FX_below:List PyData→Option Nat:=runX 2 4 (gx_below  FX_box_of)
theorem GX_below (tx:Tx K mg t):FnOk Pr w K mg base (CXX Pr w) 2 t.below t.d_below ["scene", "name"] (spX K (ca t) FX_below):=okx_below (k:=1) tx  (GX_box_of tx) (by omega)
def F_cut:PFn:=runF 2 3 (g_cut (F_below 13))
theorem G_cut (tx:Tx K mg t):FnOk Pr w K mg base CX0 15 t.cut t.d_cut ["scene", "name"] (spP K F_cut):=ok_cut (k:=14) tx (G_below tx 13) (by omega)
def FX_cut:List PyData→Option Nat:=runX 2 3 (gx_cut  FX_below)
theorem GX_cut (tx:Tx K mg t):FnOk Pr w K mg base (CXX Pr w) 3 t.cut t.d_cut ["scene", "name"] (spX K (ca t) FX_cut):=okx_cut (k:=2) tx  (GX_below tx) (by omega)
def F_X_take:DFn:=runM 2 3 (g_X_take (F_below 13) F_X_step_to F_cut)
theorem G_X_take (tx:Tx K mg t):FnOk Pr w K mg base CX0 16 t.X_take t.d_X_take ["self", "name"] (spM K (cl t) F_X_take):=ok_X_take (k:=15) tx (G_below tx 13) (by omega) (G_X_step_to tx) (by omega) (G_cut tx) (by omega)
def FX_X_take:List D→Sto→Option (Nat×Sto):=runMX 2 3 (gx_X_take (F_below 13) F_X_step_to FX_below FX_cut)
theorem GX_X_take (tx:Tx K mg t):FnOk Pr w K mg base (CXX Pr w) 15 t.X_take t.d_X_take ["self", "name"] (spMX K (cl t) (ca t) FX_X_take):=okx_X_take (k:=14) tx (G_below tx 13) (by omega) (G_X_step_to tx) (by omega) (GX_below tx) (by omega) (GX_cut tx) (by omega)
def F_raised:PFn:=runF 2 3 (g_raised (F_below 13) F_cut)
theorem G_raised (tx:Tx K mg t):FnOk Pr w K mg base CX0 16 t.raised t.d_raised ["scene", "name"] (spP K F_raised):=ok_raised (k:=15) tx (G_below tx 13) (by omega) (G_cut tx) (by omega)
def FX_raised:List PyData→Option Nat:=runX 2 3 (gx_raised (F_below 13) FX_below FX_cut)
theorem GX_raised (tx:Tx K mg t):FnOk Pr w K mg base (CXX Pr w) 15 t.raised t.d_raised ["scene", "name"] (spX K (ca t) FX_raised):=okx_raised (k:=14) tx (G_below tx 13) (by omega) (GX_below tx) (by omega) (GX_cut tx) (by omega)
def F_X_lift:DFn:=runM 2 2 (g_X_lift F_X_step_to F_raised)
theorem G_X_lift (tx:Tx K mg t):FnOk Pr w K mg base CX0 17 t.X_lift t.d_X_lift ["self", "name"] (spM K (cl t) F_X_lift):=ok_X_lift (k:=16) tx (G_X_step_to tx) (by omega) (G_raised tx) (by omega)
def FX_X_lift:List D→Sto→Option (Nat×Sto):=runMX 2 2 (gx_X_lift F_X_step_to FX_raised)
theorem GX_X_lift (tx:Tx K mg t):FnOk Pr w K mg base (CXX Pr w) 16 t.X_lift t.d_X_lift ["self", "name"] (spMX K (cl t) (ca t) FX_X_lift):=okx_X_lift (k:=15) tx (G_X_step_to tx) (by omega) (GX_raised tx) (by omega)
def F_with_other:PFn:=runF 2 2 (g_with_other )
theorem G_with_other (tx:Tx K mg t):FnOk Pr w K mg base CX0 1 t.with_other t.d_with_other ["scene", "other"] (spP K F_with_other):=ok_with_other (k:=0) tx 
def F_marked:PFn:=runF 3 4 (g_marked F_box_of F_with_other)
theorem G_marked (tx:Tx K mg t):FnOk Pr w K mg base CX0 2 t.marked t.d_marked ["scene", "name", "marks"] (spP K F_marked):=ok_marked (k:=1) tx (G_box_of tx) (by omega) (G_with_other tx) (by omega)
def FX_marked:List PyData→Option Nat:=runX 3 4 (gx_marked  FX_box_of)
theorem GX_marked (tx:Tx K mg t):FnOk Pr w K mg base (CXX Pr w) 2 t.marked t.d_marked ["scene", "name", "marks"] (spX K (ca t) FX_marked):=okx_marked (k:=1) tx  (GX_box_of tx) (by omega)
def F_X_mark:DFn:=runM 3 4 (g_X_mark F_box_of F_X_step_to F_marked)
theorem G_X_mark (tx:Tx K mg t):FnOk Pr w K mg base CX0 3 t.X_mark t.d_X_mark ["self", "name", "marks"] (spM K (cl t) F_X_mark):=ok_X_mark (k:=2) tx (G_box_of tx) (by omega) (G_X_step_to tx) (by omega) (G_marked tx) (by omega)
def FX_X_mark:List D→Sto→Option (Nat×Sto):=runMX 3 4 (gx_X_mark F_box_of F_X_step_to FX_box_of FX_marked)
theorem GX_X_mark (tx:Tx K mg t):FnOk Pr w K mg base (CXX Pr w) 3 t.X_mark t.d_X_mark ["self", "name", "marks"] (spMX K (cl t) (ca t) FX_X_mark):=okx_X_mark (k:=2) tx (G_box_of tx) (by omega) (G_X_step_to tx) (by omega) (GX_box_of tx) (by omega) (GX_marked tx) (by omega)
def F_put_at:PFn:=runF 4 5 (g_put_at F_box_of F_with_other)
theorem G_put_at (tx:Tx K mg t):FnOk Pr w K mg base CX0 2 t.put_at t.d_put_at ["scene", "name", "left", "top"] (spP K F_put_at):=ok_put_at (k:=1) tx (G_box_of tx) (by omega) (G_with_other tx) (by omega)
def FX_put_at:List PyData→Option Nat:=runX 4 5 (gx_put_at  FX_box_of)
theorem GX_put_at (tx:Tx K mg t):FnOk Pr w K mg base (CXX Pr w) 2 t.put_at t.d_put_at ["scene", "name", "left", "top"] (spX K (ca t) FX_put_at):=okx_put_at (k:=1) tx  (GX_box_of tx) (by omega)
def F_X_lay:DFn:=runM 4 5 (g_X_lay F_box_of F_X_step_to F_put_at)
theorem G_X_lay (tx:Tx K mg t):FnOk Pr w K mg base CX0 3 t.X_lay t.d_X_lay ["self", "name", "left", "top"] (spM K (cl t) F_X_lay):=ok_X_lay (k:=2) tx (G_box_of tx) (by omega) (G_X_step_to tx) (by omega) (G_put_at tx) (by omega)
def FX_X_lay:List D→Sto→Option (Nat×Sto):=runMX 4 5 (gx_X_lay F_box_of F_X_step_to FX_box_of FX_put_at)
theorem GX_X_lay (tx:Tx K mg t):FnOk Pr w K mg base (CXX Pr w) 3 t.X_lay t.d_X_lay ["self", "name", "left", "top"] (spMX K (cl t) (ca t) FX_X_lay):=okx_X_lay (k:=2) tx (G_box_of tx) (by omega) (G_X_step_to tx) (by omega) (GX_box_of tx) (by omega) (GX_put_at tx) (by omega)
def F_X_back:DFn:=runM 1 2 (g_X_back )
theorem G_X_back (tx:Tx K mg t):FnOk Pr w K mg base CX0 1 t.X_back t.d_X_back ["self"] (spM K (cl t) F_X_back):=ok_X_back (k:=0) tx 
def FX_X_back:List D→Sto→Option (Nat×Sto):=runMX 1 2 (gx_X_back )
theorem GX_X_back (tx:Tx K mg t):FnOk Pr w K mg base (CXX Pr w) 1 t.X_back t.d_X_back ["self"] (spMX K (cl t) (ca t) FX_X_back):=okx_X_back (k:=0) tx 
def F_X_forth:DFn:=runM 1 2 (g_X_forth )
theorem G_X_forth (tx:Tx K mg t):FnOk Pr w K mg base CX0 1 t.X_forth t.d_X_forth ["self"] (spM K (cl t) F_X_forth):=ok_X_forth (k:=0) tx 
def FX_X_forth:List D→Sto→Option (Nat×Sto):=runMX 1 2 (gx_X_forth )
theorem GX_X_forth (tx:Tx K mg t):FnOk Pr w K mg base (CXX Pr w) 1 t.X_forth t.d_X_forth ["self"] (spMX K (cl t) (ca t) FX_X_forth):=okx_X_forth (k:=0) tx 
def F_qtold:DFn:=runM 3 9 (g_qtold F_X_put F_X_take F_X_lift F_X_mark F_X_lay F_X_back F_X_forth FX_X_put FX_X_take FX_X_lift FX_X_mark FX_X_lay FX_X_back FX_X_forth)
theorem G_qtold (tx:Tx K mg t):FnOk Pr w K mg base CX0 18 t._law_told t.d_qtold ["_law_plan", "_law_way", "_law_some_here"] (spM K (cl t) F_qtold):=ok_qtold (k:=17) tx (by omega) (G_X_put tx) (by omega) (G_X_take tx) (by omega) (G_X_lift tx) (by omega) (G_X_mark tx) (by omega) (G_X_lay tx) (by omega) (G_X_back tx) (by omega) (G_X_forth tx) (by omega) (GX_X_put tx) (by omega) (GX_X_take tx) (by omega) (GX_X_lift tx) (by omega) (GX_X_mark tx) (by omega) (GX_X_lay tx) (by omega) (GX_X_back tx) (by omega) (GX_X_forth tx) (by omega)
def F_X_sizes:DFn:=runM 1 1 (g_X_sizes )
theorem G_X_sizes (tx:Tx K mg t):FnOk Pr w K mg base CX0 1 t.X_sizes t.d_X_sizes ["self"] (spM K (cl t) F_X_sizes):=ok_X_sizes (k:=0) tx 
def F_law:DFn:=runM 1 12 (g_law F_qscene F_qdrawn F_X___init__ F_qsome F_qnext F_X_now F_qtold F_X_sizes)
theorem G_law (tx:Tx K mg t):FnOk Pr w K mg base CX0 19 t.law t.d_law ["_law_script"] (spM K (cl t) F_law):=ok_law (k:=18) tx (G_qscene tx) (by omega) (G_qdrawn tx) (by omega) (G_X___init__ tx) (by omega) (G_qsome tx) (by omega) (G_qnext tx) (by omega) (G_X_now tx) (by omega) (G_qtold tx) (by omega) (G_X_sizes tx) (by omega)
end
end K53
namespace K53
def chN (st:List (Nat×Nat)) (q:Nat):List Nat:=(st.filter fun x=>decide (x.2=q)).map (·.1)
def parN:List (Nat×Nat)→Nat→Option Nat
  | [],_=>none
  | x::r,q=>if x.1=q then some x.2 else parN r q
def catN (f:Nat→Option (List Nat)):List Nat→Option (List Nat)
  | []=>some []
  | x::r=>(f x).bind fun a=>(catN f r).bind fun b=>some (a++b)
def blwN (st:List (Nat×Nat)):Nat→Nat→Option (List Nat)
  | 0,_=>none
  | n+1,q=>(parN st q).bind fun _=>(catN (blwN st n) (chN st q)).bind fun r=>if r.length+1≤3000000 then some (q::r) else none
def stF (ps:List Nat):List (Nat×Nat):=(List.range ps.length).map fun i=>(i+1,ps.getD i 0)
def par (ps:List Nat) (q:Nat):Nat:=ps.getD (q - 1) 0
structure PsOk (ps:List Nat):Prop where
  len:ps.length≤12
  par:∀ i,ps.getD i 0≤i
def pF (ps:List Nat):Nat→Nat→List Nat
  | 0,_=>[]
  | n+1,q=>if q=0 then [] else pF ps n (par ps q)++[q]
def P (ps:List Nat) (q:Nat):List Nat:=pF ps q q
def blF (st:List (Nat×Nat)):Nat→Nat→List Nat
  | 0,_=>[]
  | n+1,q=>q::(chN st q).flatMap (blF st n)
def kids (st:List (Nat×Nat)) (n a:Nat):List Nat:=(chN st a).flatMap (blF st n)
theorem flat_congr {α β:Type} {f g:α→List β}:∀ {l:List α},(∀ x∈l,f x=g x)→l.flatMap f=l.flatMap g
  | [],_=>rfl
  | x::r,h=>by
    rw [List.flatMap_cons,List.flatMap_cons,h x List.mem_cons_self,flat_congr fun y hy=>h y (List.mem_cons_of_mem _ hy)]
theorem flat_nil {α β:Type} {f:α→List β}:∀ {l:List α},(∀ x∈l,f x=[])→l.flatMap f=[]
  | [],_=>rfl
  | x::r,h=>by
    rw [List.flatMap_cons,h x List.mem_cons_self,flat_nil fun y hy=>h y (List.mem_cons_of_mem _ hy)]; rfl
theorem flat_len {α β:Type} {f:α→List β} {b:Nat}:∀ {l:List α},(∀ x∈l,(f x).length≤b)→(l.flatMap f).length≤l.length*b
  | [],_=>by simp
  | x::r,h=>by
    have h1:=h x List.mem_cons_self
    have h2:=flat_len (l:=r) fun y hy=>h y (List.mem_cons_of_mem _ hy)
    rw [List.flatMap_cons,List.length_append,List.length_cons,Nat.add_mul]
    omega
section
variable {ps:List Nat} (ok:PsOk ps)
theorem pF_zero (n:Nat):pF ps n 0=[]:=by
  cases n with
  | zero=>rfl
  | succ n=>rfl
theorem par_lt (ok:PsOk ps) {q:Nat} (h:1≤q):par ps q < q:=by
  have:=ok.par (q - 1)
  unfold par
  omega
include ok
theorem pF_st:∀ q n,q≤n→pF ps n q=pF ps q q:=by
  intro q
  induction q using Nat.strongRecOn with
  | _ q ih =>
    intro n hn
    cases q with
    | zero=>rw [pF_zero,pF_zero]
    | succ j =>
      cases n with
      | zero=>omega
      | succ m =>
        have hp:=par_lt ok (q:=j+1) (by omega)
        unfold pF
        rw [if_neg (by omega),if_neg (by omega),ih _ hp m (by omega),ih _ hp j (by omega)]
theorem P_succ {q:Nat} (h:1≤q):P ps q=P ps (par ps q)++[q]:=by
  obtain ⟨j,rfl⟩:∃ j,q=j+1:=⟨q - 1,by omega⟩
  have hp:=par_lt ok (q:=j+1) h
  unfold P
  rw [pF,if_neg (by omega),pF_st ok _ j (by omega)]
omit ok in
theorem P_zero:P ps 0=[]:=rfl
omit ok in
theorem st_mem {x:Nat×Nat} (h:x∈stF ps):1≤x.1∧x.1≤ps.length∧x.2=par ps x.1:=by
  obtain ⟨i,hi,rfl⟩:=List.mem_map.mp h
  have:=List.mem_range.mp hi
  refine ⟨by simp,by show i+1≤_; omega,?_⟩
  show _=ps.getD (i+1 - 1) 0
  rfl
omit ok in
theorem mem_st {q:Nat} (h1:1≤q) (h2:q≤ps.length):(q,par ps q)∈stF ps:=by
  refine List.mem_map.mpr ⟨q - 1,List.mem_range.mpr (by omega),?_⟩
  unfold par
  rw [show q - 1+1=q by omega]
omit ok in
theorem parN_of {q p:Nat}:∀ {st:List (Nat×Nat)},(∀ y∈st,y.1=q→y.2=p)→(q,p)∈st→parN st q=some p
  | x::r,hu,hm=>by
    unfold parN
    by_cases e:x.1=q
    · rw [if_pos e,hu x List.mem_cons_self e]
    · rw [if_neg e]
      rcases List.mem_cons.mp hm with z | z
      · exact absurd (by rw [← z]) e
      · exact parN_of (fun y hy=>hu y (List.mem_cons_of_mem _ hy)) z
omit ok in
theorem parN_st {q:Nat} (h1:1≤q) (h2:q≤ps.length):parN (stF ps) q=some (par ps q) :=
  parN_of (fun y hy e=>by rw [(st_mem hy).2.2,e]) (mem_st h1 h2)
theorem ch_mem {a x:Nat} (h:x∈chN (stF ps) a):1≤x∧x≤ps.length∧par ps x=a∧a < x:=by
  obtain ⟨y,hy,rfl⟩:=List.mem_map.mp h
  obtain ⟨h1,h2⟩:=List.mem_filter.mp hy
  have h3:=st_mem h1
  have h4:=par_lt ok h3.1
  have h5:y.2=a:=by simpa using h2
  exact ⟨h3.1,h3.2.1,by rw [← h3.2.2,h5],by rw [← h5,h3.2.2]; exact h4⟩
omit ok in
theorem mem_ch {x:Nat} (h1:1≤x) (h2:x≤ps.length):x∈chN (stF ps) (par ps x) :=
  List.mem_map.mpr ⟨(x,par ps x),List.mem_filter.mpr ⟨mem_st h1 h2,by simp⟩,rfl⟩
omit ok in
theorem st_pw:(stF ps).Pairwise (fun a b=>a.1 < b.1):=by
  unfold stF
  rw [List.pairwise_map]
  exact List.Pairwise.imp (fun h=>by show _+1 < _+1; omega) List.pairwise_lt_range
omit ok in
theorem ch_pw (a:Nat):(chN (stF ps) a).Pairwise (· < ·):=by
  unfold chN
  rw [List.pairwise_map]
  exact List.Pairwise.filter _ st_pw
omit ok in
theorem catN_eq {f:Nat→Option (List Nat)} {g:Nat→List Nat}:∀ {xs:List Nat},(∀ x∈xs,f x=some (g x))→catN f xs=some (xs.flatMap g)
  | [],_=>rfl
  | x::r,h=>by
    unfold catN
    rw [h x List.mem_cons_self,Option.bind_some,catN_eq fun y hy=>h y (List.mem_cons_of_mem _ hy)]
    simp
omit ok in
theorem flat_pow {n:Nat} {f:Nat→List Nat}:∀ (l:List Nat) (s:Nat),l.Pairwise (· < ·)→(∀ x∈l,s < x∧x≤n)→(∀ x∈l,(f x).length≤2 ^ (n - x))→(l.flatMap f).length+1≤2 ^ (n - s)
  | [],s,_,_,_=>Nat.one_le_two_pow
  | x::r,s,hp,hs,hf=>by
    obtain ⟨p1,p2⟩:=List.pairwise_cons.mp hp
    have ih:=flat_pow r x p2 (fun y hy=>⟨p1 y hy,(hs y (List.mem_cons_of_mem _ hy)).2⟩) fun y hy=>hf y (List.mem_cons_of_mem _ hy)
    have h1:=hf x List.mem_cons_self
    have h2:=hs x List.mem_cons_self
    rw [List.flatMap_cons,List.length_append]
    have h3:2 ^ (n - x)+2 ^ (n - x)=2 ^ (n - x+1):=by rw [Nat.pow_succ]; omega
    have h4:2 ^ (n - x+1)≤2 ^ (n - s):=Nat.pow_le_pow_right (by decide) (by omega)
    omega
theorem blF_len:∀ m q,1≤q→q≤ps.length→(blF (stF ps) m q).length≤2 ^ (ps.length - q)
  | 0,q,_,_=>Nat.zero_le _
  | m+1,q,h1,h2=>by
    unfold blF
    rw [List.length_cons]
    exact flat_pow _ q (ch_pw q) (fun x hx=>⟨(ch_mem ok hx).2.2.2,(ch_mem ok hx).2.1⟩) fun x hx=>blF_len m x (ch_mem ok hx).1 (ch_mem ok hx).2.1
theorem pow_lim {q:Nat} (h1:1≤q):2 ^ (ps.length - q)≤4096:=by
  have:=ok.len
  exact Nat.le_trans (Nat.pow_le_pow_right (by decide) (show ps.length - q≤12 by omega)) (by decide)
theorem blwN_eq:∀ n q,1≤q→q≤ps.length→ps.length < n+q→blwN (stF ps) n q=some (blF (stF ps) n q)
  | 0,q,_,h2,h3=>by omega
  | n+1,q,h1,h2,h3=>by
    have hl:=blF_len ok (n+1) q h1 h2
    unfold blF at hl
    rw [List.length_cons] at hl
    have hp:=pow_lim ok h1
    unfold blwN blF
    rw [parN_st h1 h2,Option.bind_some,catN_eq (g:=blF (stF ps) n) fun x hx=>blwN_eq n x (ch_mem ok hx).1 (ch_mem ok hx).2.1 (by have:=ch_mem ok hx; omega),Option.bind_some,if_pos (by omega)]
theorem kids_mem {x n a:Nat} (h:x∈kids (stF ps) n a):1≤x∧x≤ps.length:=by
  induction n generalizing a x with
  | zero =>
    obtain ⟨y,_,hy⟩:=List.mem_flatMap.mp h
    cases hy
  | succ n ih =>
    obtain ⟨y,hy,hx⟩:=List.mem_flatMap.mp h
    rcases List.mem_cons.mp hx with rfl | z
    · exact ⟨(ch_mem ok hy).1,(ch_mem ok hy).2.1⟩
    · exact ih z
omit ok in
theorem kids_step {q p:Nat} (hq:q∈chN (stF ps) p):∀ (m a:Nat),p∈kids (stF ps) m a→q∈kids (stF ps) (m+1) a:=by
  intro m
  induction m with
  | zero =>
    intro a h
    obtain ⟨y,_,hy⟩:=List.mem_flatMap.mp h
    cases hy
  | succ m ih =>
    intro a h
    obtain ⟨y,hy,hx⟩:=List.mem_flatMap.mp h
    refine List.mem_flatMap.mpr ⟨y,hy,List.mem_cons_of_mem _ ?_⟩
    rcases List.mem_cons.mp hx with rfl | z
    · exact List.mem_flatMap.mpr ⟨q,hq,List.mem_cons_self⟩
    · exact ih y z
theorem mem_kids:∀ (n q:Nat),1≤q→q≤ps.length→q≤n→q∈kids (stF ps) n 0
  | 0,q,h1,_,h3=>by omega
  | n+1,q,h1,h2,h3=>by
    have hp:=par_lt ok h1
    have hc:=mem_ch h1 h2
    by_cases e:par ps q=0
    · rw [e] at hc
      exact List.mem_flatMap.mpr ⟨q,hc,List.mem_cons_self⟩
    · exact kids_step hc n 0 (mem_kids n _ (by omega) (by omega) (by omega))
end
def cutN (st:List (Nat×Nat)) (q:Nat):Option (List (Nat×Nat)):=(blwN st 13 q).bind fun g=>some (st.filter fun x=>!decide (x.1∈g))
def raiN (st:List (Nat×Nat)) (q:Nat):Option (List (Nat×Nat)):=(blwN st 13 q).bind fun g=>some (st.filter (fun x=>!decide (x.1∈g))++st.filter fun x=>decide (x.1∈g))
abbrev In (ps:List Nat) (q:Nat):Prop:=1≤q∧q≤ps.length
end K53
namespace K53
open PySem L2 L2.PU
theorem cGo_map {ι:Type} {t:En→PyData→Option En} {p:En→Option Bool} {f:En→Option PyData} {η:En} (D:ι→PyData) (P:ι→Bool) (Y:ι→PyData) :
    ∀ xs:List ι,(∀ x∈xs,∃ η1,t η (D x)=some η1∧p η1=some (P x)∧(P x=true→f η1=some (Y x)))→cGo t p f η (xs.map D)=some ((xs.filter P).map Y)
  | [],_=>rfl
  | x::r,h=>by
    obtain ⟨η1,h1,h2,h3⟩:=h x List.mem_cons_self
    have ih:=cGo_map D P Y r fun y hy=>h y (List.mem_cons_of_mem _ hy)
    rw [List.map_cons]
    unfold cGo
    rw [h1,Option.bind_some,h2,Option.bind_some,ih,List.filter_cons]
    cases hP:P x with
    | false=>rfl
    | true=>rw [if_pos rfl,h3 hP]; rfl
structure Sc where
  st:List (Nat×Nat)
  nm:Nat→Str
  L:Nat→Int
  T:Nat→Int
  W:Nat→Int
  H:Nat→Int
  mr:Nat→Str
structure Sc.Ok (c:Sc):Prop where
  inj:∀ a b,c.nm a=c.nm b→a=b
  top:c.nm 0 = ""
  ok:∀ a,PyData.strOk (c.nm a)=true
  okm:∀ a,PyData.strOk (c.mr a)=true
  len:c.st.length≤12
def Sc.box (c:Sc) (x:Nat×Nat):PyData:=.tuple [.str (c.nm x.1),.str (c.nm x.2),.int (c.L x.1),.int (c.T x.1),.int (c.W x.1),.int (c.H x.1),.str (c.mr x.1)]
def Sc.d (c:Sc):PyData:=.tuple (c.st.map c.box)
def Sc.s (c:Sc) (q:Nat):PyData:=.str (c.nm q)
def Sc.S (c:Sc) (l:List Nat):PyData:=.list (l.map c.s)
theorem str_dec (a b:Str):(a==b)=decide (a=b):=rfl
theorem shaped_str {a:Str} (h:PyData.strOk a=true):SeqAt.shaped (.str a)=true:=by
  simp [SeqAt.shaped,PyData.canLay0,PyData.depth,h]
theorem pEq_str {a b:Str} (ha:PyData.strOk a=true) (hb:PyData.strOk b=true):pEq (.str a) (.str b)=some (.bool (decide (a=b))):=by
  unfold pEq
  rw [if_pos ⟨shaped_str ha,shaped_str hb⟩]
  simp [PyData.eqv,str_dec]
theorem pNe_str {a b:Str} (ha:PyData.strOk a=true) (hb:PyData.strOk b=true):pNe (.str a) (.str b)=some (.bool (!decide (a=b))):=by
  unfold pNe
  rw [if_pos ⟨shaped_str ha,shaped_str hb⟩]
  simp [PyData.eqv,str_dec]
section
variable {c:Sc} (h:c.Ok)
include h
theorem Sc.Ok.dec (a b:Nat):decide (c.nm a=c.nm b)=decide (a=b):=by
  by_cases e:a=b
  · subst e; simp
  · have:¬ c.nm a=c.nm b:=fun z=>e (h.inj _ _ z)
    rw [decide_eq_false this,decide_eq_false e]
theorem Sc.Ok.eqs (a b:Nat):pEq (c.s a) (c.s b)=some (.bool (decide (a=b))):=by
  unfold Sc.s
  rw [pEq_str (h.ok a) (h.ok b),h.dec]
theorem Sc.Ok.nes (a b:Nat):pNe (c.s a) (c.s b)=some (.bool (!decide (a=b))):=by
  unfold Sc.s
  rw [pNe_str (h.ok a) (h.ok b),h.dec]
theorem Sc.Ok.ne0 (a:Nat):pNe (c.s a) (.str "")=some (.bool (!decide (a=0))):=by
  have:=h.nes a 0
  unfold Sc.s at this ⊢
  rw [h.top] at this
  exact this
end
end K53
namespace K53
open PySem L2 L2.PU
theorem big {n:Nat} (h:n≤3000000):n≤sizeLine:=Nat.le_trans h (by show 3000000≤2 ^ 24; decide)
section
variable {c:Sc} (h:c.Ok)
include h
theorem size_d:(c.st.map c.box).length≤sizeLine:=by
  rw [List.length_map]
  exact big (Nat.le_trans h.len (by decide))
theorem F_children_eq (q:Nat):F_children [c.d,c.s q]=some (c.S (chN c.st q)):=by
  unfold F_children runF
  rw [if_pos (by rfl)]
  show (g_children [.val c.d,.val (c.s q)]).bind _=_
  have e:cGo (tgN 0) (bT (l2 pEq (l2 pIx (eV 0) (eC (.int 1))) (eV 1))) (l2 pIx (eV 0) (eC (.int 0))) [.un,.val (c.s q)] (c.st.map c.box)=some ((c.st.filter fun x=>decide (x.2=q)).map fun x=>c.s x.1):=by
    refine cGo_map c.box (fun x=>decide (x.2=q)) (fun x=>c.s x.1) _ fun x _=>⟨_,rfl,?_,fun _=>rfl⟩
    show (pEq (c.s x.2) (c.s q)).bind asB=_
    rw [h.eqs]; rfl
  have e2:sComp [none,some 1] (lI asTu (eV 0)) (tgN 0) (bT (l2 pEq (l2 pIx (eV 0) (eC (.int 1))) (eV 1))) (l2 pIx (eV 0) (eC (.int 0))) [.val c.d,.val (c.s q)]=some ((c.st.filter fun x=>decide (x.2=q)).map fun x=>c.s x.1):=by
    show (if (c.st.map c.box).length≤sizeLine then cGo _ _ _ _ _ else none)=_
    rw [if_pos (size_d h)]
    exact e
  unfold g_children sRet oE
  rw [e2]
  show some (PyData.list _)=some (PyData.list _)
  unfold chN
  rw [List.map_map]; rfl
theorem box_go (q p:Nat):∀ (l:List (Nat×Nat)),parN l q=some p→∀ s:Sl,sGo (tgN 2) (sIf (bT (l2 pEq (l2 pIx (eV 2) (eC (.int 0))) (eV 1))) (sRet (eV 2)) sNx) (l.map c.box) [.val c.d,.val (c.s q),s]=some (.rt (c.box (q,p)))
  | x::r,hm,s=>by
    rw [List.map_cons]
    unfold sGo
    have et:tgN 2 [.val c.d,.val (c.s q),s] (c.box x)=some [.val c.d,.val (c.s q),.val (c.box x)]:=rfl
    rw [et,Option.bind_some]
    have eb:(bT (l2 pEq (l2 pIx (eV 2) (eC (.int 0))) (eV 1))) [.val c.d,.val (c.s q),.val (c.box x)]=some (decide (x.1=q)):=by
      show (pEq (c.s x.1) (c.s q)).bind asB=_
      rw [h.eqs]; rfl
    unfold sIf
    rw [eb,Option.bind_some]
    unfold parN at hm
    by_cases e:x.1=q
    · rw [if_pos e] at hm
      cases hm
      rw [if_pos (by simpa using e)]
      subst e
      rfl
    · rw [if_neg e] at hm
      rw [if_neg (by simpa using e)]
      show sGo _ _ (r.map c.box) _=_
      exact box_go q p r hm _
theorem F_box_eq {q p:Nat} (h1:parN c.st q=some p):F_box_of [c.d,c.s q]=some (c.box (q,p)):=by
  unfold F_box_of runF
  rw [if_pos (by rfl)]
  show (g_box_of [.val c.d,.val (c.s q),.un]).bind _=_
  have e2:sFor (lI asTu (eV 0)) (tgN 2) (sIf (bT (l2 pEq (l2 pIx (eV 2) (eC (.int 0))) (eV 1))) (sRet (eV 2)) sNx) [.val c.d,.val (c.s q),.un]=some (.rt (c.box (q,p))):=box_go h q p c.st h1 .un
  unfold g_box_of sSeq
  rw [e2]; rfl
theorem below_go {F:PFn} {f:Nat→Option (List Nat)} (hF:∀ x l,f x=some l→F [c.d,c.s x]=some (c.S l)) (q:Nat) :
    ∀ (xs r:List Nat),catN f xs=some r→∀ (done:List Nat) (s3:Sl),done.length+r.length≤3000000→∃ s3',sGo (tgN 3) (sExt 2 (lI asL (lA F (aC (eV 0) (aC (eV 3) aN))))) (xs.map c.s) [.val c.d,.val (c.s q),.own (done.map c.s),s3]=some (.nx [.val c.d,.val (c.s q),.own ((done++r).map c.s),s3'])
  | [],r,e,done,s3,_=>by
    cases e
    exact ⟨s3,by rw [List.append_nil]; rfl⟩
  | x::xs,r,e,done,s3,hl=>by
    obtain ⟨a,ea,e⟩:=bind_some e
    obtain ⟨b,eb,e⟩:=bind_some e
    cases e
    rw [List.length_append] at hl
    obtain ⟨s3',ih⟩:=below_go hF q xs b eb (done++a) (.val (c.s x)) (by rw [List.length_append]; omega)
    refine ⟨s3',?_⟩
    have e1:sExt 2 (lI asL (lA F (aC (eV 0) (aC (eV 3) aN)))) [.val c.d,.val (c.s q),.own (done.map c.s),.val (c.s x)]=some (.nx [.val c.d,.val (c.s q),.own ((done++a).map c.s),.val (c.s x)]):=by
      show Option.bind (Option.bind (F [c.d,c.s x]) asL) _=_
      rw [hF x a ea]
      show (if (done.map c.s).length+(a.map c.s).length≤sizeLine then _ else _)=_
      rw [if_pos (by rw [List.length_map,List.length_map]; exact big (by omega)),List.map_append]
      rfl
    rw [List.map_cons]
    unfold sGo
    show Option.bind (sExt 2 _ [.val c.d,.val (c.s q),.own (done.map c.s),.val (c.s x)]) _=_
    rw [e1,Option.bind_some]
    show sGo _ _ _ _=_
    rw [ih,List.append_assoc]
theorem F_below_eq:∀ (n q:Nat) (l:List Nat),blwN c.st n q=some l→F_below n [c.d,c.s q]=some (c.S l)
  | n+1,q,l,e=>by
    unfold blwN at e
    obtain ⟨p,hq,e⟩:=bind_some e
    · obtain ⟨r,hr,e⟩:=bind_some e
      split at e
      · rename_i hl
        cases e
        unfold F_below runF
        rw [if_pos (by rfl)]
        show (g_below F_box_of F_children (F_below n) [.val c.d,.val (c.s q),.un,.un]).bind _=_
        have eb:=F_box_eq h hq
        have e1:sSetO 2 (fun η=>((aC (l2 pIx (lA F_box_of (aC (eV 0) (aC (eV 1) aN))) (eC (.int 0))) aN) η).bind gL) [.val c.d,.val (c.s q),.un,.un]=some (.nx [.val c.d,.val (c.s q),.own [c.s q],.un]):=by
          show Option.bind (Option.bind (Option.bind (Option.bind (F_box_of [c.d,c.s q]) _) _) _) _=_
          rw [eb]
          rfl
        obtain ⟨s3',e2⟩:=below_go h (F_below_eq n) q (chN c.st q) r hr [q] .un (by simpa [Nat.add_comm] using hl)
        have e3:sFor (lI asL (lA F_children (aC (eV 0) (aC (eV 1) aN)))) (tgN 3) (sExt 2 (lI asL (lA (F_below n) (aC (eV 0) (aC (eV 3) aN))))) [.val c.d,.val (c.s q),.own [c.s q],.un]=some (.nx [.val c.d,.val (c.s q),.own (([q]++r).map c.s),s3']):=by
          show Option.bind (Option.bind (F_children [c.d,c.s q]) asL) _=_
          rw [F_children_eq h]
          exact e2
        unfold g_below sSeq
        rw [e1,Option.bind_some]
        show Option.bind (Option.bind (sFor _ _ _ _) _) _=_
        rw [e3]
        rfl
      · cases e
end
end K53
namespace K53
open PySem L2 L2.PU
def Sd (ns:List Int):PyData:=.list (ns.map PyData.int)
theorem can_ints:∀ ns:List Int,PyData.canLayAll0 (ns.map PyData.int)=true
  | []=>rfl
  | _::r=>by
    have ih:=can_ints r
    simpa [PyData.canLayAll0,PyData.canLay0] using ih
theorem dep_ints:∀ ns:List Int,PyData.depthAll (ns.map PyData.int)=0
  | []=>rfl
  | _::r=>by
    have ih:=dep_ints r
    simpa [PyData.depthAll,PyData.depth] using ih
theorem shaped_ints (ns:List Int):SeqAt.shaped (.list (ns.map PyData.int))=true:=by
  simp [SeqAt.shaped,PyData.canLay0,PyData.depth,can_ints,dep_ints]
theorem shaped_int (i:Int):SeqAt.shaped (.int i)=true:=by simp [SeqAt.shaped,PyData.canLay0,PyData.depth]
theorem pEq_int (i j:Int):pEq (.int i) (.int j)=some (.bool (i==j)):=by
  unfold pEq
  rw [if_pos ⟨shaped_int i,shaped_int j⟩]
  simp [PyData.eqv]
theorem l2_of {o:PyData→PyData→Option PyData} {f g:En→Option PyData} {η:En} {x y z:PyData} (hf:f η=some x) (hg:g η=some y) (ho:o x y=some z):l2 o f g η=some z:=by
  unfold l2
  rw [hf,Option.bind_some,hg,Option.bind_some,ho]
theorem pMul_ok {i j:Int} (h:CMul i j):pMul (.int i) (.int j)=some (.int (i*j)):=if_pos h
theorem pMod_ok {i j:Int} (h:0 < j):pMod (.int i) (.int j)=some (.int (i % j)):=if_pos h
theorem pFdiv_ok {i j:Int} (h:CDiv i j):pFdiv (.int i) (.int j)=some (.int (i / j)):=if_pos h
theorem mulL {i j:Int} (h1:-(2 ^ 64) < i) (h2:i < 2 ^ 64):CMul i j:=Or.inl ⟨h1,h2⟩
theorem mulR {i j:Int} (h1:-(2 ^ 64) < j) (h2:j < 2 ^ 64):CMul i j:=Or.inr ⟨h1,h2⟩
section
variable {ns:List Int}
theorem cell_ok (hn:ns.length≤63) {k:Int} (hk:0≤k):∃ v:Int,F_qcell [Sd ns,.int k]=some (.int v):=by
  unfold F_qcell runF
  rw [if_pos (by rfl)]
  have et:(bT (l2 pEq (eV 0) (oE (fun η=>(aN η).bind gL)))) [.val (Sd ns),.val (.int k)]=some (decide (ns=[])):=by
    show Option.bind (pEq (Sd ns) (.list [])) asB=_
    unfold pEq
    rw [if_pos ⟨shaped_ints ns,by rfl⟩]
    cases ns <;> simp [Sd,PyData.eqv,PyData.eqvAll,asB]
  show ∃ v,Option.bind (g_qcell [.val (Sd ns),.val (.int k)]) _=_
  unfold g_qcell sSeq sIf
  rw [et,Option.bind_some]
  by_cases h0:ns=[]
  · rw [if_pos (by simpa using h0)]
    refine ⟨7*k,?_⟩
    have:l2 pMul (eC (.int 7)) (eV 1) [.val (Sd ns),.val (.int k)]=some (.int (7*k)):=l2_of rfl rfl (pMul_ok (mulL (by decide) (by decide)))
    unfold sRet
    rw [this]; rfl
  · rw [if_neg (by simpa using h0)]
    have hp:0 < ns.length:=by cases ns with | nil=>exact absurd rfl h0 | cons=>simp
    have hlen:lA pLen (aC (eV 0) aN) [.val (Sd ns),.val (.int k)]=some (.int (ns.length:Int)):=by
      show some (PyData.int ((ns.map PyData.int).length:Int))=_
      rw [List.length_map]
    have hm:l2 pMod (eV 1) (lA pLen (aC (eV 0) aN)) [.val (Sd ns),.val (.int k)]=some (.int (k % (ns.length:Int))):=l2_of rfl hlen (pMod_ok (by omega))
    have hd:l2 pFdiv (eV 1) (lA pLen (aC (eV 0) aN)) [.val (Sd ns),.val (.int k)]=some (.int (k / (ns.length:Int))):=l2_of rfl hlen (pFdiv_ok ⟨by omega,by omega⟩)
    obtain ⟨j,hj⟩:∃ j:Nat,k % (ns.length:Int)=(j:Int):=⟨(k % (ns.length:Int)).toNat,by have:=Int.emod_nonneg k (show (ns.length:Int)≠0 by omega); omega⟩
    have hjl:j < ns.length:=by have:=Int.emod_lt_of_pos k (show (0:Int) < ns.length by omega); omega
    refine ⟨ns[j]+6553*(k / (ns.length:Int)),?_⟩
    have hx:l2 pIx (eV 0) (l2 pMod (eV 1) (lA pLen (aC (eV 0) aN))) [.val (Sd ns),.val (.int k)]=some (.int ns[j]):=by
      refine l2_of rfl hm ?_
      rw [hj]
      show atI (ns.map PyData.int) (j:Int)=_
      exact atI_nat (by rw [List.getElem?_map,List.getElem?_eq_getElem hjl]; rfl)
    have hy:l2 pMul (eC (.int 6553)) (l2 pFdiv (eV 1) (lA pLen (aC (eV 0) aN))) [.val (Sd ns),.val (.int k)]=some (.int (6553*(k / (ns.length:Int)))):=l2_of rfl hd (pMul_ok (mulL (by decide) (by decide)))
    have hz:=l2_of (o:=pAdd) hx hy rfl
    show Option.bind (sRet _ [.val (Sd ns),.val (.int k)]) _=_
    unfold sRet
    rw [hz]
    rfl
theorem drawn_ok (hn:ns.length≤63) {k m:Int} (hk:0≤k) (hm:0 < m):∃ r:Nat,(r:Int) < m∧F_qdrawn [Sd ns,.int k,.int m]=some (.int r):=by
  obtain ⟨v,hv⟩:=cell_ok hn hk
  unfold F_qdrawn runF
  rw [if_pos (by rfl)]
  have hc:lA F_qcell (aC (eV 0) (aC (eV 1) aN)) [.val (Sd ns),.val (.int k),.val (.int m),.un]=some (.int v):=hv
  have x1:l2 pMod (l2 pAdd (l2 pMul (l2 pMod (lA F_qcell (aC (eV 0) (aC (eV 1) aN))) (eC (.int 2147483563))) (eC (.int 69069))) (l2 pMul (eC (.int 104723)) (l2 pAdd (eV 1) (eC (.int 1))))) (eC (.int 2147483563)) [.val (Sd ns),.val (.int k),.val (.int m),.un]=some (.int ((v % 2147483563*69069+104723*(k+1)) % 2147483563)) :=
    l2_of (l2_of (l2_of (l2_of hc rfl (pMod_ok (by decide))) rfl (pMul_ok (mulR (by decide) (by decide)))) (l2_of rfl (l2_of rfl rfl rfl) (pMul_ok (mulL (by decide) (by decide)))) rfl) rfl (pMod_ok (by decide))
  generalize hx:(v % 2147483563*69069+104723*(k+1)) % 2147483563=x at x1
  have bx:0≤x∧x < 2147483563:=by rw [← hx]; exact ⟨Int.emod_nonneg _ (by decide),Int.emod_lt_of_pos _ (by decide)⟩
  have x2:l2 pMod (l2 pAdd (l2 pMul (eV 3) (eV 3)) (l2 pFdiv (eV 3) (eC (.int 3)))) (eC (.int 2147483399)) [.val (Sd ns),.val (.int k),.val (.int m),.val (.int x)]=some (.int ((x*x+x / 3) % 2147483399)) :=
    l2_of (l2_of (l2_of rfl rfl (pMul_ok (mulL (by omega) (by omega)))) (l2_of rfl rfl (pFdiv_ok ⟨by decide,by decide⟩)) rfl) rfl (pMod_ok (by decide))
  generalize hy:(x*x+x / 3) % 2147483399=y at x2
  have byy:0≤y∧y < 2147483399:=by rw [← hy]; exact ⟨Int.emod_nonneg _ (by decide),Int.emod_lt_of_pos _ (by decide)⟩
  have x3:l2 pMod (l2 pFdiv (l2 pMod (l2 pAdd (l2 pMul (eV 3) (eV 3)) (l2 pFdiv (eV 3) (eC (.int 7)))) (eC (.int 2147483647))) (eC (.int 11))) (eV 2) [.val (Sd ns),.val (.int k),.val (.int m),.val (.int y)]=some (.int ((y*y+y / 7) % 2147483647 / 11 % m)) :=
    l2_of (l2_of (l2_of (l2_of (l2_of rfl rfl (pMul_ok (mulL (by omega) (by omega)))) (l2_of rfl rfl (pFdiv_ok ⟨by decide,by decide⟩)) rfl) rfl (pMod_ok (by decide))) rfl (pFdiv_ok ⟨by decide,by decide⟩)) rfl (pMod_ok hm)
  refine ⟨((y*y+y / 7) % 2147483647 / 11 % m).toNat,?_,?_⟩
  · have h1:=Int.emod_nonneg ((y*y+y / 7) % 2147483647 / 11) (show m≠0 by omega)
    have h2:=Int.emod_lt_of_pos ((y*y+y / 7) % 2147483647 / 11) hm
    omega
  · have h1:=Int.emod_nonneg ((y*y+y / 7) % 2147483647 / 11) (show m≠0 by omega)
    have e:(((y*y+y / 7) % 2147483647 / 11 % m).toNat:Int)=(y*y+y / 7) % 2147483647 / 11 % m:=by omega
    rw [e]
    show Option.bind (g_qdrawn F_qcell [.val (Sd ns),.val (.int k),.val (.int m),.un]) _=_
    unfold g_qdrawn sSeq sSet sRet
    rw [x1,Option.bind_some,Option.bind_some]
    show Option.bind (Option.bind (Option.bind (l2 pMod _ _ [.val (Sd ns),.val (.int k),.val (.int m),.val (.int x)]) _) _) _=_
    rw [x2,Option.bind_some,Option.bind_some]
    show Option.bind (Option.bind (l2 pMod _ _ [.val (Sd ns),.val (.int k),.val (.int m),.val (.int y)]) _) _=_
    rw [x3]
    rfl
end
end K53
namespace K53
open PySem L2 L2.PU
theorem seq_of {f g:En→Option Out} {η η1:En} {r:Option Out} (h1:f η=some (.nx η1)) (h2:g η1=r):sSeq f g η=r:=by
  unfold sSeq
  rw [h1]; exact h2
theorem set_of {i:Nat} {f:En→Option PyData} {η:En} {d:PyData} (h:f η=some d):sSet i f η=some (.nx (η.set i (.val d))):=by
  unfold sSet
  rw [h]; rfl
theorem setO_of {i:Nat} {f:En→Option (List PyData)} {η:En} {d:List PyData} (h:f η=some d):sSetO i f η=some (.nx (η.set i (.own d))):=by
  unfold sSetO
  rw [h]; rfl
theorem lA_of {o:PFn} {fs:En→Option (List PyData)} {η:En} {ds:List PyData} {d:PyData} (h1:fs η=some ds) (h2:o ds=some d):lA o fs η=some d:=by
  unfold lA
  rw [h1]; exact h2
theorem aC_of {f:En→Option PyData} {g:En→Option (List PyData)} {η:En} {d:PyData} {ds:List PyData} (h1:f η=some d) (h2:g η=some ds):aC f g η=some (d::ds):=by
  unfold aC
  rw [h1,Option.bind_some,h2]; rfl
theorem if_of {c:En→Option Bool} {f g:En→Option Out} {η:En} {b:Bool} (h:c η=some b):sIf c f g η=if b=true then f η else g η:=by
  unfold sIf
  rw [h]; rfl
theorem bT_of {f:En→Option PyData} {η:En} {b:Bool} (h:f η=some (.bool b)):bT f η=some b:=by
  unfold bT
  rw [h]; rfl
theorem for_of {it:En→Option (List PyData)} {t:En→PyData→Option En} {body:En→Option Out} {η:En} {ds:List PyData} {r:Option Out} (h:it η=some ds) (h2:sGo t body ds η=r):sFor it t body η=r:=by
  unfold sFor
  rw [h]; exact h2
theorem rng1_ok {j:Int} (h1:-(2 ^ 62)≤j) (h2:j < 2 ^ 62):rng1 [.int j]=some (rngL 0 j.toNat):=if_pos ⟨h1,h2⟩
theorem sGo_rng {t:En→PyData→Option En} {body:En→Option Out} (Inv:Nat→En→Prop) (n:Nat)
    (st:∀ k η,k < n→Inv k η→∃ η1 η2,t η (.int (0+(k:Nat)))=some η1∧body η1=some (.nx η2)∧Inv (k+1) η2) {η:En} (h0:Inv 0 η):∃ η',sGo t body (rngL 0 n) η=some (.nx η')∧Inv n η':=by
  have key:∀ (m k:Nat) (η:En),k+m=n→Inv k η→∃ η',sGo t body ((List.range' k m).map fun (k:Nat)=>PyData.int (0+(k:Nat))) η=some (.nx η')∧Inv n η':=by
    intro m
    induction m with
    | zero=>intro k η e h; exact ⟨η,rfl,by rw [← e]; exact h⟩
    | succ m ih =>
      intro k η e h
      obtain ⟨η1,η2,h1,h2,h3⟩:=st k η (by omega) h
      obtain ⟨η',e1,e2⟩:=ih (k+1) η2 (by omega) h3
      refine ⟨η',?_,e2⟩
      rw [List.range'_succ,List.map_cons]
      unfold sGo
      rw [h1,Option.bind_some,h2,Option.bind_some]
      exact e1
  unfold rngL
  rw [List.range_eq_range']
  exact key n 0 η (by omega) h0
theorem sGo_all {ι:Type} {t:En→PyData→Option En} {body:En→Option Out} (D:ι→PyData) (Inv:List ι→En→Prop) (all:List ι)
    (st:∀ done x rest η,all=done++x::rest→Inv done η→∃ η1 η2,t η (D x)=some η1∧body η1=some (.nx η2)∧Inv (done++[x]) η2) {η:En} (h0:Inv [] η):∃ η',sGo t body (all.map D) η=some (.nx η')∧Inv all η':=by
  have key:∀ (rest done:List ι) (η:En),all=done++rest→Inv done η→∃ η',sGo t body (rest.map D) η=some (.nx η')∧Inv all η':=by
    intro rest
    induction rest with
    | nil=>intro done η e h; exact ⟨η,rfl,by rw [e,List.append_nil]; exact h⟩
    | cons x r ih =>
      intro done η e h
      obtain ⟨η1,η2,h1,h2,h3⟩:=st done x r η e h
      obtain ⟨η',e1,e2⟩:=ih (done++[x]) η2 (by rw [e]; simp) h3
      refine ⟨η',?_,e2⟩
      rw [List.map_cons]
      unfold sGo
      rw [h1,Option.bind_some,h2,Option.bind_some]
      exact e1
  exact key all [] η rfl h0
def let8:List Nat:=[100,98,103,97,104,99,102,101]
def nmT (t:Nat):Nat→Str
  | 0 => ""
  | j+1=>if j < 8 then ⟨#[let8.getD ((j+t) % 8) 0]⟩ else ⟨(List.replicate (j+1) 97).toArray⟩
theorem let8_inj:∀ x:Fin 8,∀ y:Fin 8,let8.getD x.val 0=let8.getD y.val 0→x=y:=by decide
theorem nmT_lo {t j:Nat} (h:j < 8):nmT t (j+1)=⟨#[let8.getD ((j+t) % 8) 0]⟩:=if_pos h
theorem nmT_hi {t j:Nat} (h:¬ j < 8):nmT t (j+1)=⟨(List.replicate (j+1) 97).toArray⟩:=if_neg h
theorem empty_size:("" : Str).cps.size=0:=by decide
theorem nmT_inj (t:Nat):∀ a b,nmT t a=nmT t b→a=b:=by
  have sz:∀ a,(nmT t a).cps.size=if a=0 then 0 else if a - 1 < 8 then 1 else a:=fun a=>by
    cases a with
    | zero=>exact empty_size
    | succ j =>
      by_cases h:j < 8
      · rw [nmT_lo h]; simp [h]
      · rw [nmT_hi h]; simp [h]
  intro a b e
  have s1:=sz a
  have s2:=sz b
  rw [e,s2] at s1
  cases a with
  | zero =>
    cases b with
    | zero=>rfl
    | succ k =>
      simp at s1
      split at s1 <;> omega
  | succ j =>
    cases b with
    | zero =>
      simp at s1
      split at s1 <;> omega
    | succ k =>
      by_cases hj:j < 8
      · by_cases hk:k < 8
        · rw [nmT_lo hj,nmT_lo hk] at e
          have e1:(#[let8.getD ((j+t) % 8) 0]:Array Nat)=#[let8.getD ((k+t) % 8) 0]:=by injection e
          have e2:let8.getD ((j+t) % 8) 0=let8.getD ((k+t) % 8) 0:=by simpa using e1
          have e3:=let8_inj ⟨(j+t) % 8,Nat.mod_lt _ (by decide)⟩ ⟨(k+t) % 8,Nat.mod_lt _ (by decide)⟩ e2
          have e4:(j+t) % 8=(k+t) % 8:=by injection e3
          omega
        · simp [hj,hk] at s1; omega
      · by_cases hk:k < 8
        · simp [hj,hk] at s1; omega
        · simp [hj,hk] at s1; omega
theorem let8_lt:∀ x:Fin 8,let8.getD x.val 0 < 0x110000:=by decide
theorem nmT_ok (t:Nat):∀ a,PyData.strOk (nmT t a)=true:=fun a=>by
  cases a with
  | zero=>exact (by decide +kernel:PyData.strOk ("" : Str)=true)
  | succ j =>
    by_cases h:j < 8
    · rw [nmT_lo h]
      have:=let8_lt ⟨(j+t) % 8,Nat.mod_lt _ (by decide)⟩
      simp only [List.getD_eq_getElem?_getD] at this
      simp [PyData.strOk,this]
    · rw [nmT_hi h]
      unfold PyData.strOk
      rw [Array.all_eq_true]
      intro i hi
      simp
structure Dr where
  ps:List Nat
  nm:Nat→Str
  L:Nat→Int
  T:Nat→Int
  W:Nat→Int
  H:Nat→Int
  mr:Nat→Str
def bd (l t w h:Int):Prop:=(-3≤l∧l≤5)∧(-3≤t∧t≤5)∧(0≤w∧w≤8)∧(0≤h∧h≤8)
def mkS:List Bool→Str
  | [] => ""
  | b::r=>mkS r++(if b then (⟨#[[99,102,104,108].getD r.length 0]⟩:Str) else ("" : Str))
def mkOk (m:Str):Prop:=∃ bs:List Bool,bs.length=4∧m=mkS bs
structure Dr.Ok (c:Dr):Prop where
  inj:∀ a b,c.nm a=c.nm b→a=b
  top:c.nm 0 = ""
  ok:∀ a,PyData.strOk (c.nm a)=true
  okm:∀ a,PyData.strOk (c.mr a)=true
  len:c.ps.length≤12
  par:∀ i,c.ps.getD i 0≤i
  bds:∀ i,bd (c.L i) (c.T i) (c.W i) (c.H i)
  mks:∀ i,mkOk (c.mr i)
def Dr.box (c:Dr) (i:Nat):PyData:=.tuple [.str (c.nm (i+1)),.str (c.nm (c.ps.getD i 0)),.int (c.L i),.int (c.T i),.int (c.W i),.int (c.H i),.str (c.mr i)]
def Dr.d (c:Dr):PyData:=.tuple ((List.range c.ps.length).map c.box)
def Dr.s (c:Dr) (q:Nat):PyData:=.str (c.nm q)
def Dr.more (c:Dr) (p:Nat) (l t w h:Int) (m:Str):Dr :=
  { ps:=c.ps++[p],nm:=c.nm,L:=fun i=>if i=c.ps.length then l else c.L i,T:=fun i=>if i=c.ps.length then t else c.T i,W:=fun i=>if i=c.ps.length then w else c.W i,
    H:=fun i=>if i=c.ps.length then h else c.H i,mr:=fun i=>if i=c.ps.length then m else c.mr i }
theorem Dr.more_d (c:Dr) (p:Nat) (l t w h:Int) (m:Str):(c.more p l t w h m).d=.tuple ((List.range c.ps.length).map c.box++[.tuple [.str (c.nm (c.ps.length+1)),.str (c.nm p),.int l,.int t,.int w,.int h,.str m]]):=by
  unfold Dr.d
  have e:(c.more p l t w h m).ps.length=c.ps.length+1:=by unfold Dr.more; simp
  rw [e,List.range_succ,List.map_append]
  congr 2
  · refine List.map_congr_left fun i hi=>?_
    have hlt:=List.mem_range.mp hi
    have hne:i≠c.ps.length:=Nat.ne_of_lt hlt
    have hps:(c.ps++[p])[i]?=c.ps[i]?:=List.getElem?_append_left hlt
    unfold Dr.box Dr.more
    simp only [hne,if_false,List.getD_eq_getElem?_getD,hps]
  · unfold Dr.box Dr.more
    simp
theorem Dr.more_ok {c:Dr} (h:c.Ok) (hl:c.ps.length < 12) {p:Nat} (hp:p≤c.ps.length) (l t w g:Int) {m:Str} (hm:PyData.strOk m=true) (hb:bd l t w g) (hk:mkOk m):(c.more p l t w g m).Ok where
  inj:=h.inj
  top:=h.top
  ok:=h.ok
  okm:=fun i=>by
    unfold Dr.more
    dsimp only
    split
    · exact hm
    · exact h.okm i
  len:=by unfold Dr.more; simp; omega
  par:=fun i=>by
    unfold Dr.more
    dsimp only
    rw [List.getD_eq_getElem?_getD]
    by_cases hi:i < c.ps.length
    · rw [List.getElem?_append_left hi,← List.getD_eq_getElem?_getD]
      exact h.par i
    · by_cases he:i=c.ps.length
      · subst he
        rw [List.getElem?_append_right (Nat.le_refl _)]
        simpa using hp
      · rw [List.getElem?_eq_none (by simp; omega)]
        exact Nat.zero_le _
  bds:=fun i=>by
    unfold Dr.more
    dsimp only
    by_cases e:i=c.ps.length
    · rw [if_pos e,if_pos e,if_pos e,if_pos e]; exact hb
    · rw [if_neg e,if_neg e,if_neg e,if_neg e]; exact h.bds i
  mks:=fun i=>by
    unfold Dr.more
    dsimp only
    split
    · exact hk
    · exact h.mks i
end K53
namespace K53
open PySem L2 L2.PU
def sg4:Nat→Str:=fun j=>⟨#[[99,102,104,108].getD j 0]⟩
theorem cfhl:enS [.str "cfhl"]=some ([0,1,2,3].map fun (j:Nat)=>PyData.tuple [.int (j:Nat),.str (sg4 j)]):=by
  have e:("cfhl" : Str).cps.toList=[99,102,104,108]:=by decide +kernel
  unfold enS
  dsimp only
  unfold signD
  rw [e]
  rfl
theorem dbg:("dbgahcfe" : Str).cps.toList=let8:=by decide +kernel
theorem dbg_len:("dbgahcfe" : Str).length≤sizeLine:=by decide +kernel
theorem strOk_app {a b:Str} (ha:PyData.strOk a=true) (hb:PyData.strOk b=true):PyData.strOk (a++b)=true:=by
  unfold PyData.strOk at ha hb ⊢
  show (a.cps++b.cps).all _=true
  rw [Array.all_append,ha,hb]; rfl
theorem len_app (a b:Str):(a++b).length=a.length+b.length:=by
  show (a.cps++b.cps).size=_
  rw [Array.size_append]; rfl
theorem sg4_ok (j:Nat) (h:j∈[0,1,2,3]):PyData.strOk (sg4 j)=true:=by
  simp at h
  rcases h with rfl | rfl | rfl | rfl <;> decide +kernel
theorem mkS_false (bs:List Bool):mkS bs=mkS (false::bs):=by
  show mkS bs=mkS bs++("" : Str)
  apply str_ext
  show _=((mkS bs).cps++("" : Str).cps).toList
  have:("" : Str).cps=#[]:=by decide +kernel
  rw [this]; simp
theorem sg4_len (j:Nat):(sg4 j).length=1:=rfl
section
variable {ns:List Int} (hn:ns.length≤63)
include hn
theorem marks_ok {x1 x2 x3 x4 x6 x7 x8:Sl} {hh:Int} (h0:0≤hh) (s10 s11 s12:Sl):∃ (m:Str) (u v:Sl),(PyData.strOk m=true∧mkOk m) ∧
    sFor (fun η=>((aC (eC (.str "cfhl")) aN) η).bind enS) (tgT (tgCons (tgN 10) (tgCons (tgN 11) tgNil)))
    (sIf (bT (l2 pEq (lA F_qdrawn (aC (eV 0) (aC (l2 pAdd (l2 pAdd (eV 5) (eC (.int 5))) (eV 10)) (aC (l2 pIx (oE (fun η=>((aC (eC (.int 4)) (aC (eC (.int 2)) (aC (eC (.int 9)) (aC (eC (.int 6)) aN)))) η).bind gL)) (eV 10)) aN)))) (eC (.int 0)))) (sSet 9 (l2 pAdd (eV 9) (eV 11))) sNx)
      [.val (Sd ns),x1,x2,x3,x4,.val (.int hh),x6,x7,x8,.val (.str ""),s10,s11,s12]=some (.nx [.val (Sd ns),x1,x2,x3,x4,.val (.int hh),x6,x7,x8,.val (.str m),u,v,s12]):=by
  have inv:=sGo_all (t:=tgT (tgCons (tgN 10) (tgCons (tgN 11) tgNil)))
    (body:=(sIf (bT (l2 pEq (lA F_qdrawn (aC (eV 0) (aC (l2 pAdd (l2 pAdd (eV 5) (eC (.int 5))) (eV 10)) (aC (l2 pIx (oE (fun η=>((aC (eC (.int 4)) (aC (eC (.int 2)) (aC (eC (.int 9)) (aC (eC (.int 6)) aN)))) η).bind gL)) (eV 10)) aN)))) (eC (.int 0)))) (sSet 9 (l2 pAdd (eV 9) (eV 11))) sNx))
    (fun (j:Nat)=>PyData.tuple [.int (j:Nat),.str (sg4 j)])
    (fun done η=>∃ (m:Str) (u v:Sl),(PyData.strOk m=true∧∃ bs:List Bool,bs.length=done.length∧m=mkS bs)∧m.length≤done.length∧η=[.val (Sd ns),x1,x2,x3,x4,.val (.int hh),x6,x7,x8,.val (.str m),u,v,s12])
    [0,1,2,3] ?_ (η:=[.val (Sd ns),x1,x2,x3,x4,.val (.int hh),x6,x7,x8,.val (.str ""),s10,s11,s12]) ⟨"", s10,s11,⟨by decide +kernel,[],rfl,rfl⟩,by decide +kernel,rfl⟩
  · obtain ⟨η',e1,m,u,v,hm,_,rfl⟩:=inv
    refine ⟨m,u,v,⟨hm.1,hm.2⟩,for_of (ds:=[0,1,2,3].map fun (j:Nat)=>PyData.tuple [.int (j:Nat),.str (sg4 j)]) cfhl e1⟩
  · rintro done j rest η hall ⟨m,u,v,hm,hml,rfl⟩
    have hj:j∈[0,1,2,3]:=by rw [hall]; simp
    have hdl:done.length≤3:=by
      have:=congrArg List.length hall
      simp at this
      omega
    have hjd:j=done.length:=by
      match done,hall,hdl with
      | [],hall,_=>simp at hall; simp [hall.1]
      | [_],hall,_=>simp at hall; simp [hall.2.1]
      | [_,_],hall,_=>simp at hall; simp [hall.2.2.1]
      | [_,_,_],hall,_=>simp at hall; simp [hall.2.2.2.1]
    obtain ⟨hm,bs,hbs,hmm⟩:=hm
    have hmod:∃ q:Int,0 < q∧l2 pIx (oE (fun η=>((aC (eC (.int 4)) (aC (eC (.int 2)) (aC (eC (.int 9)) (aC (eC (.int 6)) aN)))) η).bind gL)) (eV 10) [.val (Sd ns),x1,x2,x3,x4,.val (.int hh),x6,x7,x8,.val (.str m),.val (.int (j:Nat)),.val (.str (sg4 j)),s12]=some (.int q):=by
      have eo:oE (fun η=>((aC (eC (.int 4)) (aC (eC (.int 2)) (aC (eC (.int 9)) (aC (eC (.int 6)) aN)))) η).bind gL) [.val (Sd ns),x1,x2,x3,x4,.val (.int hh),x6,x7,x8,.val (.str m),.val (.int (j:Nat)),.val (.str (sg4 j)),s12]=some (.list [.int 4,.int 2,.int 9,.int 6]):=by
        have:gL [.int 4,.int 2,.int 9,.int 6]=some [.int 4,.int 2,.int 9,.int 6]:=if_pos (by show 4≤sizeLine; decide)
        show Option.bind (gL [.int 4,.int 2,.int 9,.int 6]) _=_
        rw [this]; rfl
      simp at hj
      rcases hj with rfl | rfl | rfl | rfl
      · exact ⟨4,by decide,l2_of eo rfl rfl⟩
      · exact ⟨2,by decide,l2_of eo rfl rfl⟩
      · exact ⟨9,by decide,l2_of eo rfl rfl⟩
      · exact ⟨6,by decide,l2_of eo rfl rfl⟩
    obtain ⟨q,hq,eq⟩:=hmod
    obtain ⟨r,hr,er⟩:=drawn_ok hn (k:=hh+5+(j:Nat)) (m:=q) (by omega) hq
    have eb:bT (l2 pEq (lA F_qdrawn (aC (eV 0) (aC (l2 pAdd (l2 pAdd (eV 5) (eC (.int 5))) (eV 10)) (aC (l2 pIx (oE (fun η=>((aC (eC (.int 4)) (aC (eC (.int 2)) (aC (eC (.int 9)) (aC (eC (.int 6)) aN)))) η).bind gL)) (eV 10)) aN)))) (eC (.int 0)))
        [.val (Sd ns),x1,x2,x3,x4,.val (.int hh),x6,x7,x8,.val (.str m),.val (.int (j:Nat)),.val (.str (sg4 j)),s12]=some ((r:Int)==0) :=
      bT_of (l2_of (lA_of (aC_of rfl (aC_of (l2_of (l2_of rfl rfl rfl) rfl rfl) (aC_of eq rfl))) er) rfl (pEq_int _ _))
    refine ⟨[.val (Sd ns),x1,x2,x3,x4,.val (.int hh),x6,x7,x8,.val (.str m),.val (.int (j:Nat)),.val (.str (sg4 j)),s12],?_⟩
    by_cases h0:(r:Int)==0
    · refine ⟨[.val (Sd ns),x1,x2,x3,x4,.val (.int hh),x6,x7,x8,.val (.str (m++sg4 j)),.val (.int (j:Nat)),.val (.str (sg4 j)),s12],rfl,?_,m++sg4 j,_,_,⟨strOk_app hm (sg4_ok j hj),true::bs,by simp [hbs],by rw [hmm,hjd,← hbs]; rfl⟩,?_,rfl⟩
      · rw [if_of eb,if_pos h0]
        refine set_of (d:=.str (m++sg4 j)) (l2_of rfl rfl ?_)
        show (if m.length+(sg4 j).length≤sizeLine then some (PyData.str (m++sg4 j)) else none)=_
        rw [if_pos (by rw [sg4_len]; exact big (by omega))]
      · rw [len_app,sg4_len,List.length_append]
        simpa using hml
    · refine ⟨[.val (Sd ns),x1,x2,x3,x4,.val (.int hh),x6,x7,x8,.val (.str m),.val (.int (j:Nat)),.val (.str (sg4 j)),s12],rfl,?_,m,_,_,⟨hm,false::bs,by simp [hbs],by rw [hmm]; exact mkS_false bs⟩,?_,rfl⟩
      · rw [if_of eb,if_neg h0]; rfl
      · rw [List.length_append]; simp; omega
end
end K53
namespace K53
open PySem L2 L2.PU
theorem tup1_ok {ds:List PyData} (h:ds.length≤3000000):(if ds.length≤sizeLine then some (PyData.tuple ds) else none)=some (.tuple ds):=if_pos (big h)
theorem gL_ok {ds:List PyData} (h:ds.length≤3000000):gL ds=some ds:=if_pos (big h)
theorem addL {a b:List PyData} (h:a.length+b.length≤3000000):pAdd (.list a) (.list b)=some (.list (a++b)):=if_pos (big h)
theorem addT {a b:List PyData} (h:a.length+b.length≤3000000):pAdd (.tuple a) (.tuple b)=some (.tuple (a++b)):=if_pos (big h)
theorem oE_of {f:En→Option (List PyData)} {η:En} {ds:List PyData} (h:f η=some ds):oE f η=some (.list ds):=by
  unfold oE
  rw [h]; rfl
theorem comp_eq {mp:List (Option Nat)} {fi:En→Option (List PyData)} {t:En→PyData→Option En} {p:En→Option Bool} {f:En→Option PyData} {η:En} {ds:List PyData} {r:Option (List PyData)} (h1:fi η=some ds) (hz:ds.length≤3000000) (h2:cGo t p f (inEn mp η) ds=r):sComp mp fi t p f η=r:=by
  unfold sComp
  rw [h1,Option.bind_some,if_pos (big hz)]
  exact h2
def sBody (fn_qdrawn:PFn):En→Option Out :=
  (sSeq (sSet 5 (l2 pAdd (l2 pAdd (eV 1) (eC (.int 3))) (l2 pMul (eC (.int 9)) (eV 4))))
    (sSeq (sSet 6 (l2 pIx (l2 pAdd (oE (fun η=>((aC (eC (.str "")) aN) η).bind gL)) (oE (sComp [none] (lI asTu (eV 2)) (tgN 0) tTrue (l2 pIx (eV 0) (eC (.int 0)))))) (lA fn_qdrawn (aC (eV 0) (aC (eV 5) (aC (l2 pAdd (eV 4) (eC (.int 1))) aN))))))
    (sSeq (sSetO 7 (sComp [none,some 0,some 5] (fun η=>((aC (eC (.int 2)) aN) η).bind rng1) (tgN 0) tTrue (l2 pSub (lA fn_qdrawn (aC (eV 1) (aC (l2 pAdd (l2 pAdd (eV 2) (eC (.int 1))) (eV 0)) (aC (eC (.int 9)) aN)))) (eC (.int 3)))))
    (fun η=>(sSeq (sSetO 8 (sComp [none,some 0,some 5] (fun η=>((aC (eC (.int 2)) aN) η).bind rng1) (tgN 0) tTrue (lA fn_qdrawn (aC (eV 1) (aC (l2 pAdd (l2 pAdd (eV 2) (eC (.int 3))) (eV 0)) (aC (eC (.int 9)) aN))))))
    (fun η=>(sSeq (sSet 9 (eC (.str "")))
    (sSeq (sFor (fun η=>((aC (eC (.str "cfhl")) aN) η).bind enS) (tgT (tgCons (tgN 10) (tgCons (tgN 11) tgNil)))
    (sIf (bT (l2 pEq (lA fn_qdrawn (aC (eV 0) (aC (l2 pAdd (l2 pAdd (eV 5) (eC (.int 5))) (eV 10)) (aC (l2 pIx (oE (fun η=>((aC (eC (.int 4)) (aC (eC (.int 2)) (aC (eC (.int 9)) (aC (eC (.int 6)) aN)))) η).bind gL)) (eV 10)) aN)))) (eC (.int 0)))) (sSet 9 (l2 pAdd (eV 9) (eV 11))) sNx))
    (sSeq (sSet 12 (l2 pIx (eC (.str "dbgahcfe")) (l2 pMod (l2 pAdd (eV 4) (eV 3)) (eC (.int 8)))))
    (sSet 2 (l2 pAdd (eV 2) (lA (fun ds=>if ds.length≤sizeLine then some (.tuple ds) else none) (aC (l2 pAdd (l2 pAdd (lA (fun ds=>if ds.length≤sizeLine then some (.tuple ds) else none) (aC (eV 12) (aC (eV 6) aN))) (lA pTup (aC (l2 pAdd (eV 7) (eV 8)) aN))) (lA (fun ds=>if ds.length≤sizeLine then some (.tuple ds) else none) (aC (eV 9) aN))) aN))))))) (frz 8 η))) (frz 7 η)))))
section
variable {ns:List Int} (hn:ns.length≤63)
include hn
theorem two_ok {f:En→Option PyData} {η:En} {mp:List (Option Nat)} (lo hi:Int) (h:∀ k:Nat,k < 2→∃ y,(lo≤y∧y≤hi)∧f ((inEn mp η).set 0 (.val (.int (0+(k:Nat)))))=some (.int y)):∃ a b:Int,((lo≤a∧a≤hi)∧(lo≤b∧b≤hi))∧sComp mp (fun η=>((aC (eC (.int 2)) aN) η).bind rng1) (tgN 0) tTrue f η=some [.int a,.int b]:=by
  obtain ⟨a,ha,ea⟩:=h 0 (by decide)
  obtain ⟨b,hb,eb⟩:=h 1 (by decide)
  refine ⟨a,b,⟨ha,hb⟩,comp_eq (ds:=rngL 0 2) (rng1_ok (j:=2) (by decide) (by decide)) (by decide) ?_⟩
  have:=cGo_map (t:=tgN 0) (p:=tTrue) (f:=f) (η:=inEn mp η) (fun (k:Nat)=>PyData.int (0+(k:Nat))) (fun _=>true) (fun k=>.int (if k=0 then a else b)) (List.range 2) fun k hk=>by
    refine ⟨_,rfl,rfl,fun _=>?_⟩
    have hk:=List.mem_range.mp hk
    rcases (show k=0∨k=1 by omega) with rfl | rfl
    · exact ea
    · exact eb
  exact this
theorem scene_ok:∃ (c:Dr) (tn:Nat),c.Ok∧c.nm=nmT tn∧c.ps.length≤7∧F_qscene [Sd ns,.int 0]=some c.d:=by
  obtain ⟨tn,htn,et⟩:=drawn_ok hn (k:=0+1) (m:=8) (by decide) (by decide)
  obtain ⟨n,hnn,en⟩:=drawn_ok hn (k:=0) (m:=8) (by decide) (by decide)
  have main:=sGo_rng (t:=tgN 4) (body:=sBody F_qdrawn) (fun k η=>∃ (c:Dr) (s4 s5 s6 s7 s8 s9 s10 s11 s12:Sl),c.Ok∧c.nm=nmT tn∧c.ps.length=k∧η=[.val (Sd ns),.val (.int 0),.val c.d,.val (.int tn),s4,s5,s6,s7,s8,s9,s10,s11,s12]) n ?st
    (η:=[.val (Sd ns),.val (.int 0),.val (.tuple []),.val (.int tn),.un,.un,.un,.un,.un,.un,.un,.un,.un]) ⟨⟨[],nmT tn,fun _=>0,fun _=>0,fun _=>0,fun _=>0,fun _ => ""⟩,.un,.un,.un,.un,.un,.un,.un,.un,.un,
      ⟨nmT_inj tn,rfl,nmT_ok tn,fun _=>nmT_ok 0 0,by simp,fun _=>by simp,fun _=>by show bd 0 0 0 0; unfold bd; decide,fun _=>⟨[false,false,false,false],rfl,by show ("" : Str)=mkS [false,false,false,false]; decide +kernel⟩⟩,rfl,rfl,rfl⟩
  case st =>
    rintro k η hk ⟨c,s4,s5,s6,s7,s8,s9,s10,s11,s12,hc,hnm,hlen,rfl⟩
    have hk7:k < 7:=by omega
    refine ⟨[.val (Sd ns),.val (.int 0),.val c.d,.val (.int tn),.val (.int (0+(k:Nat))),s5,s6,s7,s8,s9,s10,s11,s12],?_⟩
    have hh:l2 pAdd (l2 pAdd (eV 1) (eC (.int 3))) (l2 pMul (eC (.int 9)) (eV 4)) [.val (Sd ns),.val (.int 0),.val c.d,.val (.int tn),.val (.int (0+(k:Nat))),s5,s6,s7,s8,s9,s10,s11,s12]=some (.int (0+3+9*(0+(k:Nat)))) :=
      l2_of (l2_of rfl rfl rfl) (l2_of rfl rfl (pMul_ok (mulL (by decide) (by decide)))) rfl
    generalize hhe:(0+3+9*(0+(k:Nat)):Int)=hr at hh
    have hr0:0≤hr:=by omega
    obtain ⟨p,hp,ep⟩:=drawn_ok hn (k:=hr) (m:=0+(k:Nat)+1) hr0 (by omega)
    have hp':p≤k:=by omega
    have ea:l2 pIx (l2 pAdd (oE (fun η=>((aC (eC (.str "")) aN) η).bind gL)) (oE (sComp [none] (lI asTu (eV 2)) (tgN 0) tTrue (l2 pIx (eV 0) (eC (.int 0)))))) (lA F_qdrawn (aC (eV 0) (aC (eV 5) (aC (l2 pAdd (eV 4) (eC (.int 1))) aN))))
        [.val (Sd ns),.val (.int 0),.val c.d,.val (.int tn),.val (.int (0+(k:Nat))),.val (.int hr),s6,s7,s8,s9,s10,s11,s12]=some (c.s p):=by
      have e1:oE (fun η=>((aC (eC (.str "")) aN) η).bind gL) [.val (Sd ns),.val (.int 0),.val c.d,.val (.int tn),.val (.int (0+(k:Nat))),.val (.int hr),s6,s7,s8,s9,s10,s11,s12]=some (.list [c.s 0]):=by
        refine oE_of ?_
        show gL [.str ""]=_
        rw [gL_ok (by decide)]
        unfold Dr.s
        rw [hc.top]
      have e2:oE (sComp [none] (lI asTu (eV 2)) (tgN 0) tTrue (l2 pIx (eV 0) (eC (.int 0)))) [.val (Sd ns),.val (.int 0),.val c.d,.val (.int tn),.val (.int (0+(k:Nat))),.val (.int hr),s6,s7,s8,s9,s10,s11,s12]=some (.list ((List.range k).map fun i=>c.s (i+1))):=by
        refine oE_of (comp_eq (ds:=(List.range c.ps.length).map c.box) rfl (by rw [List.length_map,List.length_range]; omega) ?_)
        rw [hlen]
        have:=cGo_map (t:=tgN 0) (p:=tTrue) (f:=l2 pIx (eV 0) (eC (.int 0))) (η:=[.un]) c.box (fun _=>true) (fun i=>c.s (i+1)) (List.range k) fun i _=>⟨_,rfl,rfl,fun _=>rfl⟩
        rw [show (List.range k).filter (fun _=>true)=List.range k by simp] at this
        exact this
      refine l2_of (l2_of e1 e2 (addL (by simp; omega))) (lA_of (aC_of rfl (aC_of rfl (aC_of (l2_of rfl rfl rfl) rfl))) ep) ?_
      show atI ([c.s 0]++(List.range k).map fun i=>c.s (i+1)) (p:Int)=_
      refine atI_nat ?_
      cases p with
      | zero=>rfl
      | succ j =>
        show ((List.range k).map fun i=>c.s (i+1))[j]?=_
        rw [List.getElem?_map,List.getElem?_range (by omega)]
        rfl
    obtain ⟨pa,pb,hbp,epl⟩:=two_ok hn (-3) 5 (mp:=[none,some 0,some 5]) (f:=l2 pSub (lA F_qdrawn (aC (eV 1) (aC (l2 pAdd (l2 pAdd (eV 2) (eC (.int 1))) (eV 0)) (aC (eC (.int 9)) aN)))) (eC (.int 3)))
      (η:=[.val (Sd ns),.val (.int 0),.val c.d,.val (.int tn),.val (.int (0+(k:Nat))),.val (.int hr),.val (c.s p),s7,s8,s9,s10,s11,s12]) fun j hj=>by
        obtain ⟨r,hr9,er⟩:=drawn_ok hn (k:=hr+1+(0+(j:Nat))) (m:=9) (by omega) (by decide)
        exact ⟨(r:Int) - 3,by omega,l2_of (lA_of (aC_of rfl (aC_of (l2_of (l2_of rfl rfl rfl) rfl rfl) (aC_of rfl rfl))) er) rfl rfl⟩
    obtain ⟨sa,sb,hbs,esz⟩:=two_ok hn 0 8 (mp:=[none,some 0,some 5]) (f:=lA F_qdrawn (aC (eV 1) (aC (l2 pAdd (l2 pAdd (eV 2) (eC (.int 3))) (eV 0)) (aC (eC (.int 9)) aN))))
      (η:=[.val (Sd ns),.val (.int 0),.val c.d,.val (.int tn),.val (.int (0+(k:Nat))),.val (.int hr),.val (c.s p),.val (.list [.int pa,.int pb]),s8,s9,s10,s11,s12]) fun j hj=>by
        obtain ⟨r,hr9,er⟩:=drawn_ok hn (k:=hr+3+(0+(j:Nat))) (m:=9) (by omega) (by decide)
        exact ⟨(r:Int),by omega,lA_of (aC_of rfl (aC_of (l2_of (l2_of rfl rfl rfl) rfl rfl) (aC_of rfl rfl))) er⟩
    obtain ⟨m,u,v,hm,em⟩:=marks_ok hn (x1:=.val (.int 0)) (x2:=.val c.d) (x3:=.val (.int tn)) (x4:=.val (.int (0+(k:Nat)))) (x6:=.val (c.s p)) (x7:=.val (.list [.int pa,.int pb])) (x8:=.val (.list [.int sa,.int sb])) hr0 s10 s11 s12
    have enm:l2 pIx (eC (.str "dbgahcfe")) (l2 pMod (l2 pAdd (eV 4) (eV 3)) (eC (.int 8))) [.val (Sd ns),.val (.int 0),.val c.d,.val (.int tn),.val (.int (0+(k:Nat))),.val (.int hr),.val (c.s p),.val (.list [.int pa,.int pb]),.val (.list [.int sa,.int sb]),.val (.str m),u,v,s12]=some (c.s (k+1)):=by
      refine l2_of rfl (l2_of (l2_of rfl rfl rfl) rfl (pMod_ok (by decide))) ?_
      show (if ("dbgahcfe" : Str).length≤sizeLine then (atI ("dbgahcfe" : Str).cps.toList ((0+(k:Nat)+(tn:Int)) % 8)).bind _ else none)=_
      rw [if_pos dbg_len,dbg]
      have e8:((0+(k:Nat)+(tn:Int)) % 8:Int)=(((k+tn) % 8:Nat):Int):=by omega
      have hlt:(k+tn) % 8 < 8:=Nat.mod_lt _ (by decide)
      rw [e8,atI_nat (v:=let8.getD ((k+tn) % 8) 0) (by rw [List.getD_eq_getElem?_getD,List.getElem?_eq_getElem (show (k+tn) % 8 < let8.length from hlt)]; rfl)]
      unfold Dr.s
      rw [hnm,nmT_lo (by omega)]
      rfl
    have hcd:c.d=.tuple ((List.range c.ps.length).map c.box):=rfl
    have efin:l2 pAdd (eV 2) (lA (fun ds=>if ds.length≤sizeLine then some (.tuple ds) else none) (aC (l2 pAdd (l2 pAdd (lA (fun ds=>if ds.length≤sizeLine then some (.tuple ds) else none) (aC (eV 12) (aC (eV 6) aN))) (lA pTup (aC (l2 pAdd (eV 7) (eV 8)) aN))) (lA (fun ds=>if ds.length≤sizeLine then some (.tuple ds) else none) (aC (eV 9) aN))) aN))
        [.val (Sd ns),.val (.int 0),.val c.d,.val (.int tn),.val (.int (0+(k:Nat))),.val (.int hr),.val (c.s p),.val (.list [.int pa,.int pb]),.val (.list [.int sa,.int sb]),.val (.str m),u,v,.val (c.s (k+1))]=some (c.more p pa pb sa sb m).d:=by
      rw [Dr.more_d]
      refine l2_of (x:=c.d) rfl (lA_of (aC_of (l2_of (l2_of (lA_of (aC_of rfl (aC_of rfl rfl)) (tup1_ok (by simp))) (lA_of (aC_of (l2_of rfl rfl (addL (by simp))) rfl) rfl) (addT (by simp))) (lA_of (aC_of rfl rfl) (tup1_ok (by simp))) (addT (by simp))) rfl) (tup1_ok (by simp))) ?_
      rw [hcd]
      refine (addT (by simp; omega)).trans ?_
      rw [hlen]
      rfl
    refine ⟨[.val (Sd ns),.val (.int 0),.val (c.more p pa pb sa sb m).d,.val (.int tn),.val (.int (0+(k:Nat))),.val (.int hr),.val (c.s p),.val (.list [.int pa,.int pb]),.val (.list [.int sa,.int sb]),.val (.str m),u,v,.val (c.s (k+1))],rfl,?_,
      c.more p pa pb sa sb m,_,_,_,_,_,_,_,_,_,Dr.more_ok hc (by omega) (by omega) pa pb sa sb hm.1 ⟨hbp.1,hbp.2,hbs.1,hbs.2⟩ hm.2,hnm,by simp [Dr.more,hlen],rfl⟩
    refine seq_of (set_of hh) (seq_of (set_of ea) (seq_of (setO_of epl) ?_))
    refine seq_of (setO_of esz) ?_
    refine seq_of (set_of rfl) (seq_of em (seq_of (set_of enm) (set_of efin)))
  obtain ⟨η',e1,c,s4,s5,s6,s7,s8,s9,s10,s11,s12,hc,hnm,hlen,rfl⟩:=main
  refine ⟨c,tn,hc,hnm,by omega,?_⟩
  unfold F_qscene runF
  rw [if_pos (by rfl)]
  show Option.bind (g_qscene F_qdrawn [.val (Sd ns),.val (.int 0),.un,.un,.un,.un,.un,.un,.un,.un,.un,.un,.un]) _=_
  have e2:g_qscene F_qdrawn [.val (Sd ns),.val (.int 0),.un,.un,.un,.un,.un,.un,.un,.un,.un,.un,.un]=some (.rt c.d):=by
    refine seq_of (set_of (lA_of rfl (tup1_ok (by decide)))) (seq_of (set_of (lA_of (aC_of rfl (aC_of (l2_of rfl rfl rfl) (aC_of rfl rfl))) et)) (seq_of (for_of ?_ e1) rfl))
    show Option.bind (aC (lA F_qdrawn _) aN _) rng1=_
    rw [aC_of (lA_of (aC_of rfl (aC_of rfl (aC_of rfl rfl))) en) rfl]
    rw [Option.bind_some,rng1_ok (by omega) (by omega),Int.toNat_natCast]
  rw [e2]; rfl
end
end K53
namespace K53
open PySem L2 L2.PU
theorem shaped_strs {ss:List Str} (h:∀ s∈ss,PyData.strOk s=true):SeqAt.shaped (.list (ss.map PyData.str))=true:=by
  have h1:PyData.canLayAll0 (ss.map PyData.str)=true:=by
    induction ss with
    | nil=>rfl
    | cons x r ih=>simp [PyData.canLayAll0,PyData.canLay0,h x List.mem_cons_self,ih fun s hs=>h s (List.mem_cons_of_mem _ hs)]
  have h2:PyData.depthAll (ss.map PyData.str)=0:=by
    clear h h1
    induction ss with
    | nil=>rfl
    | cons x r ih=>simp [PyData.depthAll,PyData.depth,ih]
  simp [SeqAt.shaped,PyData.canLay0,PyData.depth,h1,h2]
theorem ifF {c:En→Option Bool} {f g:En→Option Out} {η:En} (h:c η=some false):sIf c f g η=g η:=by
  rw [if_of h]; rfl
theorem vIf_of {c:En→Option Bool} {f g:En→Option PyData} {η:En} {b:Bool} (h:c η=some b):vIf c f g η=if b=true then f η else g η:=by
  unfold vIf
  rw [h]; rfl
theorem eSl_of {f:En→Option PyData} {fl fh:En→Option (Option Int)} {η:En} {x d:PyData} {l h:Option Int} (h1:f η=some x) (h2:fl η=some l) (h3:fh η=some h) (h4:pSl x l h=some d):eSl f fl fh η=some d:=by
  unfold eSl
  rw [h1,Option.bind_some,h2,Option.bind_some,h3]; exact h4
theorem pS_of {f:En→Option PyData} {η:En} {i:Int} (h:f η=some (.int i)):pS f η=some (some i):=by
  unfold pS
  rw [h]; rfl
theorem lI_of {k:PyData→Option (List PyData)} {f:En→Option PyData} {η:En} {d:PyData} {ds:List PyData} (h:f η=some d) (h2:k d=some ds):lI k f η=some ds:=by
  unfold lI
  rw [h]; exact h2
section
variable {c:Sc} (h:c.Ok)
theorem flat_all (l:List Nat):(l.map c.s).all flatD=true:=by
  rw [List.all_map,List.all_eq_true]
  intro x _
  rfl
include h
theorem eqv_s (a b:Nat):PyData.eqv (c.s a) (c.s b)=decide (a=b):=by
  unfold Sc.s PyData.eqv
  rw [str_dec,h.dec]
theorem any_s (x:Nat) (l:List Nat):((l.map c.s).any fun y=>PyData.eqv y (c.s x))=decide (x∈l):=by
  induction l with
  | nil=>simp
  | cons y r ih =>
    rw [List.map_cons,List.any_cons,ih,eqv_s h]
    by_cases e:y=x
    · subst e; simp
    · have:¬ x=y:=fun z=>e z.symm
      simp [e,this]
theorem pIn_s (neg:Bool) (x:Nat) (l:List Nat):pIn neg (c.s x) (c.S l)=some (.bool (if neg then !decide (x∈l) else decide (x∈l))):=by
  unfold pIn Sc.S
  dsimp only
  rw [if_pos ⟨rfl,flat_all l⟩,any_s h]
theorem pIdx_s {x:Nat} {l:List Nat} (hx:x∈l):pIdx (c.S l) (c.s x)=some (.int ((l.idxOf x:Nat):Int)):=by
  unfold pIdx Sc.S
  dsimp only
  rw [if_pos ⟨rfl,flat_all l⟩]
  have:(l.map c.s).findIdx? (fun z=>PyData.eqv z (c.s x))=some (l.idxOf x):=by
    induction l with
    | nil=>cases hx
    | cons y r ih =>
      rw [List.map_cons,List.findIdx?_cons,eqv_s h,List.idxOf_cons]
      by_cases e:y=x
      · subst e; simp
      · have hr:x∈r:=by
          rcases List.mem_cons.mp hx with z | z
          · exact absurd z.symm e
          · exact z
        rw [ih hr]
        have e':(y==x)=false:=by simpa using e
        simp [e,e']
  rw [this]; rfl
omit h in
theorem cut_to {α:Type} (xs:List α) (k:Nat):cutL xs none (some (k:Int))=xs.take k:=by
  unfold cutL
  rw [HT.sIx_none,HT.sIx_nat,List.drop_zero,Nat.sub_zero]
  exact List.take_eq_take_iff.mpr (by omega)
end
end K53
namespace K53
open PySem L2 L2.PU
def Sc.on (c:Sc) (st:List (Nat×Nat)):Sc:={ c with st:=st }
def updI (f:Nat→Int) (q:Nat) (v:Int):Nat→Int:=fun x=>if x=q then v else f x
def Sc.put (c:Sc) (q:Nat) (l t:Int):Sc:={ c with L:=updI c.L q l,T:=updI c.T q t }
def Sc.mark (c:Sc) (q:Nat) (m:Str):Sc:={ c with mr:=fun x=>if x=q then m else c.mr x }
section
variable {c:Sc} (h:c.Ok)
include h
theorem pick_eq (neg:Bool) (g:List Nat) (η:En) (h0:eV 0 η=some c.d) (h2:eV 2 η=some (c.S g)) (hi:inEn [none,some 2] η=[.un,.val (c.S g)]) :
    lA pTup (aC (oE (sComp [none,some 2] (lI asTu (eV 0)) (tgN 0) (bT (l2 (pIn neg) (l2 pIx (eV 0) (eC (.int 0))) (eV 1))) (eV 0))) aN) η=some (.tuple ((c.st.filter fun x=>if neg then !decide (x.1∈g) else decide (x.1∈g)).map c.box)):=by
  have e:sComp [none,some 2] (lI asTu (eV 0)) (tgN 0) (bT (l2 (pIn neg) (l2 pIx (eV 0) (eC (.int 0))) (eV 1))) (eV 0) η=some ((c.st.filter fun x=>if neg then !decide (x.1∈g) else decide (x.1∈g)).map c.box):=by
    show Option.bind (Option.bind (eV 0 η) asTu) _=_
    rw [h0]
    show (if (c.st.map c.box).length≤sizeLine then cGo _ _ _ (inEn [none,some 2] η) _ else none)=_
    rw [if_pos (size_d h),hi]
    refine cGo_map c.box (fun x=>if neg then !decide (x.1∈g) else decide (x.1∈g)) c.box _ fun x _=>⟨_,rfl,?_,fun _=>rfl⟩
    show (pIn neg (c.s x.1) (c.S g)).bind asB=_
    rw [pIn_s h]; rfl
  show Option.bind (Option.bind (Option.bind (sComp _ _ _ _ _ η) _) _) _=_
  rw [e]; rfl
theorem F_cut_eq {q:Nat} {st:List (Nat×Nat)} (e:cutN c.st q=some st):F_cut [c.d,c.s q]=some (c.on st).d:=by
  obtain ⟨g,hg,e⟩:=bind_some e
  cases e
  unfold F_cut runF
  rw [if_pos (by rfl)]
  show (g_cut (F_below 13) [.val c.d,.val (c.s q),.un]).bind _=_
  have e1:sSet 2 (lA (F_below 13) (aC (eV 0) (aC (eV 1) aN))) [.val c.d,.val (c.s q),.un]=some (.nx [.val c.d,.val (c.s q),.val (c.S g)]):=by
    show ((F_below 13 [c.d,c.s q])).bind _=_
    rw [F_below_eq h 13 q g hg]; rfl
  unfold g_cut sSeq
  rw [e1,Option.bind_some]
  have e2:=pick_eq h true g [.val c.d,.val (c.s q),.val (c.S g)] rfl rfl rfl
  show Option.bind (Option.bind (lA _ _ _) _) _=_
  rw [e2]; rfl
theorem F_raised_eq {q:Nat} {st:List (Nat×Nat)} (e:raiN c.st q=some st):F_raised [c.d,c.s q]=some (c.on st).d:=by
  obtain ⟨g,hg,e⟩:=bind_some e
  cases e
  unfold F_raised runF
  rw [if_pos (by rfl)]
  show (g_raised (F_below 13) F_cut [.val c.d,.val (c.s q),.un]).bind _=_
  have e1:sSet 2 (lA (F_below 13) (aC (eV 0) (aC (eV 1) aN))) [.val c.d,.val (c.s q),.un]=some (.nx [.val c.d,.val (c.s q),.val (c.S g)]):=by
    show ((F_below 13 [c.d,c.s q])).bind _=_
    rw [F_below_eq h 13 q g hg]; rfl
  unfold g_raised sSeq
  rw [e1,Option.bind_some]
  have e2:=pick_eq h false g [.val c.d,.val (c.s q),.val (c.S g)] rfl rfl rfl
  have e3:F_cut [c.d,c.s q]=some (c.on (c.st.filter fun x=>!decide (x.1∈g))).d:=F_cut_eq h (by unfold cutN; rw [hg]; rfl)
  show Option.bind (Option.bind (Option.bind (F_cut [c.d,c.s q]) _) _) _=_
  rw [e3,Option.bind_some,e2]
  show Option.bind (Option.bind (pAdd (.tuple (List.map c.box (c.st.filter fun x=>!decide (x.1∈g)))) (.tuple (List.map c.box (c.st.filter fun x=>decide (x.1∈g))))) _) _=_
  have l1:=List.length_filter_le (fun x:Nat×Nat=>!decide (x.1∈g)) c.st
  have l2:=List.length_filter_le (fun x:Nat×Nat=>decide (x.1∈g)) c.st
  have l3:=h.len
  unfold pAdd
  dsimp only
  rw [if_pos (by rw [List.length_map,List.length_map]; exact big (by omega)),← List.map_append]
  rfl
theorem F_other_eq {c':Sc} {q p:Nat} (hs:c'.st=c.st) (hn:c'.nm=c.nm) (hu:∀ x∈c.st,x.1=q→x.2=p) (hb:∀ x∈c.st,x.1≠q→c'.box x=c.box x):F_with_other [c.d,c'.box (q,p)]=some c'.d:=by
  unfold F_with_other runF
  rw [if_pos (by rfl)]
  show (g_with_other [.val c.d,.val (c'.box (q,p))]).bind _=_
  have e:sComp [none,some 1] (lI asTu (eV 0)) (tgN 0) tTrue (vIf (bT (l2 pEq (l2 pIx (eV 0) (eC (.int 0))) (l2 pIx (eV 1) (eC (.int 0))))) (eV 1) (eV 0)) [.val c.d,.val (c'.box (q,p))]=some (c.st.map c'.box):=by
    show (if (c.st.map c.box).length≤sizeLine then cGo _ _ _ _ _ else none)=_
    rw [if_pos (size_d h)]
    have:=cGo_map (t:=tgN 0) (p:=tTrue) (f:=vIf (bT (l2 pEq (l2 pIx (eV 0) (eC (.int 0))) (l2 pIx (eV 1) (eC (.int 0))))) (eV 1) (eV 0)) (η:=[.un,.val (c'.box (q,p))]) c.box (fun _=>true) c'.box c.st fun x hx=>⟨_,rfl,rfl,fun _=>?_⟩
    · rw [show c.st.filter (fun _=>true)=c.st by simp] at this
      exact this
    · have eb:bT (l2 pEq (l2 pIx (eV 0) (eC (.int 0))) (l2 pIx (eV 1) (eC (.int 0)))) [.val (c.box x),.val (c'.box (q,p))]=some (decide (x.1=q)):=by
        show (pEq (c.s x.1) (.str (c'.nm q))).bind asB=_
        rw [hn]
        show (pEq (c.s x.1) (c.s q)).bind asB=_
        rw [h.eqs]; rfl
      show vIf _ _ _ [.val (c.box x),.val (c'.box (q,p))]=_
      rw [vIf_of eb]
      by_cases e:x.1=q
      · rw [if_pos (by simpa using e)]
        have:x=(q,p):=by
          have:=hu x hx e
          cases x; simp at e this; simp [e,this]
        rw [this]; rfl
      · rw [if_neg (by simpa using e),hb x hx e]; rfl
  unfold g_with_other sRet
  show Option.bind (Option.bind (Option.bind (Option.bind (Option.bind (sComp _ _ _ _ _ _) _) _) _) _) _=_
  rw [e]
  show some (PyData.tuple _)=some (Sc.d c')
  unfold Sc.d
  rw [hs]
theorem F_mark_eq {q p:Nat} {m:Str} (hp:parN c.st q=some p) (hu:∀ x∈c.st,x.1=q→x.2=p):F_marked [c.d,c.s q,.str m]=some (c.mark q m).d:=by
  have e1:=F_box_eq h hp
  have e2:F_with_other [c.d,(c.mark q m).box (q,p)]=some (c.mark q m).d:=F_other_eq h rfl rfl hu fun x _ hx=>by
    unfold Sc.box Sc.mark
    dsimp only
    rw [if_neg hx]
  unfold F_marked runF
  rw [if_pos (by rfl)]
  show (g_marked F_box_of F_with_other [.val c.d,.val (c.s q),.val (.str m),.un]).bind _=_
  unfold g_marked sSeq
  show Option.bind (Option.bind (Option.bind (F_box_of [c.d,c.s q]) _) _) _=_
  rw [e1]
  have e3:(c.mark q m).box (q,p)=.tuple [.str (c.nm q),.str (c.nm p),.int (c.L q),.int (c.T q),.int (c.W q),.int (c.H q),.str m]:=by
    unfold Sc.box Sc.mark
    dsimp only
    rw [if_pos rfl]
  rw [e3] at e2
  show Option.bind (Option.bind (F_with_other [c.d,.tuple [.str (c.nm q),.str (c.nm p),.int (c.L q),.int (c.T q),.int (c.W q),.int (c.H q),.str m]]) _) _=_
  rw [e2]; rfl
end
end K53
namespace K53
open PySem L2 L2.PU
theorem bind_of {α β:Type} {o:Option α} {k:α→Option β} {x:α} {r:Option β} (h:o=some x) (h2:k x=r):o.bind k=r:=by
  rw [h]; exact h2
theorem pNe_self {d:PyData} (h:SeqAt.shaped d=true):pNe d d=some (.bool false):=by
  unfold pNe
  rw [if_pos ⟨h,h⟩,SeqAt.eqv_refl d (SeqAt.canLay_of_shaped h)]; rfl
theorem ifN {c:En→Option Bool} {f:En→Option Out} {η:En} (h:c η=some false):sIf c f sNx η=some (.nx η):=by
  rw [ifF h]; rfl
theorem bNot_of {f:En→Option Bool} {η:En} {b:Bool} (h:f η=some b):bNot f η=some (!b):=by
  unfold bNot
  rw [h]; rfl
theorem bAnd_of {f g:En→Option Bool} {η:En} {a b:Bool} (h1:f η=some a) (h2:g η=some b):bAnd f g η=some (a&&b):=by
  unfold bAnd
  rw [h1]
  cases a with
  | false=>rfl
  | true=>exact h2
theorem run_of {n m:Nat} {g:En→Option Out} {ds:List PyData} {d:PyData} (hl:ds.length=n) (h:g (ds.map Sl.val++List.replicate (m - n) .un)=some (.rt d)):runF n m g ds=some d:=by
  unfold runF
  rw [if_pos hl,h]; rfl
theorem ret_of {f:En→Option PyData} {η:En} {d:PyData} (h:f η=some d):sRet f η=some (.rt d):=by
  unfold sRet
  rw [h]; rfl
theorem cGo_mapT {ι:Type} {t:En→PyData→Option En} {f:En→Option PyData} {η:En} (D:ι→PyData) (Y:ι→PyData) (xs:List ι) (h:∀ x∈xs,∃ η1,t η (D x)=some η1∧f η1=some (Y x)):cGo t tTrue f η (xs.map D)=some (xs.map Y):=by
  have:=cGo_map (t:=t) (p:=tTrue) (f:=f) (η:=η) D (fun _=>true) Y xs fun x hx=>by
    obtain ⟨η1,h1,h2⟩:=h x hx
    exact ⟨η1,h1,rfl,fun _=>h2⟩
  rw [show xs.filter (fun _=>true)=xs by simp] at this
  exact this
theorem pAny_of (bs:List Bool):pAny [.list (bs.map PyData.bool)]=some (.bool (bs.any id)):=by
  unfold pAny pBools
  dsimp only
  rw [asBs_bools]; rfl
structure Tr (c:Sc) (ps:List Nat):Prop where
  ok:c.Ok
  st:c.st=stF ps
  ps:PsOk ps
theorem parN_filter {q p:Nat}:∀ {st:List (Nat×Nat)},parN st q=some p→∃ r,st.filter (fun x=>decide (x.1=q))=(q,p)::r
  | x::r,h=>by
    unfold parN at h
    by_cases e:x.1=q
    · rw [if_pos e] at h
      cases h
      refine ⟨r.filter fun x=>decide (x.1=q),?_⟩
      rw [List.filter_cons,if_pos (by simpa using e)]
      subst e; rfl
    · rw [if_neg e] at h
      obtain ⟨s,hs⟩:=parN_filter h
      refine ⟨s,?_⟩
      rw [List.filter_cons,if_neg (by simpa using e),hs]
theorem ix0 (d:PyData) (l:List PyData):pIx (.list (d::l)) (.int 0)=some d:=by
  show atI (d::l) ((0:Nat):Int)=_
  exact atI_nat rfl
section
variable {c:Sc} {ps:List Nat} (t:Tr c ps)
include t
theorem T_box {q:Nat} (hq:In ps q):F_box_of [c.d,c.s q]=some (c.box (q,par ps q)):=F_box_eq t.ok (by rw [t.st]; exact parN_st hq.1 hq.2)
theorem in_12 {q:Nat} (hq:In ps q):q≤12:=Nat.le_trans hq.2 t.ps.len
theorem L_box {q:Nat} (hq:In ps q):F_qbox [c.d,c.s q]=some (c.box (q,par ps q)):=by
  obtain ⟨r,hr⟩:=parN_filter (parN_st (ps:=ps) hq.1 hq.2)
  rw [← t.st] at hr
  have e:sComp [none,some 1] (lI asTu (eV 0)) (tgN 0) (bT (l2 pEq (l2 pIx (eV 0) (eC (.int 0))) (eV 1))) (eV 0) [.val c.d,.val (c.s q)]=some ((c.st.filter fun x=>decide (x.1=q)).map c.box):=by
    refine comp_eq (ds:=c.st.map c.box) (lI_of rfl rfl) (by rw [List.length_map]; have:=t.ok.len; omega) ?_
    exact cGo_map (η:=[.un,.val (c.s q)]) c.box (fun x=>decide (x.1=q)) c.box c.st fun x _=>⟨[.val (c.box x),.val (c.s q)],rfl,bT_of (l2_of (l2_of rfl rfl rfl) rfl (t.ok.eqs x.1 q)),fun _=>rfl⟩
  rw [hr,List.map_cons] at e
  exact run_of rfl (show g_qbox [.val c.d,.val (c.s q)]=_ from ret_of (l2_of (oE_of e) rfl (ix0 _ _)))
theorem path_wh {x1:Sl}:∀ (n q:Nat) (tl:List Nat),In ps q→q≤n→tl.length+n≤100 →
    sWh (bT (l2 pNe (l2 pIx (lA F_qbox (aC (eV 0) (aC (l2 pIx (eV 2) (eC (.int 0))) aN))) (eC (.int 1))) (eC (.str "")))) (sSet 2 (l2 pAdd (oE (fun η=>((aC (l2 pIx (lA F_qbox (aC (eV 0) (aC (l2 pIx (eV 2) (eC (.int 0))) aN))) (eC (.int 1))) aN) η).bind gL)) (eV 2))) n
      [.val c.d,x1,.val (c.S (q::tl))]=some (.nx [.val c.d,x1,.val (c.S (P ps q++tl))])
  | 0,q,tl,hq,h1,_=>by have:=hq.1; omega
  | n+1,q,tl,hq,h1,h2=>by
    have hp:=par_lt t.ps hq.1
    have ea:l2 pIx (lA F_qbox (aC (eV 0) (aC (l2 pIx (eV 2) (eC (.int 0))) aN))) (eC (.int 1)) [.val c.d,x1,.val (c.S (q::tl))]=some (c.s (par ps q)) :=
      l2_of (lA_of (aC_of rfl (aC_of (l2_of rfl rfl (ix0 _ _)) rfl)) (L_box t hq)) rfl rfl
    have et:bT (l2 pNe (l2 pIx (lA F_qbox (aC (eV 0) (aC (l2 pIx (eV 2) (eC (.int 0))) aN))) (eC (.int 1))) (eC (.str ""))) [.val c.d,x1,.val (c.S (q::tl))]=some (!decide (par ps q=0)) :=
      bT_of (l2_of ea rfl (t.ok.ne0 _))
    unfold sWh
    rw [et,Option.bind_some,P_succ t.ps hq.1]
    by_cases e:par ps q=0
    · rw [decide_eq_true e,e]
      rfl
    · rw [decide_eq_false e]
      show Option.bind (sSet _ _ _) _=_
      have eb:sSet 2 (l2 pAdd (oE (fun η=>((aC (l2 pIx (lA F_qbox (aC (eV 0) (aC (l2 pIx (eV 2) (eC (.int 0))) aN))) (eC (.int 1))) aN) η).bind gL)) (eV 2)) [.val c.d,x1,.val (c.S (q::tl))]=some (.nx [.val c.d,x1,.val (c.S (par ps q::q::tl))]) :=
        set_of (l2_of (oE_of (bind_of (aC_of ea rfl) (gL_ok (by simp)))) rfl (addL (by simp; omega)))
      rw [eb,Option.bind_some]
      show sWh _ _ n _=_
      rw [path_wh n (par ps q) (q::tl) ⟨by omega,by have:=hq.2; omega⟩ (by omega) (by simp; omega)]
      simp
theorem L_path {q:Nat} (hq:In ps q):F_qpath [c.d,c.s q]=some (c.S (P ps q)):=by
  have h7:=in_12 t hq
  have e:=path_wh t (x1:=.val (c.s q)) 13 q [] hq (by omega) (by simp)
  rw [List.append_nil] at e
  exact run_of rfl (show g_qpath F_qbox [.val c.d,.val (c.s q),.un]=_ from seq_of (set_of (oE_of (bind_of (aC_of rfl rfl) (gL_ok (by simp))))) (seq_of e (ret_of rfl)))
end
end K53
namespace K53
open PySem L2 L2.PU
theorem ifT {c:En→Option Bool} {f g:En→Option Out} {η:En} {r:Option Out} (h:c η=some true) (h2:f η=r):sIf c f g η=r:=by
  rw [if_of h,if_pos rfl]; exact h2
def ptB (fn:PFn):En→Option Out :=
  sIf (bT (l2 pEq (l2 pIx (eV 3) (eC (.int 1))) (eV 1))) (sSet 2 (l2 pAdd (l2 pAdd (eV 2) (oE (fun η=>((aC (l2 pIx (eV 3) (eC (.int 0))) aN) η).bind gL))) (lA fn (aC (eV 0) (aC (l2 pIx (eV 3) (eC (.int 0))) aN))))) sNx
section
variable {c:Sc} {ps:List Nat} (t:Tr c ps)
include t
theorem L_painted:∀ n a,ps.length < n+a→a≤ps.length→F_qpainted n [c.d,c.s a]=some (c.S (kids (stF ps) n a))
  | 0,a,h,h2=>by omega
  | n+1,a,h,h2=>by
    have f:∀ x:Nat×Nat,x∈c.st→x.2=a→In ps x.1∧a < x.1:=fun x hx e=>by
      rw [t.st] at hx
      have m:=st_mem hx
      have:=par_lt t.ps m.1
      exact ⟨⟨m.1,m.2.1⟩,by rw [← e,m.2.2]; exact this⟩
    have h7:=t.ps.len
    have bl:∀ x:Nat×Nat,x∈c.st→x.2=a→(blF (stF ps) (n+1) x.1).length≤4096:=fun x hx e=>by
      obtain ⟨i,l⟩:=f x hx e
      exact Nat.le_trans (blF_len t.ps (n+1) x.1 i.1 i.2) (pow_lim t.ps i.1)
    have cl:∀ done rest,c.st=done++rest→(done.filter fun x=>decide (x.2=a)).length≤12:=fun done rest e=>by
      have h:=t.ok.len
      rw [e,List.length_append] at h
      have:=List.length_filter_le (fun x:Nat×Nat=>decide (x.2=a)) done
      omega
    obtain ⟨η',e,s3,rfl⟩:=sGo_all (t:=tgN 3) (body:=ptB (F_qpainted n)) c.box
      (fun done η=>∃ s3,η=[.val c.d,.val (c.s a),.val (c.S ((done.filter fun x=>decide (x.2=a)).flatMap fun x=>blF (stF ps) (n+1) x.1)),s3]) c.st (η:=[.val c.d,.val (c.s a),.val (c.S []),.un])
      (by
        rintro done x rest η hall ⟨s3,rfl⟩
        have hx:x∈c.st:=by rw [hall]; simp
        have hd:∀ y∈done.filter (fun x=>decide (x.2=a)),(blF (stF ps) (n+1) y.1).length≤4096:=fun y hy=>by
          obtain ⟨y1,y2⟩:=List.mem_filter.mp hy
          exact bl y (by rw [hall]; exact List.mem_append_left _ y1) (of_decide_eq_true y2)
        have l1:=flat_len hd
        have l2':=cl done (x::rest) hall
        have l3:((done.filter fun x=>decide (x.2=a)).flatMap fun x=>blF (stF ps) (n+1) x.1).length≤49152:=Nat.le_trans l1 (by have:=Nat.mul_le_mul_right 4096 l2'; omega)
        have hT:bT (l2 pEq (l2 pIx (eV 3) (eC (.int 1))) (eV 1)) [.val c.d,.val (c.s a),.val (c.S ((done.filter fun x=>decide (x.2=a)).flatMap fun x=>blF (stF ps) (n+1) x.1)),.val (c.box x)]=some (decide (x.2=a)) :=
          bT_of (l2_of (l2_of rfl rfl rfl) rfl (t.ok.eqs x.2 a))
        rw [List.filter_append]
        by_cases e:x.2=a
        · rw [decide_eq_true e] at hT
          obtain ⟨i,lt⟩:=f x hx e
          have ih:=L_painted n x.1 (by omega) i.2
          have b1:=bl x hx e
          have kl:(kids (stF ps) n x.1).length≤4096:=by
            have:(blF (stF ps) (n+1) x.1).length=(kids (stF ps) n x.1).length+1:=rfl
            omega
          refine ⟨_,_,rfl,ifT hT (set_of (l2_of (l2_of rfl (oE_of (bind_of (aC_of (l2_of rfl rfl rfl) rfl) (gL_ok (by simp)))) (addL ?_)) (lA_of (aC_of rfl (aC_of (l2_of rfl rfl rfl) rfl)) ih) (addL ?_))),.val (c.box x),?_⟩
          · rw [List.length_map]; show _+1≤_; omega
          · rw [List.length_append,List.length_map,List.length_map]; show _+1+_≤_; omega
          · rw [List.filter_cons_of_pos (by simpa using e),List.filter_nil,List.flatMap_append,List.flatMap_cons,List.flatMap_nil,List.append_nil]
            show [_,_,Sl.val (PyData.list _),_]=[_,_,Sl.val (PyData.list _),_]
            rw [List.map_append,List.append_assoc]
            rfl
        · rw [decide_eq_false e] at hT
          refine ⟨_,_,rfl,ifN hT,.val (c.box x),?_⟩
          rw [List.filter_cons_of_neg (by simpa using e),List.filter_nil,List.append_nil]
          rfl) ⟨.un,rfl⟩
    refine run_of rfl (show g_qpainted (F_qpainted n) [.val c.d,.val (c.s a),.un,.un]=_ from seq_of (set_of (oE_of (gL_ok (by simp)))) (seq_of (for_of (lI_of rfl rfl) e) (ret_of ?_)))
    show some (c.S _)=_
    unfold kids chN
    rw [← t.st,List.flatMap_map]
end
end K53
namespace K53
open PySem L2 L2.PU
section
variable {ps:List Nat} (ok:PsOk ps)
include ok
theorem blF_st:∀ n m q,1≤q→ps.length < n+q→ps.length < m+q→q≤ps.length→blF (stF ps) n q=blF (stF ps) m q
  | 0,m,q,_,h,_,h2=>by omega
  | n+1,0,q,_,_,h,h2=>by omega
  | n+1,m+1,q,h1,h2,h3,h4=>by
    show q::(chN (stF ps) q).flatMap (blF (stF ps) n)=q::(chN (stF ps) q).flatMap (blF (stF ps) m)
    rw [flat_congr fun x hx=>?_]
    have:=ch_mem ok hx
    exact blF_st n m x this.1 (by omega) (by omega) this.2.1
theorem P_le:∀ r x,x∈P ps r→x≤r:=by
  intro r
  induction r using Nat.strongRecOn with
  | _ r ih =>
    intro x hx
    by_cases hr:1≤r
    · rw [P_succ ok hr] at hx
      have:=par_lt ok hr
      rcases List.mem_append.mp hx with z | z
      · have:=ih _ this x z; omega
      · rw [List.mem_singleton] at z; omega
    · have:r=0:=by omega
      subst this
      rw [P_zero] at hx; cases hx
theorem P_self {q:Nat} (h:1≤q):q∈P ps q:=by rw [P_succ ok h]; simp
theorem P_one:∀ r x,x∈P ps r→1≤x:=by
  intro r
  induction r using Nat.strongRecOn with
  | _ r ih =>
    intro x hx
    by_cases hr:1≤r
    · rw [P_succ ok hr] at hx
      rcases List.mem_append.mp hx with z | z
      · exact ih _ (par_lt ok hr) x z
      · rw [List.mem_singleton] at z; omega
    · have:r=0:=by omega
      subst this
      rw [P_zero] at hx; cases hx
theorem P_next:∀ q,1≤q→∀ a,(a=0∨a∈P ps q)→a≠q→∃ x∈P ps q,par ps x=a:=by
  intro q
  induction q using Nat.strongRecOn with
  | _ q ih =>
    intro hq a ha hne
    by_cases hp:a=par ps q
    · exact ⟨q,P_self ok hq,hp.symm⟩
    · have ha':a=0∨a∈P ps (par ps q):=by
        rcases ha with z | z
        · exact .inl z
        · rw [P_succ ok hq] at z
          rcases List.mem_append.mp z with z | z
          · exact .inr z
          · rw [List.mem_singleton] at z; exact absurd z hne
      by_cases h0:1≤par ps q
      · obtain ⟨x,hx,e⟩:=ih _ (par_lt ok hq) h0 a ha' hp
        exact ⟨x,by rw [P_succ ok hq]; exact List.mem_append_left _ hx,e⟩
      · have z:par ps q=0:=by omega
        rw [z,P_zero] at ha'
        rcases ha' with y | y
        · exact absurd (y.trans z.symm) hp
        · cases y
theorem P_par:∀ q x,x∈P ps q→par ps x=0∨par ps x∈P ps q:=by
  intro q
  induction q using Nat.strongRecOn with
  | _ q ih =>
    intro x hx
    by_cases hq:1≤q
    · rw [P_succ ok hq] at hx
      rcases List.mem_append.mp hx with z | z
      · rcases ih _ (par_lt ok hq) x z with y | y
        · exact .inl y
        · exact .inr (by rw [P_succ ok hq]; exact List.mem_append_left _ y)
      · rw [List.mem_singleton] at z
        subst z
        by_cases h0:1≤par ps x
        · exact .inr (by rw [P_succ ok hq]; exact List.mem_append_left _ (P_self ok h0))
        · exact .inl (by omega)
    · have:q=0:=by omega
      subst this
      rw [P_zero] at hx; cases hx
theorem P_uniq:∀ q x y,x∈P ps q→y∈P ps q→par ps x=par ps y→x=y:=by
  intro q
  induction q using Nat.strongRecOn with
  | _ q ih =>
    intro x y hx hy e
    by_cases hq:1≤q
    · have hlt:=par_lt ok hq
      have hx1:=P_one ok _ _ hx
      have hy1:=P_one ok _ _ hy
      have px:=par_lt ok hx1
      have py:=par_lt ok hy1
      rw [P_succ ok hq] at hx hy
      rcases List.mem_append.mp hx with zx | zx <;> rcases List.mem_append.mp hy with zy | zy
      · exact ih _ hlt x y zx zy e
      · rw [List.mem_singleton] at zy
        have:=P_le ok _ _ zx
        rw [zy] at e; omega
      · rw [List.mem_singleton] at zx
        have:=P_le ok _ _ zy
        rw [zx] at e; omega
      · rw [List.mem_singleton] at zx zy; rw [zx,zy]
    · have:q=0:=by omega
      subst this
      rw [P_zero] at hx; cases hx
omit ok in
theorem ch_nodup (a:Nat):(chN (stF ps) a).Nodup:=by
  have h:((stF ps).map (·.1)).Nodup:=by
    unfold stF
    rw [List.map_map]
    exact List.Pairwise.map _ (fun i j hij=>by show i+1≠j+1; omega) (List.nodup_range (n:=ps.length))
  exact h.sublist ((List.filter_sublist).map _)
omit ok in
theorem flat_one {α β:Type} {p:α→Prop} [DecidablePred p] {B:List β} {x:α}:∀ {l:List α},l.Nodup→x∈l→p x→(∀ y∈l,p y→y=x)→l.flatMap (fun y=>if p y then B else [])=B
  | [],_,h,_,_=>by cases h
  | y::l,nd,h,hp,hu=>by
    rw [List.flatMap_cons]
    have nd':=List.nodup_cons.mp nd
    by_cases hy:y=x
    · subst hy
      rw [if_pos hp,flat_nil (f:=fun y=>if p y then B else []) fun z hz=>?_,List.append_nil]
      rw [if_neg fun hz'=>?_]
      have:=hu z (List.mem_cons_of_mem _ hz) hz'
      subst this
      exact nd'.1 hz
    · rw [if_neg fun hz=>hy (hu y List.mem_cons_self hz),List.nil_append]
      refine flat_one nd'.2 ?_ hp fun z hz=>hu z (List.mem_cons_of_mem _ hz)
      rcases List.mem_cons.mp h with z | z
      · exact absurd z.symm hy
      · exact z
theorem bl_all {q:Nat}:∀ n a,1≤a→a≤ps.length→q∈P ps a→∀ x∈blF (stF ps) n a,q∈P ps x
  | 0,_,_,_,_,x,hx=>by cases hx
  | n+1,a,h1,h2,hq,x,hx=>by
    rcases List.mem_cons.mp hx with z | z
    · rw [z]; exact hq
    · obtain ⟨y,hy,hx⟩:=List.mem_flatMap.mp z
      have m:=ch_mem ok hy
      exact bl_all n y m.1 m.2.1 (by rw [P_succ ok m.1,m.2.2.1]; exact List.mem_append_left _ hq) x hx
theorem kids_filter {q:Nat} (hq:In ps q):∀ n a,q∉P ps a→ps.length≤n+a→a≤ps.length →
    (kids (stF ps) n a).filter (fun x=>decide (q∈P ps x))=if a=0∨a∈P ps q then blF (stF ps) 13 q else []:=by
  intro n
  induction n with
  | zero =>
    intro a hn hl ha
    have e:a=ps.length:=by omega
    have hk:kids (stF ps) 0 a=[]:=by unfold kids; exact flat_nil fun x _=>rfl
    rw [hk,List.filter_nil,if_neg]
    rintro (z | z)
    · have:=hq.1; have:=hq.2; omega
    · have:=P_le ok _ _ z
      have e2:a=q:=by have:=hq.2; omega
      exact hn (by rw [e2]; exact P_self ok hq.1)
  | succ n ih =>
    intro a hn hl ha
    have one:∀ x∈chN (stF ps) a,(blF (stF ps) (n+1) x).filter (fun x=>decide (q∈P ps x))=if x∈P ps q then blF (stF ps) 13 q else []:=fun x hx=>by
      have m:=ch_mem ok hx
      by_cases hxq:x=q
      · subst hxq
        rw [if_pos (P_self ok m.1),List.filter_eq_self.mpr fun y hy=>decide_eq_true (bl_all ok _ _ m.1 m.2.1 (P_self ok m.1) y hy)]
        have:=ok.len
        exact blF_st ok _ _ _ m.1 (by omega) (by omega) m.2.1
      · have hnx:q∉P ps x:=by
          rw [P_succ ok m.1,m.2.2.1]
          intro z
          rcases List.mem_append.mp z with z | z
          · exact hn z
          · rw [List.mem_singleton] at z; exact hxq z.symm
        show (x::kids (stF ps) n x).filter _=_
        rw [List.filter_cons_of_neg (by simpa using hnx),ih x hnx (by omega) m.2.1]
        have:x≠0:=by have:=m.1; omega
        simp only [this,false_or]
    unfold kids
    rw [List.filter_flatMap,flat_congr one]
    by_cases hc:a=0∨a∈P ps q
    · rw [if_pos hc]
      have hne:a≠q:=by
        rintro rfl
        exact hn (P_self ok hq.1)
      obtain ⟨x,hx,e⟩:=P_next ok q hq.1 a hc hne
      have hx1:=P_one ok _ _ hx
      have hxl:x≤ps.length:=Nat.le_trans (P_le ok _ _ hx) hq.2
      refine flat_one (x:=x) (ch_nodup a) (by rw [← e]; exact mem_ch hx1 hxl) hx fun y hy hyq=>?_
      have m:=ch_mem ok hy
      exact P_uniq ok q y x hyq hx (m.2.2.1.trans e.symm)
    · rw [if_neg hc]
      refine flat_nil fun x hx=>?_
      have m:=ch_mem ok hx
      rw [if_neg fun hxq=>?_]
      have:=P_par ok q x hxq
      rw [m.2.2.1] at this
      exact hc this
theorem below_eq {q:Nat} (hq:In ps q):(kids (stF ps) 13 0).filter (fun x=>decide (q∈P ps x))=blF (stF ps) 13 q:=by
  have:=ok.len
  rw [kids_filter ok hq 13 0 (by rw [P_zero]; exact fun z=>by cases z) (by omega) (by omega),if_pos (.inl rfl)]
end
end K53
namespace K53
open PySem L2 L2.PU
theorem cut_from {α:Type} (xs:List α) (k:Nat) (hk:k≤xs.length):cutL xs (some (k:Int)) none=xs.drop k:=by
  unfold cutL
  rw [HT.sIx_nat,HT.sIx_none,Nat.min_eq_left hk]
  exact List.take_of_length_le (by rw [List.length_drop]; omega)
section
variable {c:Sc} {ps:List Nat} (t:Tr c ps)
include t
theorem blw {q:Nat} (hq:In ps q):blwN c.st 13 q=some (blF (stF ps) 13 q):=by
  have:=t.ps.len
  rw [t.st]; exact blwN_eq t.ps 13 q hq.1 hq.2 (by omega)
theorem T_below {q:Nat} (hq:In ps q):F_below 13 [c.d,c.s q]=some (c.S (blF (stF ps) 13 q)):=F_below_eq t.ok 13 q _ (blw t hq)
theorem blw_mem {q x:Nat} (hq:In ps q) (hx:In ps x):x∈blF (stF ps) 13 q↔q∈P ps x:=by
  have h12:=t.ps.len
  rw [← below_eq t.ps hq,List.mem_filter,decide_eq_true_eq]
  exact ⟨fun h=>h.2,fun h=>⟨mem_kids t.ps 13 x hx.1 hx.2 (by have:=hx.2; omega),h⟩⟩
theorem F_put_eq {q:Nat} (hq:In ps q) (l r:Int):F_put_at [c.d,c.s q,.int l,.int r]=some (c.put q l r).d:=by
  have hp:parN c.st q=some (par ps q):=by rw [t.st]; exact parN_st hq.1 hq.2
  have hu:∀ x∈c.st,x.1=q→x.2=par ps q:=fun x hx e=>by rw [t.st] at hx; rw [(st_mem hx).2.2,e]
  have e1:=F_box_eq t.ok hp
  have e2:F_with_other [c.d,(c.put q l r).box (q,par ps q)]=some (c.put q l r).d:=F_other_eq t.ok rfl rfl hu fun x _ hx=>by
    unfold Sc.box Sc.put updI
    dsimp only
    rw [if_neg hx,if_neg hx]
  have e3:(c.put q l r).box (q,par ps q)=.tuple [.str (c.nm q),.str (c.nm (par ps q)),.int l,.int r,.int (c.W q),.int (c.H q),.str (c.mr q)]:=by
    unfold Sc.box Sc.put updI
    dsimp only
    rw [if_pos rfl,if_pos rfl]
  rw [e3] at e2
  refine run_of rfl (show g_put_at F_box_of F_with_other [.val c.d,.val (c.s q),.val (.int l),.val (.int r),.un]=_ from seq_of (set_of (lA_of (aC_of rfl (aC_of rfl rfl)) e1)) (ret_of (lA_of (aC_of rfl (aC_of ?_ rfl)) e2)))
  exact l2_of (l2_of (eSl_of rfl rfl (pS_of rfl) rfl) (lA_of (aC_of rfl (aC_of rfl rfl)) (tup1_ok (by simp))) (addT (by simp [cutL,HT.sIx]))) (eSl_of rfl (pS_of rfl) rfl rfl) rfl
end
end K53
namespace K53
open PySem L2 L2.PU
structure Bx where
  nm:Str
  ar:Str
  l:Int
  t:Int
  w:Int
  h:Int
  mr:Str
def Bx.d (b:Bx):PyData:=.tuple [.str b.nm,.str b.ar,.int b.l,.int b.t,.int b.w,.int b.h,.str b.mr]
structure VB (bs:List Bx):Prop where
  len:bs.length≤12
  nd:(bs.map (·.nm)).Nodup
  one:∀ b∈bs,(1≤b.nm.length∧b.nm.length≤3)∧PyData.strOk b.nm=true∧PyData.strOk b.mr=true
  ar:∀ (i:Nat) b,bs[i]?=some b→b.ar = "" ∨ ∃ j b',j < i∧bs[j]?=some b'∧b'.nm=b.ar
def nmB (bs:List Bx) (a:Nat):Str:=if a=0 then "" else match bs[a - 1]? with
  | some b=>b.nm
  | none=>⟨(List.replicate (a+3) 97).toArray⟩
def psB (bs:List Bx):List Nat:=bs.map fun b=>if b.ar=("" : Str) then 0 else (bs.map (·.nm)).idxOf b.ar+1
def scB (bs:List Bx):Sc:=⟨stF (psB bs),nmB bs,fun i=>((bs[i - 1]?).map (·.l)).getD 0,fun i=>((bs[i - 1]?).map (·.t)).getD 0,fun i=>((bs[i - 1]?).map (·.w)).getD 0,fun i=>((bs[i - 1]?).map (·.h)).getD 0,fun i=>((bs[i - 1]?).map (·.mr)).getD ""⟩
theorem nmB_in {bs:List Bx} {i:Nat} {b:Bx} (h:bs[i]?=some b):nmB bs (i+1)=b.nm:=by
  unfold nmB
  rw [if_neg (by omega),show i+1 - 1=i from rfl,h]
theorem e_len:("" : Str).length=0:=by decide
theorem nmB_sz {bs:List Bx} (v:VB bs) (a:Nat):(a=0∧(nmB bs a).length=0)∨((∃ b,bs[a - 1]?=some b∧nmB bs a=b.nm∧b∈bs)∧1≤a∧(1≤(nmB bs a).length∧(nmB bs a).length≤3))∨(1≤a∧bs[a - 1]?=none∧(nmB bs a).length=a+3):=by
  by_cases h:a=0
  · exact .inl ⟨h,by unfold nmB; rw [if_pos h]; exact e_len⟩
  · cases hb:bs[a - 1]? with
    | some b =>
      have e:nmB bs a=b.nm:=by unfold nmB; rw [if_neg h,hb]
      have hm:=List.mem_of_getElem? hb
      exact .inr (.inl ⟨⟨b,rfl,e,hm⟩,by omega,by rw [e]; exact (v.one b hm).1⟩)
    | none =>
      refine .inr (.inr ⟨by omega,rfl,?_⟩)
      unfold nmB
      rw [if_neg h,hb]
      show (List.replicate (a+3) 97).toArray.size=a+3
      simp
theorem nmB_inj {bs:List Bx} (v:VB bs):∀ a b,nmB bs a=nmB bs b→a=b:=fun a b e=>by
  have s:(nmB bs a).length=(nmB bs b).length:=by rw [e]
  rcases nmB_sz v a with ⟨ha,la⟩ | ⟨⟨x,hx,ex,_⟩,ha,la⟩ | ⟨ha,_,la⟩ <;> rcases nmB_sz v b with ⟨hb,lb⟩ | ⟨⟨y,hy,ey,_⟩,hb,lb⟩ | ⟨hb,_,lb⟩
  · omega
  · omega
  · omega
  · omega
  · have h1:(bs.map (·.nm))[a - 1]?=some x.nm:=by rw [List.getElem?_map,hx]; rfl
    have h2:(bs.map (·.nm))[b - 1]?=some y.nm:=by rw [List.getElem?_map,hy]; rfl
    rw [ex,ey] at e
    rw [← e] at h2
    have hlt:a - 1 < (bs.map (·.nm)).length:=by
      rw [List.length_map]
      exact (List.getElem?_eq_some_iff.mp hx).1
    have:=(List.getElem?_inj hlt v.nd).mp (h1.trans h2.symm)
    omega
  · omega
  · omega
  · omega
  · omega
theorem psB_len (bs:List Bx):(psB bs).length=bs.length:=List.length_map ..
theorem psB_at {bs:List Bx} (v:VB bs) {i:Nat} {b:Bx} (h:bs[i]?=some b):(psB bs).getD i 0≤i∧nmB bs ((psB bs).getD i 0)=b.ar:=by
  have e:(psB bs).getD i 0=if b.ar=("" : Str) then 0 else (bs.map (·.nm)).idxOf b.ar+1:=by
    unfold psB
    rw [List.getD_eq_getElem?_getD,List.getElem?_map,h]; rfl
  rw [e]
  by_cases ha:b.ar = ""
  · rw [if_pos ha]
    exact ⟨Nat.zero_le _,ha.symm⟩
  · rw [if_neg ha]
    obtain ⟨j,b',hj,hb,en⟩:=(v.ar i b h).resolve_left ha
    have hm:(bs.map (·.nm))[j]?=some b.ar:=by rw [List.getElem?_map,hb]; show some b'.nm=_; rw [en]
    have hin:b.ar∈bs.map (·.nm):=List.mem_of_getElem? hm
    have hl:=List.idxOf_lt_length_of_mem hin
    have hg:(bs.map (·.nm))[(bs.map (·.nm)).idxOf b.ar]?=some b.ar:=by
      rw [List.getElem?_eq_getElem hl,List.getElem_idxOf hl]
    have:=(List.getElem?_inj hl v.nd).mp (hg.trans hm.symm)
    rw [this]
    exact ⟨hj,(nmB_in hb).trans en⟩
theorem psB_ok {bs:List Bx} (v:VB bs):PsOk (psB bs):=⟨by rw [psB_len]; exact v.len,fun i=>by
  cases h:bs[i]? with
  | some b=>exact (psB_at v h).1
  | none =>
    have:(psB bs)[i]?=none:=by unfold psB; rw [List.getElem?_map,h]; rfl
    rw [List.getD_eq_getElem?_getD,this]; exact Nat.zero_le _⟩
theorem scB_ok {bs:List Bx} (v:VB bs):(scB bs).Ok:=⟨nmB_inj v,rfl,fun a=>by
    show PyData.strOk (nmB bs a)=true
    rcases nmB_sz v a with ⟨h,_⟩ | ⟨⟨b,_,e,hm⟩,_,_⟩ | ⟨h,hb,_⟩
    · rw [h]; show PyData.strOk ("" : Str)=true; decide +kernel
    · rw [e]; exact (v.one b hm).2.1
    · unfold nmB
      rw [if_neg (by omega),hb]
      unfold PyData.strOk
      rw [Array.all_eq_true]
      intro i hi
      simp,fun a=>by
    show PyData.strOk (((bs[a - 1]?).map (·.mr)).getD "")=true
    cases h:bs[a - 1]? with
    | some b=>exact (v.one b (List.mem_of_getElem? h)).2.2
    | none=>show PyData.strOk ("" : Str)=true; decide +kernel,by
    show (stF (psB bs)).length≤12
    unfold stF
    rw [List.length_map,List.length_range,psB_len]; exact v.len⟩
theorem scB_d {bs:List Bx} (v:VB bs):(scB bs).d=.tuple (bs.map Bx.d):=by
  unfold Sc.d
  show PyData.tuple ((stF (psB bs)).map (scB bs).box)=_
  congr 1
  refine List.ext_getElem? fun i=>?_
  rw [List.getElem?_map,List.getElem?_map]
  unfold stF
  rw [List.getElem?_map,psB_len]
  cases h:bs[i]? with
  | none =>
    have:=List.getElem?_eq_none_iff.mp h
    rw [List.getElem?_eq_none (by rw [List.length_range]; exact this)]; rfl
  | some b =>
    have hl:=(List.getElem?_eq_some_iff.mp h).1
    rw [List.getElem?_range hl]
    show some ((scB bs).box (i+1,(psB bs).getD i 0))=some b.d
    unfold Sc.box scB Bx.d
    dsimp only
    rw [nmB_in h,(psB_at v h).2,show i+1 - 1=i from rfl,h]
    rfl
end K53
namespace K53
open PySem L2 L2.PU
def up:List Str→List Bx→Prop
  | _,[]=>True
  | seen,b::r=>(b.ar=("" : Str)∨b.ar∈seen)∧up (seen++[b.nm]) r
theorem up_ar:∀ {bs:List Bx} {seen:List Str},up seen bs→∀ (i:Nat) b,bs[i]?=some b→b.ar = "" ∨ b.ar∈seen∨∃ j b',j < i∧bs[j]?=some b'∧b'.nm=b.ar
  | [],_,_,i,b,h=>by simp at h
  | b0::r,seen,⟨h1,h2⟩,0,b,h=>by
    have:b0=b:=by simpa using h
    subst this
    exact h1.imp_right .inl
  | b0::r,seen,⟨h1,h2⟩,i+1,b,h=>by
    rcases up_ar h2 i b (by simpa using h) with z | z | ⟨j,b',hj,hb,e⟩
    · exact .inl z
    · rcases List.mem_append.mp z with y | y
      · exact .inr (.inl y)
      · have y:b.ar=b0.nm:=by simpa using y
        exact .inr (.inr ⟨0,b0,by omega,by simp,y.symm⟩)
    · exact .inr (.inr ⟨j+1,b',by omega,by simpa using hb,e⟩)
theorem ar_up:∀ {bs:List Bx} {seen:List Str},(∀ (i:Nat) b,bs[i]?=some b→b.ar = "" ∨ b.ar∈seen∨∃ j b',j < i∧bs[j]?=some b'∧b'.nm=b.ar)→up seen bs
  | [],_,_=>trivial
  | b0::r,seen,h=>by
    refine ⟨?_,ar_up fun i b hb=>?_⟩
    · rcases h 0 b0 (by simp) with z | z | ⟨j,_,hj,_⟩
      · exact .inl z
      · exact .inr z
      · omega
    · rcases h (i+1) b (by simpa using hb) with z | z | ⟨j,b',hj,hb',e⟩
      · exact .inl z
      · exact .inr (.inl (List.mem_append_left _ z))
      · cases j with
        | zero =>
          have:b0=b':=by simpa using hb'
          subst this
          exact .inr (.inl (List.mem_append_right _ (by simp [e])))
        | succ j=>exact .inr (.inr ⟨j,b',by omega,by simpa using hb',e⟩)
theorem VB.up {bs:List Bx} (v:VB bs):up [] bs:=ar_up fun i b h=>(v.ar i b h).imp_right .inr
theorem VB.of {bs:List Bx} (hl:bs.length≤12) (nd:(bs.map (·.nm)).Nodup) (one:∀ b∈bs,(1≤b.nm.length∧b.nm.length≤3)∧PyData.strOk b.nm=true∧PyData.strOk b.mr=true) (h:K53.up [] bs):VB bs :=
  ⟨hl,nd,one,fun i b hb=>(up_ar h i b hb).imp_right fun z=>z.resolve_left (by simp)⟩
theorem up_app:∀ {as bs:List Bx} {seen:List Str},up seen as→up (seen++as.map (·.nm)) bs→up seen (as++bs)
  | [],bs,seen,_,h=>by simpa using h
  | a::r,bs,seen,⟨h1,h2⟩,h=>⟨h1,up_app h2 (by rw [List.append_assoc]; exact h)⟩
theorem up_filter {G:Str→Prop} {p:Bx→Bool}:∀ {bs:List Bx} {seen seen':List Str},(∀ x∈seen,G x→x∈seen')→(∀ b∈bs,G b.nm→p b=true)→(∀ b∈bs,p b=true→b.ar = "" ∨ G b.ar)→up seen bs→up seen' (bs.filter p)
  | [],_,_,_,_,_,_=>trivial
  | b::r,seen,seen',hs,hn,ha,⟨h1,h2⟩=>by
    have tl1:=fun b' hb'=>hn b' (List.mem_cons_of_mem _ hb')
    have tl2:=fun b' hb'=>ha b' (List.mem_cons_of_mem _ hb')
    cases hp:p b with
    | true =>
      rw [List.filter_cons_of_pos hp]
      refine ⟨?_,up_filter (fun x hx g=>?_) tl1 tl2 h2⟩
      · rcases h1 with z | z
        · exact .inl z
        · exact (ha b List.mem_cons_self hp).imp_right fun g=>hs _ z g
      · rcases List.mem_append.mp hx with y | y
        · exact List.mem_append_left _ (hs x y g)
        · exact List.mem_append_right _ y
    | false =>
      rw [List.filter_cons_of_neg (by rw [hp]; decide)]
      refine up_filter (fun x hx g=>?_) tl1 tl2 h2
      rcases List.mem_append.mp hx with y | y
      · exact hs x y g
      · have:x=b.nm:=by simpa using y
        rw [this] at g
        rw [hn b List.mem_cons_self g] at hp
        cases hp
theorem up_rest {p:Bx→Bool}:∀ {bs:List Bx} {seen seen':List Str},(∀ x∈seen,x∈seen')→(∀ b∈bs,p b=false→b.nm∈seen')→up seen bs→up seen' (bs.filter p)
  | [],_,_,_,_,_=>trivial
  | b::r,seen,seen',hs,hn,⟨h1,h2⟩=>by
    have tl:=fun b' hb'=>hn b' (List.mem_cons_of_mem _ hb')
    cases hp:p b with
    | true =>
      rw [List.filter_cons_of_pos hp]
      refine ⟨h1.imp_right (hs _),up_rest (fun x hx=>?_) (fun b' hb' e=>List.mem_append_left _ (tl b' hb' e)) h2⟩
      rcases List.mem_append.mp hx with y | y
      · exact List.mem_append_left _ (hs x y)
      · exact List.mem_append_right _ y
    | false =>
      rw [List.filter_cons_of_neg (by rw [hp]; decide)]
      refine up_rest (fun x hx=>?_) tl h2
      rcases List.mem_append.mp hx with y | y
      · exact hs x y
      · have:x=b.nm:=by simpa using y
        rw [this]; exact hn b List.mem_cons_self hp
theorem VB.more {bs:List Bx} (v:VB bs) {b:Bx} (hl:bs.length < 12) (hn:b.nm∉bs.map (·.nm)) (ha:b.ar = "" ∨ b.ar∈bs.map (·.nm)) (h1:(1≤b.nm.length∧b.nm.length≤3)∧PyData.strOk b.nm=true∧PyData.strOk b.mr=true):VB (bs++[b]):=by
  refine VB.of (by simp; omega) ?_ (fun x hx=>?_) (up_app v.up ⟨by simpa using ha,trivial⟩)
  · rw [List.map_append,List.nodup_append]
    refine ⟨v.nd,by simp,fun x hx y hy e=>?_⟩
    have:y=b.nm:=by simpa using hy
    rw [e,this] at hx
    exact hn hx
  · rcases List.mem_append.mp hx with z | z
    · exact v.one x z
    · have:x=b:=by simpa using z
      rw [this]; exact h1
theorem VB.cut {bs:List Bx} (v:VB bs) {p:Bx→Bool} (h:∀ b∈bs,p b=true→b.ar = "" ∨ ∃ b'∈bs,b'.nm=b.ar∧p b'=true):VB (bs.filter p):=by
  refine VB.of (Nat.le_trans (List.length_filter_le ..) v.len) (v.nd.sublist (List.Sublist.map _ List.filter_sublist)) (fun x hx=>v.one x (List.mem_filter.mp hx).1) (up_filter (G:=fun x=>∃ b'∈bs,b'.nm=x∧p b'=true) (fun x hx=>by cases hx) (fun b hb g=>?_) h v.up)
  obtain ⟨b',hb',e,hp⟩:=g
  obtain ⟨i,hi⟩:=List.mem_iff_getElem?.mp hb
  obtain ⟨j,hj⟩:=List.mem_iff_getElem?.mp hb'
  have h1:(bs.map (·.nm))[i]?=some b.nm:=by rw [List.getElem?_map,hi]; rfl
  have h2:(bs.map (·.nm))[j]?=some b.nm:=by rw [List.getElem?_map,hj]; show some b'.nm=_; rw [e]
  have hlt:i < (bs.map (·.nm)).length:=by rw [List.length_map]; exact (List.getElem?_eq_some_iff.mp hi).1
  have:=(List.getElem?_inj hlt v.nd).mp (h1.trans h2.symm)
  rw [this,hj] at hi
  cases hi
  exact hp
theorem VB.lift {bs:List Bx} (v:VB bs) {p:Bx→Bool} (h:∀ b∈bs,p b=false→b.ar = "" ∨ ∃ b'∈bs,b'.nm=b.ar∧p b'=false):VB (bs.filter (fun b=>!p b)++bs.filter p):=by
  have c:=v.cut (p:=fun b=>!p b) (fun b hb hp=>(h b hb (by simpa using hp)).imp_right fun ⟨b',x,y,z⟩=>⟨b',x,y,by rw [z]; rfl⟩)
  have pm:(bs.filter (fun b=>!p b)++bs.filter p).Perm bs:=(List.perm_append_comm).trans (List.filter_append_perm p bs)
  refine VB.of (by rw [pm.length_eq]; exact v.len) ((pm.map _).nodup_iff.mpr v.nd) (fun x hx=>v.one x (pm.mem_iff.mp hx)) (up_app c.up ?_)
  refine up_rest (seen:=[]) (fun x hx=>by cases hx) (fun b hb e=>?_) v.up
  rw [List.nil_append]
  exact List.mem_map.mpr ⟨b,List.mem_filter.mpr ⟨hb,by rw [e]; rfl⟩,rfl⟩
theorem VB.same {bs:List Bx} (v:VB bs) {f:Bx→Bx} (hf:∀ b∈bs,(f b).nm=b.nm∧(f b).ar=b.ar∧PyData.strOk (f b).mr=true):VB (bs.map f):=by
  have hn:(bs.map f).map (·.nm)=bs.map (·.nm):=by
    rw [List.map_map]
    exact List.map_congr_left fun b hb=>(hf b hb).1
  refine ⟨by rw [List.length_map]; exact v.len,by rw [hn]; exact v.nd,fun b hb=>?_,fun i b h=>?_⟩
  · obtain ⟨x,hx,rfl⟩:=List.mem_map.mp hb
    obtain ⟨e1,_,e3⟩:=hf x hx
    rw [e1]
    exact ⟨(v.one x hx).1,(v.one x hx).2.1,e3⟩
  · rw [List.getElem?_map] at h
    obtain ⟨x,hx,rfl⟩:=Option.map_eq_some_iff.mp h
    obtain ⟨_,e2,_⟩:=hf x (List.mem_of_getElem? hx)
    rw [e2]
    refine (v.ar i x hx).imp_right fun ⟨j,y,hj,hy,e⟩=>⟨j,f y,hj,by rw [List.getElem?_map,hy]; rfl,?_⟩
    rw [(hf y (List.mem_of_getElem? hy)).1,e]
end K53
namespace K53
open PySem L2 L2.PU
def SD (bs:List Bx):PyData:=.tuple (bs.map Bx.d)
theorem filt {α β γ:Type} (f:α→γ) (h:β→γ) (p:α→Bool) (q:β→Bool):∀ (as:List α) (bs:List β),as.length=bs.length→(∀ (i:Nat) a b,as[i]?=some a→bs[i]?=some b→f a=h b∧p a=q b)→(as.filter p).map f=(bs.filter q).map h
  | [],[],_,_=>rfl
  | [],_::_,e,_=>by cases e
  | _::_,[],e,_=>by cases e
  | a::as,b::bs,e,H=>by
    obtain ⟨e1,e2⟩:=H 0 a b rfl rfl
    have ih:=filt f h p q as bs (by simpa using e) fun i a b h1 h2=>H (i+1) a b (by simpa using h1) (by simpa using h2)
    rw [List.filter_cons,List.filter_cons,e2]
    cases q b with
    | true=>rw [if_pos rfl,if_pos rfl,List.map_cons,List.map_cons,e1,ih]
    | false=>rw [if_neg (by decide),if_neg (by decide),ih]
theorem mapt {α β γ:Type} (f:α→γ) (h:β→γ) (as:List α) (bs:List β) (hl:as.length=bs.length) (H:∀ (i:Nat) a b,as[i]?=some a→bs[i]?=some b→f a=h b):as.map f=bs.map h:=by
  have:=filt f h (fun _=>true) (fun _=>true) as bs hl fun i a b h1 h2=>⟨H i a b h1 h2,rfl⟩
  rwa [show as.filter (fun _=>true)=as by simp,show bs.filter (fun _=>true)=bs by simp] at this
theorem trB {bs:List Bx} (v:VB bs):Tr (scB bs) (psB bs):=⟨scB_ok v,rfl,psB_ok v⟩
theorem stB_len (bs:List Bx):(stF (psB bs)).length=bs.length:=by
  unfold stF
  rw [List.length_map,List.length_range,psB_len]
theorem stB {bs:List Bx} {i:Nat} {x:Nat×Nat} (h:(stF (psB bs))[i]?=some x):x=(i+1,(psB bs).getD i 0):=by
  have hl:=(List.getElem?_eq_some_iff.mp h).1
  rw [stB_len] at hl
  unfold stF at h
  rw [List.getElem?_map,psB_len,List.getElem?_range hl] at h
  exact (Option.some.inj h).symm
theorem boxB {bs:List Bx} (v:VB bs) {i:Nat} {b:Bx} (h:bs[i]?=some b):(scB bs).box (i+1,(psB bs).getD i 0)=b.d:=by
  unfold Sc.box scB Bx.d
  dsimp only
  rw [nmB_in h,(psB_at v h).2,show i+1 - 1=i from rfl,h]
  rfl
theorem inB {bs:List Bx} {i:Nat} {b:Bx} (h:bs[i]?=some b):In (psB bs) (i+1):=⟨by omega,by rw [psB_len]; exact (List.getElem?_eq_some_iff.mp h).1⟩
theorem sB {bs:List Bx} {i:Nat} {b:Bx} (h:bs[i]?=some b):(scB bs).s (i+1)=.str b.nm:=by
  show PyData.str (nmB bs (i+1))=_
  rw [nmB_in h]
section
variable {bs:List Bx} (v:VB bs) {i0:Nat} {b0:Bx} (h0:bs[i0]?=some b0)
include v h0
theorem B_box:F_box_of [SD bs,.str b0.nm]=some b0.d:=by
  have:=T_box (trB v) (inB h0)
  rw [scB_d v,sB h0] at this
  rw [show SD bs=PyData.tuple (bs.map Bx.d) from rfl,this]
  exact congrArg some (boxB v h0)
def gone (bs:List Bx) (i:Nat):List Str:=(blF (stF (psB bs)) 13 (i+1)).map (nmB bs)
theorem gone_iff {i:Nat} {b:Bx} (h:bs[i]?=some b):b.nm∈gone bs i0↔i+1∈blF (stF (psB bs)) 13 (i0+1):=by
  unfold gone
  rw [List.mem_map]
  constructor
  · rintro ⟨x,hx,e⟩
    rw [← nmB_in h] at e
    rw [← nmB_inj v _ _ e]; exact hx
  · exact fun hx=>⟨i+1,hx,nmB_in h⟩
theorem gone_up {i:Nat} {b:Bx} (h:bs[i]?=some b) (hn:b.nm∉gone bs i0):b.ar = "" ∨ ∃ b'∈bs,b'.nm=b.ar∧b'.nm∉gone bs i0:=by
  refine (v.ar i b h).imp_right fun ⟨j,b',hj,hb,e⟩=>⟨b',List.mem_of_getElem? hb,e,fun z=>hn ?_⟩
  rw [gone_iff v h0 hb,blw_mem (trB v) (inB h0) (inB hb)] at z
  rw [gone_iff v h0 h,blw_mem (trB v) (inB h0) (inB h)]
  have e1:par (psB bs) (i+1)=j+1:=nmB_inj v _ _ (by rw [nmB_in hb,e]; exact (psB_at v h).2)
  rw [P_succ (psB_ok v) (by omega),e1]
  exact List.mem_append_left _ z
theorem B_below:F_below 13 [SD bs,.str b0.nm]=some (.list ((gone bs i0).map PyData.str)):=by
  have:=T_below (trB v) (inB h0)
  rw [scB_d v,sB h0] at this
  rw [show SD bs=PyData.tuple (bs.map Bx.d) from rfl,this]
  unfold Sc.S gone
  rw [List.map_map]; rfl
theorem pickB (neg:Bool):((stF (psB bs)).filter fun x=>if neg then !decide (x.1∈blF (stF (psB bs)) 13 (i0+1)) else decide (x.1∈blF (stF (psB bs)) 13 (i0+1))).map (scB bs).box=(bs.filter fun b=>if neg then !decide (b.nm∈gone bs i0) else decide (b.nm∈gone bs i0)).map Bx.d:=by
  refine filt _ _ _ _ _ _ (stB_len bs) fun i x b h1 h2=>?_
  obtain rfl:=stB h1
  refine ⟨boxB v h2,?_⟩
  have:decide (i+1∈blF (stF (psB bs)) 13 (i0+1))=decide (b.nm∈gone bs i0):=by
    rw [decide_eq_decide]; exact (gone_iff v h0 h2).symm
  dsimp only
  rw [this]
def cutB (bs:List Bx) (i:Nat):List Bx:=bs.filter fun b=>!decide (b.nm∈gone bs i)
def raiB (bs:List Bx) (i:Nat):List Bx:=(bs.filter fun b=>!decide (b.nm∈gone bs i))++bs.filter fun b=>decide (b.nm∈gone bs i)
theorem cutB_ok:VB (cutB bs i0):=v.cut fun b hb hp=>by
  obtain ⟨i,hi⟩:=List.mem_iff_getElem?.mp hb
  refine (gone_up v h0 hi (by simpa using hp)).imp_right fun ⟨b',h1,h2,h3⟩=>⟨b',h1,h2,by simpa using h3⟩
theorem raiB_ok:VB (raiB bs i0):=v.lift (p:=fun b=>decide (b.nm∈gone bs i0)) fun b hb hp=>by
  obtain ⟨i,hi⟩:=List.mem_iff_getElem?.mp hb
  refine (gone_up v h0 hi (by simpa using hp)).imp_right fun ⟨b',h1,h2,h3⟩=>⟨b',h1,h2,by simpa using h3⟩
theorem B_cut:F_cut [SD bs,.str b0.nm]=some (SD (cutB bs i0)):=by
  have e:cutN (scB bs).st (i0+1)=some ((stF (psB bs)).filter fun x=>!decide (x.1∈blF (stF (psB bs)) 13 (i0+1))):=by
    unfold cutN
    rw [blw (trB v) (inB h0)]; rfl
  have:=F_cut_eq (scB_ok v) e
  rw [scB_d v,sB h0] at this
  rw [show SD bs=PyData.tuple (bs.map Bx.d) from rfl,this]
  exact congrArg (fun l=>some (PyData.tuple l)) (pickB v h0 true)
theorem B_raised:F_raised [SD bs,.str b0.nm]=some (SD (raiB bs i0)):=by
  have e:raiN (scB bs).st (i0+1)=some ((stF (psB bs)).filter (fun x=>!decide (x.1∈blF (stF (psB bs)) 13 (i0+1)))++(stF (psB bs)).filter fun x=>decide (x.1∈blF (stF (psB bs)) 13 (i0+1))):=by
    unfold raiN
    rw [blw (trB v) (inB h0)]; rfl
  have:=F_raised_eq (scB_ok v) e
  rw [scB_d v,sB h0] at this
  rw [show SD bs=PyData.tuple (bs.map Bx.d) from rfl,this]
  refine congrArg (fun l=>some (PyData.tuple l)) ?_
  show List.map (scB bs).box ((stF (psB bs)).filter (fun x=>!decide (x.1∈blF (stF (psB bs)) 13 (i0+1)))++(stF (psB bs)).filter fun x=>decide (x.1∈blF (stF (psB bs)) 13 (i0+1)))=_
  rw [List.map_append]
  unfold raiB
  rw [List.map_append]
  exact congr (congrArg (·++·) (pickB v h0 true)) (pickB v h0 false)
def chgB (bs:List Bx) (n:Str) (f:Bx→Bx):List Bx:=bs.map fun b=>if b.nm=n then f b else b
theorem chgB_ok {f:Bx→Bx} (hf:∀ b∈bs,(f b).nm=b.nm∧(f b).ar=b.ar∧PyData.strOk (f b).mr=true):VB (chgB bs b0.nm f):=v.same fun b hb=>by
  split
  · exact hf b hb
  · exact ⟨rfl,rfl,(v.one b hb).2.2⟩
theorem nm_dec {i:Nat} {b:Bx} (h:bs[i]?=some b):b.nm=b0.nm↔i+1=i0+1:=by
  rw [← nmB_in h,← nmB_in h0]
  exact ⟨fun e=>nmB_inj v _ _ e,fun e=>by rw [e]⟩
theorem B_marked (m:Str):F_marked [SD bs,.str b0.nm,.str m]=some (SD (chgB bs b0.nm fun b=>{ b with mr:=m })):=by
  have hp:parN (scB bs).st (i0+1)=some (par (psB bs) (i0+1)):=parN_st (inB h0).1 (inB h0).2
  have:=F_mark_eq (scB_ok v) (m:=m) hp fun x hx e=>by rw [(st_mem hx).2.2,e]
  rw [scB_d v,sB h0] at this
  rw [show SD bs=PyData.tuple (bs.map Bx.d) from rfl,this]
  unfold SD chgB
  rw [List.map_map]
  refine congrArg (fun l=>some (PyData.tuple l)) (mapt _ _ _ _ (stB_len bs) fun i x b h1 h2=>?_)
  obtain rfl:=stB h1
  have hb:=boxB v h2
  unfold Sc.box Bx.d at hb
  show PyData.tuple [.str (nmB bs (i+1)),.str (nmB bs ((psB bs).getD i 0)),.int ((scB bs).L (i+1)),.int ((scB bs).T (i+1)),.int ((scB bs).W (i+1)),.int ((scB bs).H (i+1)),.str (if i+1=i0+1 then m else (scB bs).mr (i+1))]=Bx.d (if b.nm=b0.nm then _ else _)
  have k:=nm_dec v h0 h2
  injection hb with hb
  simp only [List.cons.injEq,and_true] at hb
  obtain ⟨e1,e2,e3,e4,e5,e6,e7⟩:=hb
  by_cases hq:i+1=i0+1
  · rw [if_pos hq,if_pos (k.mpr hq)]
    unfold Bx.d
    show PyData.tuple [_,_,_,_,_,_,_]=_
    rw [show PyData.str (nmB bs (i+1))=_ from e1,show PyData.str (nmB bs ((psB bs).getD i 0))=_ from e2,e3,e4,e5,e6]
  · rw [if_neg hq,if_neg (fun z=>hq (k.mp z))]
    unfold Bx.d
    rw [show PyData.str (nmB bs (i+1))=_ from e1,show PyData.str (nmB bs ((psB bs).getD i 0))=_ from e2,e3,e4,e5,e6,e7]
theorem B_put (l t:Int):F_put_at [SD bs,.str b0.nm,.int l,.int t]=some (SD (chgB bs b0.nm fun b=>{ b with l:=l,t:=t })):=by
  have:=F_put_eq (trB v) (inB h0) l t
  rw [scB_d v,sB h0] at this
  rw [show SD bs=PyData.tuple (bs.map Bx.d) from rfl,this]
  unfold SD chgB
  rw [List.map_map]
  refine congrArg (fun l=>some (PyData.tuple l)) (mapt _ _ _ _ (stB_len bs) fun i x b h1 h2=>?_)
  obtain rfl:=stB h1
  have hb:=boxB v h2
  unfold Sc.box Bx.d at hb
  show PyData.tuple [.str (nmB bs (i+1)),.str (nmB bs ((psB bs).getD i 0)),.int (if i+1=i0+1 then l else (scB bs).L (i+1)),.int (if i+1=i0+1 then t else (scB bs).T (i+1)),.int ((scB bs).W (i+1)),.int ((scB bs).H (i+1)),.str ((scB bs).mr (i+1))]=Bx.d (if b.nm=b0.nm then _ else _)
  have k:=nm_dec v h0 h2
  injection hb with hb
  simp only [List.cons.injEq,and_true] at hb
  obtain ⟨e1,e2,e3,e4,e5,e6,e7⟩:=hb
  by_cases hq:i+1=i0+1
  · rw [if_pos hq,if_pos hq,if_pos (k.mpr hq)]
    unfold Bx.d
    rw [show PyData.str (nmB bs (i+1))=_ from e1,show PyData.str (nmB bs ((psB bs).getD i 0))=_ from e2,e5,e6,e7]
  · rw [if_neg hq,if_neg hq,if_neg (fun z=>hq (k.mp z))]
    unfold Bx.d
    rw [show PyData.str (nmB bs (i+1))=_ from e1,show PyData.str (nmB bs ((psB bs).getD i 0))=_ from e2,e3,e4,e5,e6,e7]
end
theorem asBx (bs:List Bx):(bs.map Bx.d).length=bs.length:=List.length_map ..
theorem B_has {bs:List Bx} (v:VB bs) {n:Str} (hn:PyData.strOk n=true):F_has_box [SD bs,.str n]=some (.bool (decide (n∈bs.map (·.nm)))):=by
  have e:sComp [none,some 1] (lI asTu (eV 0)) (tgN 0) tTrue (l2 pEq (l2 pIx (eV 0) (eC (.int 0))) (eV 1)) [.val (SD bs),.val (.str n)]=some ((bs.map fun x=>decide (x.nm=n)).map PyData.bool):=by
    refine comp_eq (ds:=bs.map Bx.d) (lI_of rfl rfl) (by rw [List.length_map]; have:=v.len; omega) ?_
    rw [List.map_map]
    exact cGo_mapT Bx.d (fun x=>PyData.bool (decide (x.nm=n))) bs fun x hx=>⟨_,rfl,l2_of (l2_of rfl rfl rfl) rfl (pEq_str (v.one x hx).2.1 hn)⟩
  refine run_of rfl (show g_has_box [.val (SD bs),.val (.str n)]=_ from ret_of (lA_of (aC_of (oE_of e) rfl) ((pAny_of _).trans ?_)))
  rw [List.any_map]
  congr 2
  rw [Bool.eq_iff_iff,List.any_eq_true,decide_eq_true_eq,List.mem_map]
  simp
theorem pGe_ok (i j:Int):pGe (.int i) (.int j)=some (.bool (decide (i ≥ j))):=rfl
theorem B_with {bs:List Bx} (v:VB bs) {b:Bx} (hl:bs.length < 12) (hn:b.nm∉bs.map (·.nm)) (ha:b.ar = "" ∨ b.ar∈bs.map (·.nm)) (h1:PyData.strOk b.nm=true) (h2:PyData.strOk b.ar=true):F_with_box [SD bs,b.d]=some (SD (bs++[b])):=by
  have e1:=B_has v h1
  have e2:=B_has v h2
  rw [decide_eq_false hn] at e1
  refine run_of rfl (show g_with_box F_has_box [.val (SD bs),.val b.d,.un,.un]=_ from ?_)
  refine seq_of (set_of (d:=.str b.nm) (l2_of rfl rfl rfl)) (seq_of (set_of (d:=.str b.ar) (l2_of rfl rfl rfl)) ?_)
  show sSeq _ _ [.val (SD bs),.val b.d,.val (.str b.nm),.val (.str b.ar)]=_
  refine seq_of (ifN (bT_of (lA_of (aC_of rfl (aC_of rfl rfl)) e1))) (seq_of (ifN ?_) (seq_of (ifN (bT_of (l2_of (lA_of (aC_of rfl rfl) rfl) rfl ((pGe_ok _ _).trans ?_)))) (ret_of (l2_of rfl (lA_of (aC_of rfl rfl) (tup1_ok (by simp))) ?_))))
  · have e3:bT (l2 pNe (eV 3) (eC (.str ""))) [.val (SD bs),.val b.d,.val (.str b.nm),.val (.str b.ar)]=some (!decide (b.ar = "")):=bT_of (l2_of rfl rfl (pNe_str h2 (by decide +kernel)))
    have e4:=bNot_of (bT_of (lA_of (o:=F_has_box) (η:=[.val (SD bs),.val b.d,.val (.str b.nm),.val (.str b.ar)]) (fs:=aC (eV 0) (aC (eV 3) aN)) (aC_of rfl (aC_of rfl rfl)) e2))
    rw [bAnd_of e3 e4]
    rcases ha with z | z
    · rw [decide_eq_true z]; rfl
    · rw [decide_eq_true z]; simp
  · rw [asBx,decide_eq_false (by omega)]
  · show pAdd (.tuple (bs.map Bx.d)) (.tuple [b.d])=_
    rw [addT (by rw [asBx]; show bs.length+1≤_; omega)]
    unfold SD
    rw [List.map_append]; rfl
theorem bx_lay {bs:List Bx} (h:∀ b∈bs,PyData.strOk b.nm=true∧PyData.strOk b.ar=true∧PyData.strOk b.mr=true):PyData.canLayAll0 (bs.map Bx.d)=true∧PyData.depthAll (bs.map Bx.d)≤1:=by
  induction bs with
  | nil=>exact ⟨rfl,by simp [PyData.depthAll]⟩
  | cons b r ih =>
    obtain ⟨h1,h2⟩:=ih fun b hb=>h b (List.mem_cons_of_mem _ hb)
    obtain ⟨k1,k2,k3⟩:=h b List.mem_cons_self
    refine ⟨?_,?_⟩
    · simp [Bx.d,PyData.canLayAll0,PyData.canLay0,k1,k2,k3,h1]
    · simp [Bx.d,PyData.depthAll,PyData.depth]
      omega
theorem VB.okar {bs:List Bx} (v:VB bs) {b:Bx} (hb:b∈bs):PyData.strOk b.ar=true:=by
  obtain ⟨i,hi⟩:=List.mem_iff_getElem?.mp hb
  rcases v.ar i b hi with z | ⟨j,b',_,h1,h2⟩
  · rw [z]; decide +kernel
  · rw [← h2]; exact (v.one b' (List.mem_of_getElem? h1)).2.1
theorem VB.lay {bs:List Bx} (v:VB bs):PyData.canLay0 (SD bs)=true∧PyData.depth (SD bs)≤2:=by
  obtain ⟨h1,h2⟩:=bx_lay fun b hb=>⟨(v.one b hb).2.1,v.okar hb,(v.one b hb).2.2⟩
  unfold SD
  exact ⟨by simpa [PyData.canLay0] using h1,by simp [PyData.depth]; omega⟩
end K53
namespace K53
open PySem L2 L2.PU
section
variable {w:Wd} {s s1 s2:Sto} {n k:Nat} {ds:List D} {d:D}
theorem mFld_of {o:MF} {nm:Str} {fs:List (Str×D)} (h1:o w=some (.r n,s)) (h2:s[n]?=some (.obj k fs)) (h3:fs.lookup nm=some d):mFld o nm w=some (d,s):=by
  unfold mFld
  rw [h1,Option.bind_some]
  dsimp only
  rw [h2]
  dsimp only
  rw [h3]; rfl
theorem mTruL_of {f:MF} (h1:f w=some (.r n,s)) (h2:s[n]?=some (.lst ds)):mTruL f w=some (!ds.isEmpty,s):=by
  unfold mTruL
  rw [h1,Option.bind_some]
  dsimp only
  rw [h2]
theorem mLenL_of {f:MF} (h1:f w=some (.r n,s)) (h2:s[n]?=some (.lst ds)):mLenL f w=some (.d (.int ds.length),s):=by
  unfold mLenL
  rw [h1,Option.bind_some]
  dsimp only
  rw [h2]
theorem mPopL_of {f:MF} {ds:List D} {d:D} (h1:f w=some (.r n,s)) (h2:s[n]?=some (.lst (ds++[d]))):mPopL f w=some (d,s.set n (.lst ds)):=by
  unfold mPopL
  rw [h1,Option.bind_some]
  dsimp only
  rw [h2]
  dsimp only
  rw [show (ds++[d]).length - 1=ds.length by simp,List.getElem?_append_right (Nat.le_refl _),Nat.sub_self,List.dropLast_concat]
  rfl
theorem mAppC_of {o g:MF} {ds0:List D} (h1:o w=some (.r n,s)) (h2:s[n]?=some (.lst ds0)) (h3:g ⟨w.η,s⟩=some (d,s1)) (h4:s1[n]?=some (.lst ds)) (hl:ds.length≤3000000):mAppC o g w=some (.d .none,s1.set n (.lst (ds++[d]))):=by
  unfold mAppC
  rw [h1,Option.bind_some]
  dsimp only
  rw [h2]
  dsimp only
  rw [h3,Option.bind_some]
  dsimp only
  rw [h4]
  dsimp only
  rw [if_pos (Nat.lt_of_le_of_lt hl (by show 3000000 < 2 ^ 24; decide))]
theorem mTupD_of {fs:MFs} {xs:List PyData} (h1:fs w=some (ds,s)) (h2:pDs s ds=some xs) (hl:xs.length≤3000000):mTupD fs w=some (.d (.tuple xs),s):=by
  unfold mTupD
  rw [h1,Option.bind_some,h2,Option.bind_some,if_pos (big hl)]
theorem mN0:mN (fun η=>(aN η).bind gL) w=some (.r w.s.length,w.s++[.lst []]):=rfl
theorem tmNot_of {f:MTF} {b:Bool} (h:f w=some (b,s)):tmNot f w=some (!b,s):=by
  unfold tmNot
  rw [h]; rfl
theorem tmOrS {f g:MTF} {r:Option (Bool×Sto)} (h1:f w=some (false,s1)) (h2:g ⟨w.η,s1⟩=r):tmOr f g w=r:=by
  unfold tmOr
  rw [h1]; exact h2
theorem mCall_of {fn:DFn} {fs:MFs} {r:Option (D×Sto)} (h1:fs w=some (ds,s1)) (h2:fn ds s1=r):mCall fn fs w=r:=by
  unfold mCall
  rw [h1]; exact h2
end
structure Ad where
  p:Nat
  n:Nat
  u:Nat
abbrev Ad.l (a:Ad):List Nat:=[a.p,a.n,a.u]
def pf (sc:PyData) (n u:Nat):List (Str×D):=[("scene", .d sc),("done", .r n),("undone", .r u)]
def rw1 (x:Str×PyData):D:=.d (.tuple [.str x.1,x.2])
structure Pl (s:Sto) (a:Ad) (sc:PyData) (dn un:List (Str×PyData)):Prop where
  ob:s[a.p]?=some (.obj 0 (pf sc a.n a.u))
  dn:s[a.n]?=some (.lst (dn.map rw1))
  un:s[a.u]?=some (.lst (un.map rw1))
  nu:a.n≠a.u
structure Mv (s s':Sto) (a a':Ad):Prop where
  len:s.length≤s'.length
  kp:∀ i,i < s.length→i∉a.l→s'[i]?=s[i]?
  ow:∀ i∈a'.l,i∈a.l∨s.length≤i
section
variable {s s':Sto} {a b a':Ad} {sc sc':PyData} {dn un dn' un':List (Str×PyData)}
theorem lt_of {i:Nat} {x:Cell} (h:s[i]?=some x):i < s.length:=(List.getElem?_eq_some_iff.mp h).1
theorem Pl.pn (P:Pl s a sc dn un):a.p≠a.n:=fun e=>by have:=P.ob; rw [e,P.dn] at this; cases this
theorem Pl.pu (P:Pl s a sc dn un):a.p≠a.u:=fun e=>by have:=P.ob; rw [e,P.un] at this; cases this
def obP (s:Sto) (sc:PyData) (n u:Nat):Str→Option PyData:=fun f=>((pf sc n u).lookup f).bind (pD s)
theorem vw1 {p n u:Nat} {η:MEn} (hc:s[p]?=some (.obj 0 (pf sc n u))):vw ⟨some (.r p)::η,s⟩=.ob (obP s sc n u)::vw ⟨η,s⟩:=by
  unfold vw
  rw [List.map_cons,vwS_obj hc]; rfl
theorem f_scene {n u:Nat} (l:En):eFld 0 "scene" (.ob (obP s sc n u)::l)=some sc:=by rfl
theorem lk_done {n u:Nat}:(pf sc n u).lookup ("done" : Str)=some (D.r n):=by rfl
theorem lk_undone {n u:Nat}:(pf sc n u).lookup ("undone" : Str)=some (D.r u):=by rfl
theorem put_undone {n u m:Nat}:putA ("undone" : Str) (.r m) (pf sc n u)=pf sc n m:=by rfl
theorem pf_len {n u:Nat}:(pf sc n u).length < 999:=by show 3 < 999; decide
theorem set_at {i:Nat} {x y:Cell} (h:s[i]?=some y):(s.set i x)[i]?=some x:=List.getElem?_set_self (lt_of h)
theorem F_now (P:Pl s a sc dn un):F_X_now [.r a.p] s=some (.d sc,s):=by
  refine mRun_of rfl (show g_X_now ⟨[some (.r a.p)],s⟩=_ from mRet_of (mP_of ?_))
  rw [vw1 P.ob]; rfl
def szD (dn un:List (Str×PyData)):PyData:=.tuple [.int dn.length,.int un.length]
theorem F_sizes (P:Pl s a sc dn un):F_X_sizes [.r a.p] s=some (.d (szD dn un),s):=by
  refine mRun_of rfl (show g_X_sizes ⟨[some (.r a.p)],s⟩=_ from mRet_of ?_)
  have e1:=mLenL_of (f:=mFld (mV 0) "done") (w:=⟨[some (.r a.p)],s⟩) (mFld_of rfl P.ob lk_done) P.dn
  have e2:=mLenL_of (f:=mFld (mV 0) "undone") (w:=⟨[some (.r a.p)],s⟩) (mFld_of rfl P.ob lk_undone) P.un
  rw [List.length_map] at e1 e2
  exact mTupD_of (maC_of e1 (maC_of e2 maN_of)) rfl (by simp)
theorem rw1_app (l:List (Str×PyData)) (x:Str×PyData):l.map rw1++[rw1 x]=(l++[x]).map rw1:=by rw [List.map_append]; rfl
theorem F_step_to (P:Pl s a sc dn un) (hd:dn.length≤1000) (w:Str) (S:PyData):∃ s',F_X_step_to [.r a.p,.d (.str w),.d S] s=some (.d .none,s')∧Pl s' ⟨a.p,a.n,s.length⟩ S (dn++[(w,sc)]) []∧Mv s s' a ⟨a.p,a.n,s.length⟩:=by
  have hp:=lt_of P.ob
  have hn:=lt_of P.dn
  have s1:∃ s1,s1=s.set a.n (.lst ((dn++[(w,sc)]).map rw1)):=⟨_,rfl⟩
  obtain ⟨s1,e1⟩:=s1
  have l1:s1.length=s.length:=by rw [e1,List.length_set]
  have o1:s1[a.p]?=some (.obj 0 (pf sc a.n a.u)):=by rw [e1,List.getElem?_set_ne P.pn.symm]; exact P.ob
  have o2:(s1++[Cell.lst []])[a.p]?=some (.obj 0 (pf sc a.n a.u)):=by rw [List.getElem?_append_left (by omega)]; exact o1
  have s2:∃ s2,s2=(s1++[Cell.lst []]).set a.p (.obj 0 (pf sc a.n s.length)):=⟨_,rfl⟩
  obtain ⟨s2,e2⟩:=s2
  have o3:s2[a.p]?=some (.obj 0 (pf sc a.n s.length)):=by rw [e2]; exact set_at o2
  have l2:s2.length=s.length+1:=by rw [e2,List.length_set,List.length_append,l1]; rfl
  refine ⟨s2.set a.p (.obj 0 (pf S a.n s.length)),?_,⟨set_at o3,?_,?_,by show a.n≠s.length; omega⟩,⟨by rw [List.length_set,l2]; omega,fun i hi ho=>?_,fun i hi=>?_⟩⟩
  · refine mRunN (w1:=⟨[some (.r a.p),some (.d (.str w)),some (.d S)],s2.set a.p (.obj 0 (pf S a.n s.length))⟩) rfl ?_
    show g_X_step_to ⟨[some (.r a.p),some (.d (.str w)),some (.d S)],s⟩=_
    refine mSeq_of (w1:=⟨[some (.r a.p),some (.d (.str w)),some (.d S)],s1⟩) ?_ (mSeq_of (w1:=⟨[some (.r a.p),some (.d (.str w)),some (.d S)],s2⟩) ?_ ?_)
    · rw [e1,← rw1_app]
      refine mExp_of (mAppC_of (mFld_of rfl P.ob lk_done) P.dn (mP_of ?_) P.dn (by rw [List.length_map]; omega))
      rw [vw1 P.ob]
      exact lA_of (aC_of rfl (aC_of (f_scene _) rfl)) (tup1_ok (by simp))
    · rw [mPut_of (s1:=s1++[.lst []]) mN0 rfl o2 pf_len,put_undone,e2]
      dsimp only
      rw [l1]
    · exact (mPut_of (mP_of rfl) rfl o3 pf_len)
  · show (s2.set a.p _)[a.n]?=_
    rw [List.getElem?_set_ne P.pn,e2,List.getElem?_set_ne P.pn,List.getElem?_append_left (by omega),e1]
    exact set_at P.dn
  · show (s2.set a.p _)[s.length]?=_
    rw [List.getElem?_set_ne (by omega),e2,List.getElem?_set_ne (by omega),List.getElem?_append_right (by omega),l1,Nat.sub_self]; rfl
  · have h:i≠a.p∧i≠a.n∧i≠a.u:=by simpa using ho
    rw [List.getElem?_set_ne (Ne.symm h.1),e2,List.getElem?_set_ne (Ne.symm h.1),List.getElem?_append_left (by omega),e1,List.getElem?_set_ne (Ne.symm h.2.1)]
  · have h:i=a.p∨i=a.n∨i=s.length:=by simpa using hi
    rcases h with rfl | rfl | rfl
    · exact .inl (by simp)
    · exact .inl (by simp)
    · exact .inr (Nat.le_refl _)
theorem emp (l:List (Str×PyData)) (x:Str×PyData):((l++[x]).map rw1).isEmpty=false:=by
  cases l <;> rfl
theorem mv_set3 {x y z:Cell}:Mv s (((s.set a.n x).set a.u y).set a.p z) a a:=⟨by rw [List.length_set,List.length_set,List.length_set]; exact Nat.le_refl _,fun i hi ho=>by
  have h:i≠a.p∧i≠a.n∧i≠a.u:=by simpa using ho
  rw [List.getElem?_set_ne (Ne.symm h.1),List.getElem?_set_ne (Ne.symm h.2.2),List.getElem?_set_ne (Ne.symm h.2.1)],fun _ h=>.inl h⟩
theorem F_back {w:Str} {S:PyData} (P:Pl s a sc (dn++[(w,S)]) un) (hd:un.length≤1000):∃ s',F_X_back [.r a.p] s=some (.d (.str w),s')∧Pl s' a S dn (un++[(w,sc)])∧Mv s s' a a:=by
  have pd:s[a.n]?=some (.lst (dn.map rw1++[rw1 (w,S)])):=by rw [rw1_app]; exact P.dn
  have s1:∃ s1,s1=s.set a.n (.lst (dn.map rw1)):=⟨_,rfl⟩
  obtain ⟨s1,e1⟩:=s1
  have o1:s1[a.p]?=some (.obj 0 (pf sc a.n a.u)):=by rw [e1,List.getElem?_set_ne P.pn.symm]; exact P.ob
  have u1:s1[a.u]?=some (.lst (un.map rw1)):=by rw [e1,List.getElem?_set_ne P.nu]; exact P.un
  have s2:∃ s2,s2=s1.set a.u (.lst ((un++[(w,sc)]).map rw1)):=⟨_,rfl⟩
  obtain ⟨s2,e2⟩:=s2
  have o2:s2[a.p]?=some (.obj 0 (pf sc a.n a.u)):=by rw [e2,List.getElem?_set_ne P.pu.symm]; exact o1
  refine ⟨s2.set a.p (.obj 0 (pf S a.n a.u)),?_,⟨set_at o2,?_,?_,P.nu⟩,by rw [e2,e1]; exact mv_set3⟩
  · refine mRun_of rfl (show g_X_back ⟨[some (.r a.p),none],s⟩=_ from ?_)
    refine mSeq_of (mIfN (tmNot_of (mTruL_of (mFld_of rfl P.ob lk_done) P.dn) |>.trans (by rw [emp]; rfl))) ?_
    refine mSeq_of (w1:=⟨[some (.r a.p),some (rw1 (w,S))],s1⟩) ?_ (mSeq_of (w1:=⟨[some (.r a.p),some (rw1 (w,S))],s2⟩) ?_ (mSeq_of (w1:=⟨[some (.r a.p),some (rw1 (w,S))],s2.set a.p (.obj 0 (pf S a.n a.u))⟩) ?_ (mRet_of (mP_of ?_))))
    · rw [e1]; exact mSet_of (mPopL_of (mFld_of rfl P.ob lk_done) pd)
    · rw [e2,← rw1_app]
      refine mExp_of (mAppC_of (mFld_of rfl o1 lk_undone) u1 (mP_of ?_) u1 (by rw [List.length_map]; omega))
      rw [vw1 o1]
      exact lA_of (aC_of (l2_of rfl rfl rfl) (aC_of (f_scene _) rfl)) (tup1_ok (by simp))
    · exact mPut_of (mP_of (l2_of rfl rfl rfl)) rfl o2 pf_len
    · exact l2_of rfl rfl rfl
  · rw [List.getElem?_set_ne P.pn,e2,List.getElem?_set_ne P.nu.symm,e1]; exact set_at P.dn
  · rw [List.getElem?_set_ne P.pu,e2]; exact set_at u1
theorem mv_set3' {x y z:Cell}:Mv s (((s.set a.u x).set a.n y).set a.p z) a a:=⟨by rw [List.length_set,List.length_set,List.length_set]; exact Nat.le_refl _,fun i hi ho=>by
  have h:i≠a.p∧i≠a.n∧i≠a.u:=by simpa using ho
  rw [List.getElem?_set_ne (Ne.symm h.1),List.getElem?_set_ne (Ne.symm h.2.1),List.getElem?_set_ne (Ne.symm h.2.2)],fun _ h=>.inl h⟩
theorem F_forth {w:Str} {S:PyData} (P:Pl s a sc dn (un++[(w,S)])) (hd:dn.length≤1000):∃ s',F_X_forth [.r a.p] s=some (.d (.str w),s')∧Pl s' a S (dn++[(w,sc)]) un∧Mv s s' a a:=by
  have pd:s[a.u]?=some (.lst (un.map rw1++[rw1 (w,S)])):=by rw [rw1_app]; exact P.un
  have s1:∃ s1,s1=s.set a.u (.lst (un.map rw1)):=⟨_,rfl⟩
  obtain ⟨s1,e1⟩:=s1
  have o1:s1[a.p]?=some (.obj 0 (pf sc a.n a.u)):=by rw [e1,List.getElem?_set_ne P.pu.symm]; exact P.ob
  have u1:s1[a.n]?=some (.lst (dn.map rw1)):=by rw [e1,List.getElem?_set_ne P.nu.symm]; exact P.dn
  have s2:∃ s2,s2=s1.set a.n (.lst ((dn++[(w,sc)]).map rw1)):=⟨_,rfl⟩
  obtain ⟨s2,e2⟩:=s2
  have o2:s2[a.p]?=some (.obj 0 (pf sc a.n a.u)):=by rw [e2,List.getElem?_set_ne P.pn.symm]; exact o1
  refine ⟨s2.set a.p (.obj 0 (pf S a.n a.u)),?_,⟨set_at o2,?_,?_,P.nu⟩,by rw [e2,e1]; exact mv_set3'⟩
  · refine mRun_of rfl (show g_X_forth ⟨[some (.r a.p),none],s⟩=_ from ?_)
    refine mSeq_of (mIfN (tmNot_of (mTruL_of (mFld_of rfl P.ob lk_undone) P.un) |>.trans (by rw [emp]; rfl))) ?_
    refine mSeq_of (w1:=⟨[some (.r a.p),some (rw1 (w,S))],s1⟩) ?_ (mSeq_of (w1:=⟨[some (.r a.p),some (rw1 (w,S))],s2⟩) ?_ (mSeq_of (w1:=⟨[some (.r a.p),some (rw1 (w,S))],s2.set a.p (.obj 0 (pf S a.n a.u))⟩) ?_ (mRet_of (mP_of ?_))))
    · rw [e1]; exact mSet_of (mPopL_of (mFld_of rfl P.ob lk_undone) pd)
    · rw [e2,← rw1_app]
      refine mExp_of (mAppC_of (mFld_of rfl o1 lk_done) u1 (mP_of ?_) u1 (by rw [List.length_map]; omega))
      rw [vw1 o1]
      exact lA_of (aC_of (l2_of rfl rfl rfl) (aC_of (f_scene _) rfl)) (tup1_ok (by simp))
    · exact mPut_of (mP_of (l2_of rfl rfl rfl)) rfl o2 pf_len
    · exact l2_of rfl rfl rfl
  · rw [List.getElem?_set_ne P.pn,e2]; exact set_at u1
  · rw [List.getElem?_set_ne P.pu,e2,List.getElem?_set_ne P.nu,e1]; exact set_at P.un
theorem F_init (s0:Sto) (x:PyData):F_X___init__ [.r s0.length,.d x] (s0++[.obj 0 []])=some (.d .none,s0++[.obj 0 (pf x (s0.length+1) (s0.length+2)),.lst [],.lst []]):=by
  have ge:∀ (c:Cell) (t:Sto),(s0++c::t)[s0.length]?=some c:=fun c t=>by rw [List.getElem?_append_right (Nat.le_refl _),Nat.sub_self]; rfl
  have st:∀ (c c':Cell) (t:Sto),(s0++c::t).set s0.length c'=s0++c'::t:=fun c c' t=>by rw [List.set_append_right _ _ (Nat.le_refl _),Nat.sub_self]; rfl
  refine mRunN (w1:=⟨[some (.r s0.length),some (.d x)],s0++[.obj 0 (pf x (s0.length+1) (s0.length+2)),.lst [],.lst []]⟩) rfl ?_
  show g_X___init__ ⟨[some (.r s0.length),some (.d x)],s0++[.obj 0 []]⟩=_
  have p1:mPut 0 "scene" (mV 0) (mP (eV 1)) ⟨[some (.r s0.length),some (.d x)],s0++[.obj 0 []]⟩=some (.nx ⟨[some (.r s0.length),some (.d x)],s0++[.obj 0 [("scene", .d x)]]⟩):=by
    rw [mPut_of (d:=.d x) (n:=s0.length) (fs:=[]) (mP_of rfl) rfl (ge _ _) (by decide)]
    dsimp only
    rw [st]; rfl
  have p2:mPut 0 "done" (mV 0) (mN (fun η=>(aN η).bind gL)) ⟨[some (.r s0.length),some (.d x)],s0++[.obj 0 [("scene", .d x)]]⟩=some (.nx ⟨[some (.r s0.length),some (.d x)],s0++[.obj 0 [("scene", .d x),("done", .r (s0.length+1))],.lst []]⟩):=by
    rw [mPut_of (n:=s0.length) (s1:=(s0++[.obj 0 [("scene", .d x)]])++[.lst []]) (fs:=[("scene", .d x)]) mN0 rfl (by rw [List.append_assoc]; exact ge _ _) (by simp)]
    dsimp only
    rw [List.append_assoc,List.length_append]
    rw [show s0++([Cell.obj 0 [("scene", .d x)]]++[Cell.lst []])=s0++Cell.obj 0 [("scene", .d x)]::[.lst []] from rfl,st]; rfl
  refine mSeq_of p1 (mSeq_of p2 ?_)
  rw [mPut_of (n:=s0.length) (s1:=(s0++[.obj 0 [("scene", .d x),("done", .r (s0.length+1))],.lst []])++[.lst []]) (fs:=[("scene", .d x),("done", .r (s0.length+1))]) mN0 rfl (by rw [List.append_assoc]; exact ge _ _) (by simp)]
  dsimp only
  rw [List.append_assoc,List.length_append]
  rw [show s0++([Cell.obj 0 [("scene", .d x),("done", .r (s0.length+1))],Cell.lst []]++[Cell.lst []])=s0++Cell.obj 0 [("scene", .d x),("done", .r (s0.length+1))]::[.lst [],.lst []] from rfl,st]; rfl
end
end K53
namespace K53
open PySem L2 L2.PU
section
variable {s s':Sto} {a b a':Ad} {sc sc':PyData} {dn un dn' un':List (Str×PyData)}
def Did (s s':Sto) (a:Ad) (sc S:PyData) (dn:List (Str×PyData)) (w:Str):Prop:=Pl s' ⟨a.p,a.n,s.length⟩ S (dn++[(w,sc)]) []∧Mv s s' a ⟨a.p,a.n,s.length⟩
theorem lk_no (sc:PyData) (n u:Nat):(pf sc n u).lookup ("step_to" : Str)=none:=by rfl
theorem M_put (P:Pl s a sc dn un) (hd:dn.length≤1000) {b S:PyData} (h:F_with_box [sc,b]=some S):∃ s',F_X_put [.r a.p,.d b] s=some (.d .none,s')∧Did s s' a sc S dn "put" := by
  obtain ⟨s',e,q⟩:=F_step_to P hd "put" S
  refine ⟨s',?_,q⟩
  refine mRunN (w1:=⟨[some (.r a.p),some (.d b)],s'⟩) rfl (show g_X_put F_X_step_to F_with_box ⟨[some (.r a.p),some (.d b)],s⟩=_ from mExp_of (mMeth_of rfl P.ob (lk_no ..) (maC_of (s1:=s) (mP_of rfl) (maC_of (s1:=s) (mP_of ?_) maN_of)) e))
  rw [vw1 P.ob]
  exact lA_of (aC_of (f_scene _) (aC_of rfl rfl)) h
theorem M_lift (P:Pl s a sc dn un) (hd:dn.length≤1000) {b S:PyData} (h:F_raised [sc,b]=some S):∃ s',F_X_lift [.r a.p,.d b] s=some (.d .none,s')∧Did s s' a sc S dn "lift" := by
  obtain ⟨s',e,q⟩:=F_step_to P hd "lift" S
  refine ⟨s',?_,q⟩
  refine mRunN (w1:=⟨[some (.r a.p),some (.d b)],s'⟩) rfl (show g_X_lift F_X_step_to F_raised ⟨[some (.r a.p),some (.d b)],s⟩=_ from mExp_of (mMeth_of rfl P.ob (lk_no ..) (maC_of (s1:=s) (mP_of rfl) (maC_of (s1:=s) (mP_of ?_) maN_of)) e))
  rw [vw1 P.ob]
  exact lA_of (aC_of (f_scene _) (aC_of rfl rfl)) h
theorem M_take (P:Pl s a sc dn un) (hd:dn.length≤1000) {b S g:PyData} (h1:F_below 13 [sc,b]=some g) (h:F_cut [sc,b]=some S):∃ s',F_X_take [.r a.p,.d b] s=some (.d g,s')∧Did s s' a sc S dn "take" := by
  obtain ⟨s',e,q⟩:=F_step_to P hd "take" S
  refine ⟨s',?_,q⟩
  refine mRun_of rfl (show g_X_take (F_below 13) F_X_step_to F_cut ⟨[some (.r a.p),some (.d b),none],s⟩=_ from mSeq_of (w1:=⟨[some (.r a.p),some (.d b),some (.d g)],s⟩) (mSet_of (mP_of ?_)) (mSeq_of (w1:=⟨[some (.r a.p),some (.d b),some (.d g)],s'⟩) (mExp_of (mMeth_of rfl P.ob (lk_no ..) (maC_of (s1:=s) (mP_of rfl) (maC_of (s1:=s) (mP_of ?_) maN_of)) e)) (mRet_of (mP_of rfl))))
  · rw [vw1 P.ob]
    exact lA_of (aC_of (f_scene _) (aC_of rfl rfl)) h1
  · rw [vw1 P.ob]
    exact lA_of (aC_of (f_scene _) (aC_of rfl rfl)) h
theorem M_mark (P:Pl s a sc dn un) (hd:dn.length≤1000) {b m S:PyData} {x:Bx} (h1:F_box_of [sc,b]=some x.d) (h:F_marked [sc,b,m]=some S):∃ s',F_X_mark [.r a.p,.d b,.d m] s=some (.d (.str x.mr),s')∧Did s s' a sc S dn "mark" := by
  obtain ⟨s',e,q⟩:=F_step_to P hd "mark" S
  refine ⟨s',?_,q⟩
  refine mRun_of rfl (show g_X_mark F_box_of F_X_step_to F_marked ⟨[some (.r a.p),some (.d b),some (.d m),none],s⟩=_ from mSeq_of (w1:=⟨[some (.r a.p),some (.d b),some (.d m),some (.d x.d)],s⟩) (mSet_of (mP_of ?_)) (mSeq_of (w1:=⟨[some (.r a.p),some (.d b),some (.d m),some (.d x.d)],s'⟩) (mExp_of (mMeth_of rfl P.ob (lk_no ..) (maC_of (s1:=s) (mP_of rfl) (maC_of (s1:=s) (mP_of ?_) maN_of)) e)) (mRet_of (mP_of (l2_of rfl rfl rfl)))))
  · rw [vw1 P.ob]
    exact lA_of (aC_of (f_scene _) (aC_of rfl rfl)) h1
  · rw [vw1 P.ob]
    exact lA_of (aC_of (f_scene _) (aC_of rfl (aC_of rfl rfl))) h
theorem M_lay (P:Pl s a sc dn un) (hd:dn.length≤1000) {b l t S:PyData} {x:Bx} (h1:F_box_of [sc,b]=some x.d) (h:F_put_at [sc,b,l,t]=some S):∃ s',F_X_lay [.r a.p,.d b,.d l,.d t] s=some (.d (.tuple [.int x.l,.int x.t]),s')∧Did s s' a sc S dn "lay" := by
  obtain ⟨s',e,q⟩:=F_step_to P hd "lay" S
  refine ⟨s',?_,q⟩
  refine mRun_of rfl (show g_X_lay F_box_of F_X_step_to F_put_at ⟨[some (.r a.p),some (.d b),some (.d l),some (.d t),none],s⟩=_ from mSeq_of (w1:=⟨[some (.r a.p),some (.d b),some (.d l),some (.d t),some (.d x.d)],s⟩) (mSet_of (mP_of ?_)) (mSeq_of (w1:=⟨[some (.r a.p),some (.d b),some (.d l),some (.d t),some (.d x.d)],s'⟩) (mExp_of (mMeth_of rfl P.ob (lk_no ..) (maC_of (s1:=s) (mP_of rfl) (maC_of (s1:=s) (mP_of ?_) maN_of)) e)) (mRet_of (mP_of (eSl_of rfl (pS_of rfl) (pS_of rfl) rfl)))))
  · rw [vw1 P.ob]
    exact lA_of (aC_of (f_scene _) (aC_of rfl rfl)) h1
  · rw [vw1 P.ob]
    exact lA_of (aC_of (f_scene _) (aC_of rfl (aC_of rfl (aC_of rfl rfl)))) h
end
end K53
namespace K53
open PySem L2 L2.PU
def dnL (W:Nat→Str) (S:Nat→PyData) (k:Nat):List (Str×PyData):=(List.range k).map fun i=>(W (i+1),S i)
def unL (W:Nat→Str) (S:Nat→PyData) (m k:Nat):List (Str×PyData):=(List.range (m - k)).map fun i=>(W (m - i),S (m - i))
theorem dnL_len (W:Nat→Str) (S:Nat→PyData) (k:Nat):(dnL W S k).length=k:=by unfold dnL; rw [List.length_map,List.length_range]
theorem unL_len (W:Nat→Str) (S:Nat→PyData) (m k:Nat):(unL W S m k).length=m - k:=by unfold unL; rw [List.length_map,List.length_range]
theorem dnL_succ (W:Nat→Str) (S:Nat→PyData) (k:Nat):dnL W S (k+1)=dnL W S k++[(W (k+1),S k)]:=by
  unfold dnL
  rw [List.range_succ,List.map_append]; rfl
theorem unL_succ (W:Nat→Str) (S:Nat→PyData) {m k:Nat} (h:k < m):unL W S m k=unL W S m (k+1)++[(W (k+1),S (k+1))]:=by
  unfold unL
  rw [show m - k=(m - (k+1))+1 by omega,List.range_succ,List.map_append]
  show _++[(W (m - (m - (k+1))),S (m - (m - (k+1))))]=_
  rw [show m - (m - (k+1))=k+1 by omega]
theorem unL_self (W:Nat→Str) (S:Nat→PyData) (m:Nat):unL W S m m=[]:=by unfold unL; rw [Nat.sub_self]; rfl
theorem dnL_congr {W W':Nat→Str} {S S':Nat→PyData} {k:Nat} (h1:∀ i,i≤k→W i=W' i) (h2:∀ i,i≤k→S i=S' i):dnL W S k=dnL W' S' k:=by
  unfold dnL
  refine List.map_congr_left fun i hi=>?_
  have:=List.mem_range.mp hi
  rw [h1 (i+1) (by omega),h2 i (by omega)]
abbrev At (s:Sto) (a:Ad) (W:Nat→Str) (S:Nat→PyData) (m k:Nat):Prop:=Pl s a (S k) (dnL W S k) (unL W S m k)
section
variable {s:Sto} {a:Ad} {W:Nat→Str} {S:Nat→PyData} {m k:Nat}
theorem At.back (A:At s a W S m (k+1)) (hk:k < m) (hm:m≤100):∃ s',F_X_back [.r a.p] s=some (.d (.str (W (k+1))),s')∧At s' a W S m k∧Mv s s' a a:=by
  have P:Pl s a (S (k+1)) (dnL W S k++[(W (k+1),S k)]) (unL W S m (k+1)):=by rw [← dnL_succ]; exact A
  obtain ⟨s',e,q,mv⟩:=F_back P (by rw [unL_len]; omega)
  rw [← unL_succ W S hk] at q
  exact ⟨s',e,q,mv⟩
theorem At.forth (A:At s a W S m k) (hk:k < m) (hm:m≤100):∃ s',F_X_forth [.r a.p] s=some (.d (.str (W (k+1))),s')∧At s' a W S m (k+1)∧Mv s s' a a:=by
  have P:Pl s a (S k) (dnL W S k) (unL W S m (k+1)++[(W (k+1),S (k+1))]):=by rw [← unL_succ W S hk]; exact A
  obtain ⟨s',e,q,mv⟩:=F_forth P (by rw [dnL_len]; omega)
  rw [← dnL_succ] at q
  exact ⟨s',e,q,mv⟩
def szK (m k:Nat):PyData:=.tuple [.int (k:Int),.int ((m:Int) - (k:Int))]
theorem At.sizes (A:At s a W S m k) (hk:k≤m):F_X_sizes [.r a.p] s=some (.d (szK m k),s):=by
  rw [F_sizes A]
  unfold szD szK
  rw [dnL_len,unL_len,show ((m - k:Nat):Int)=(m:Int) - k by omega]
end
theorem shaped_sz (m k:Nat):SeqAt.shaped (szK m k)=true:=by simp [szK,SeqAt.shaped,PyData.canLay0,PyData.canLayAll0,PyData.depth,PyData.depthAll]
theorem shaped_S {bs:List Bx} (v:VB bs):SeqAt.shaped (SD bs)=true:=by
  obtain ⟨h1,h2⟩:=v.lay
  unfold SeqAt.shaped
  rw [h1]
  simp
  omega
theorem rng_go {ks:List Nat} {t:En→PyData→Option En} {body:Wd→Option MOut} (Z:Nat→PyData) (Inv:Nat→Wd→Prop) (n:Nat) (st:∀ k w,k < n→Inv k w→∃ w1 w2,mTg ks t w (Z k)=some w1∧body w1=some (.nx w2)∧Inv (k+1) w2) {w:Wd} (h0:Inv 0 w) :
    ∃ w',mGo ks t body ((List.range n).map Z) w=some (.nx w')∧Inv n w':=by
  have key:∀ (j k:Nat) (w:Wd),k+j=n→Inv k w→∃ w',mGo ks t body ((List.range' k j).map Z) w=some (.nx w')∧Inv n w':=by
    intro j
    induction j with
    | zero=>intro k w e h; exact ⟨w,rfl,by rw [← e]; exact h⟩
    | succ j ih =>
      intro k w e h
      obtain ⟨w1,w2,h1,h2,h3⟩:=st k w (by omega) h
      obtain ⟨w',e1,e2⟩:=ih (k+1) w2 (by omega) h3
      refine ⟨w',?_,e2⟩
      rw [List.range'_succ,List.map_cons]
      unfold mGo
      rw [h1,Option.bind_some,h2,Option.bind_some]
      exact e1
  rw [List.range_eq_range']
  exact key n 0 w (by omega) h0
end K53
namespace K53
open PySem L2 L2.PU
theorem lk_now (sc:PyData) (n u:Nat):(pf sc n u).lookup ("now" : Str)=none∧(pf sc n u).lookup ("sizes" : Str)=none∧(pf sc n u).lookup ("back" : Str)=none∧(pf sc n u).lookup ("forth" : Str)=none∧(pf sc n u).lookup ("twin" : Str)=none:=⟨rfl,rfl,rfl,rfl,rfl⟩
section
variable {w:Wd} {s s':Sto} {a:Ad} {sc:PyData} {dn un:List (Str×PyData)} {W:Nat→Str} {S:Nat→PyData} {m k i:Nat} {d:D}
theorem c_now {o:MF} (P:Pl s a sc dn un) (h:o w=some (.r a.p,s)):mMeth 0 "now" F_X_now o maN w=some (.d sc,s):=mMeth_of h P.ob (lk_now ..).1 rfl (F_now P)
theorem c_sizes {o:MF} (A:At s a W S m k) (hk:k≤m) (h:o w=some (.r a.p,s)):mMeth 0 "sizes" F_X_sizes o maN w=some (.d (szK m k),s):=mMeth_of h A.ob (lk_now ..).2.1 rfl (A.sizes hk)
theorem ne_same {f g:MF} {s1 s2:Sto} {x:PyData} (h1:f w=some (.d x,s1)) (h2:g ⟨w.η,s1⟩=some (.d x,s2)) (hx:SeqAt.shaped x=true):mB (mOpL pNe f g) w=some (false,s2):=mB_of (mOpL_of h1 h2 rfl rfl (pNe_self hx) rfl)
end
end K53
namespace K53
open PySem L2 L2.PU
theorem xOr_no {g g':En→Option Nat} {η:En} (h1:g η=none) (h2:g' η=none):xOr g g' η=none:=by
  unfold xOr; rw [h1]; exact h2
theorem xOr_l {g g':En→Option Nat} {η:En} {c:Nat} (h1:g η=some c):xOr g g' η=some c:=by
  unfold xOr; rw [h1]
theorem xOr_r {g g':En→Option Nat} {η:En} {c:Option Nat} (h1:g η=none) (h2:g' η=c):xOr g g' η=c:=by
  unfold xOr; rw [h1]; exact h2
theorem xIf_of {p:En→Option Bool} {g g':En→Option Nat} {η:En} {b:Bool} (h:p η=some b):xIf p g g' η=if b=true then g η else g' η:=by
  unfold xIf; rw [h]; rfl
theorem xIfT {p:En→Option Bool} {g g':En→Option Nat} {η:En} {r:Option Nat} (h:p η=some true) (h2:g η=r):xIf p g g' η=r:=by
  rw [xIf_of h,if_pos rfl]; exact h2
theorem xIfF {p:En→Option Bool} {g g':En→Option Nat} {η:En} {r:Option Nat} (h:p η=some false) (h2:g' η=r):xIf p g g' η=r:=by
  rw [xIf_of h,if_neg (by decide)]; exact h2
theorem xCall {fs:En→Option (List PyData)} {fx:List PyData→Option Nat} {η:En} {ds:List PyData} {r:Option Nat} (h1:fs η=some ds) (h2:fx ds=r):(fun η=>(fs η).bind fx) η=r:=by
  show (fs η).bind fx=r
  rw [h1]; exact h2
theorem xSeq_rt {u:En→Option Out} {g:En→Option Nat} {η:En} {d:PyData} (h:u η=some (.rt d)):xSeq u g η=none:=by
  unfold xSeq; rw [h]; rfl
theorem xSeq_nx {u:En→Option Out} {g:En→Option Nat} {η η':En} {r:Option Nat} (h:u η=some (.nx η')) (h2:g η'=r):xSeq u g η=r:=by
  unfold xSeq; rw [h]; exact h2
theorem runX_of {n m:Nat} {g:En→Option Nat} {ds:List PyData} {r:Option Nat} (hl:ds.length=n) (h:g (ds.map Sl.val++List.replicate (m - n) .un)=r):runX n m g ds=r:=by
  unfold runX; rw [if_pos hl]; exact h
structure Bad (c:Sc) (b:Str):Prop where
  ok:PyData.strOk b=true
  len:b.length≤50
  cps:(b.cps.toList.all fun x=>decide (x < 16 ^ 8))=true
  no:∀ x∈c.st,c.nm x.1≠b
section
variable {c:Sc} {ps:List Nat} (t:Tr c ps)
include t
theorem loop_bad {b:Str} (hb:Bad c b):∃ s,sFor (lI asTu (eV 0)) (tgN 2) (sIf (bT (l2 pEq (l2 pIx (eV 2) (eC (.int 0))) (eV 1))) (sRet (eV 2)) sNx) [.val c.d,.val (.str b),.un]=some (.nx [.val c.d,.val (.str b),s]):=by
  obtain ⟨η',e,s,rfl⟩:=sGo_all (t:=tgN 2) (body:=sIf (bT (l2 pEq (l2 pIx (eV 2) (eC (.int 0))) (eV 1))) (sRet (eV 2)) sNx) c.box (fun _ η=>∃ s,η=[.val c.d,.val (.str b),s]) c.st (η:=[.val c.d,.val (.str b),.un])
    (by
      rintro done x rest η hall ⟨s,rfl⟩
      have hx:x∈c.st:=by rw [hall]; simp
      exact ⟨_,_,rfl,ifN (bT_of (l2_of (l2_of rfl rfl rfl) rfl ((pEq_str (t.ok.ok _) hb.ok).trans (by rw [decide_eq_false (hb.no x hx)])))),_,rfl⟩) ⟨_,rfl⟩
  exact ⟨s,for_of (lI_of rfl rfl) e⟩
theorem FX_bad {b:Str} (hb:Bad c b):FX_box_of [c.d,.str b]=some 0∧FX_below [c.d,.str b]=some 0:=by
  have e0:FX_box_of [c.d,.str b]=some 0:=by
    obtain ⟨s,e⟩:=loop_bad t hb
    refine runX_of rfl (show gx_box_of [.val c.d,.val (.str b),.un]=_ from xSeq_nx e ?_)
    have hp:pRep (eV 1) [.val c.d,.val (.str b),s]=true:=by
      show (decide (b.length≤50)&&b.cps.toList.all fun x=>decide (x < 16 ^ 8))=true
      rw [decide_eq_true hb.len,hb.cps]; rfl
    show (if (pYes _&&pRep (eV 1) [.val c.d,.val (.str b),s])=true then some 0 else none)=_
    rw [hp]; rfl
  exact ⟨e0,runX_of rfl (show gx_below FX_box_of [.val c.d,.val (.str b),.un,.un]=_ from xCall (aC_of rfl (aC_of rfl rfl)) e0)⟩
theorem FX_good {q:Nat} (hq:In ps q):FX_box_of [c.d,c.s q]=none∧FX_below [c.d,c.s q]=none:=by
  have e0:FX_box_of [c.d,c.s q]=none:=by
    have e:=box_go t.ok q (par ps q) c.st (by rw [t.st]; exact parN_st hq.1 hq.2) .un
    exact runX_of rfl (show gx_box_of [.val c.d,.val (c.s q),.un]=_ from xSeq_rt (for_of (lI_of rfl rfl) e))
  exact ⟨e0,runX_of rfl (show gx_below FX_box_of [.val c.d,.val (c.s q),.un,.un]=_ from xCall (aC_of rfl (aC_of rfl rfl)) e0)⟩
theorem FX4_bad {b:Str} (hb:Bad c b) (m:PyData) (l r:PyData):FX_cut [c.d,.str b]=some 0∧FX_raised [c.d,.str b]=some 0∧FX_marked [c.d,.str b,m]=some 0∧FX_put_at [c.d,.str b,l,r]=some 0:=by
  obtain ⟨e0,e1⟩:=FX_bad t hb
  exact ⟨runX_of rfl (show gx_cut FX_below [.val c.d,.val (.str b),.un]=_ from xCall (aC_of rfl (aC_of rfl rfl)) e1),
    runX_of rfl (show gx_raised (F_below 13) FX_below FX_cut [.val c.d,.val (.str b),.un]=_ from xOr_l (xCall (aC_of rfl (aC_of rfl rfl)) e1)),
    runX_of rfl (show gx_marked FX_box_of [.val c.d,.val (.str b),.val m,.un]=_ from xCall (aC_of rfl (aC_of rfl rfl)) e0),
    runX_of rfl (show gx_put_at FX_box_of [.val c.d,.val (.str b),.val l,.val r,.un]=_ from xCall (aC_of rfl (aC_of rfl rfl)) e0)⟩
theorem FX4_good {q:Nat} (hq:In ps q) (m:PyData) (l r:PyData):FX_cut [c.d,c.s q]=none∧FX_raised [c.d,c.s q]=none∧FX_marked [c.d,c.s q,m]=none∧FX_put_at [c.d,c.s q,l,r]=none:=by
  obtain ⟨e0,e1⟩:=FX_good t hq
  have e2:FX_cut [c.d,c.s q]=none:=runX_of rfl (show gx_cut FX_below [.val c.d,.val (c.s q),.un]=_ from xCall (aC_of rfl (aC_of rfl rfl)) e1)
  exact ⟨e2,
    runX_of rfl (show gx_raised (F_below 13) FX_below FX_cut [.val c.d,.val (c.s q),.un]=_ from xOr_no (xCall (aC_of rfl (aC_of rfl rfl)) e1) (xSeq_nx (set_of (lA_of (aC_of rfl (aC_of rfl rfl)) (T_below t hq))) (xCall (aC_of rfl (aC_of rfl rfl)) e2))),
    runX_of rfl (show gx_marked FX_box_of [.val c.d,.val (c.s q),.val m,.un]=_ from xCall (aC_of rfl (aC_of rfl rfl)) e0),
    runX_of rfl (show gx_put_at FX_box_of [.val c.d,.val (c.s q),.val l,.val r,.un]=_ from xCall (aC_of rfl (aC_of rfl rfl)) e0)⟩
end
end K53
namespace K53
open PySem L2 L2.PU
def toldX:MXF :=
  (mxOr (mxIf (tPv (bT (l2 pEq (eV 1) (eC (.int 0))))) (mxMeth 0 "put" FX_X_put (mV 0) (maC (mP (eV 4)) maN)) mxNo) (mxSeq (mIf (tPv (bT (l2 pEq (eV 1) (eC (.int 0))))) (mRet (mMeth 0 "put" F_X_put (mV 0) (maC (mP (eV 4)) maN))) mNx)
    (mxOr (mxIf (tPv (bT (l2 pLt (eV 1) (eC (.int 3))))) (mxIf (tPv (bT (l2 pEq (eV 1) (eC (.int 1))))) (mxMeth 0 "take" FX_X_take (mV 0) (maC (mP (eV 3)) maN)) (mxMeth 0 "lift" FX_X_lift (mV 0) (maC (mP (eV 3)) maN))) mxNo) (mxSeq (mIf (tPv (bT (l2 pLt (eV 1) (eC (.int 3))))) (mRet (mIfx (tPv (bT (l2 pEq (eV 1) (eC (.int 1))))) (mMeth 0 "take" F_X_take (mV 0) (maC (mP (eV 3)) maN)) (mMeth 0 "lift" F_X_lift (mV 0) (maC (mP (eV 3)) maN)))) mNx)
    (mxOr (mxIf (tPv (bT (l2 pLt (eV 1) (eC (.int 5))))) (mxIf (tPv (bT (l2 pEq (eV 1) (eC (.int 3))))) (mxMeth 0 "mark" FX_X_mark (mV 0) (maC (mP (eV 3)) (maC (mP (eV 5)) maN))) (mxMeth 0 "lay" FX_X_lay (mV 0) (maC (mP (eV 3)) (maC (mP (eV 6)) (maC (mP (eV 7)) maN))))) mxNo) (mxSeq (mIf (tPv (bT (l2 pLt (eV 1) (eC (.int 5))))) (mRet (mIfx (tPv (bT (l2 pEq (eV 1) (eC (.int 3))))) (mMeth 0 "mark" F_X_mark (mV 0) (maC (mP (eV 3)) (maC (mP (eV 5)) maN))) (mMeth 0 "lay" F_X_lay (mV 0) (maC (mP (eV 3)) (maC (mP (eV 6)) (maC (mP (eV 7)) maN)))))) mNx)
    (mxIf (tPv (bT (l2 pEq (eV 1) (eC (.int 5))))) (mxMeth 0 "back" FX_X_back (mV 0) maN) (mxMeth 0 "forth" FX_X_forth (mV 0) maN))))))))
def toldH:Nat→Option PyData:=(fun c=>if c < 4 then some (refD c) else none)
def toldU:Wd→Option MOut :=
  (mSeq (mIf (tPv (bT (l2 pEq (eV 1) (eC (.int 0))))) (mRet (mMeth 0 "put" F_X_put (mV 0) (maC (mP (eV 4)) maN))) mNx)
    (mSeq (mIf (tPv (bT (l2 pLt (eV 1) (eC (.int 3))))) (mRet (mIfx (tPv (bT (l2 pEq (eV 1) (eC (.int 1))))) (mMeth 0 "take" F_X_take (mV 0) (maC (mP (eV 3)) maN)) (mMeth 0 "lift" F_X_lift (mV 0) (maC (mP (eV 3)) maN)))) mNx)
    (mSeq (mIf (tPv (bT (l2 pLt (eV 1) (eC (.int 5))))) (mRet (mIfx (tPv (bT (l2 pEq (eV 1) (eC (.int 3))))) (mMeth 0 "mark" F_X_mark (mV 0) (maC (mP (eV 3)) (maC (mP (eV 5)) maN))) (mMeth 0 "lay" F_X_lay (mV 0) (maC (mP (eV 3)) (maC (mP (eV 6)) (maC (mP (eV 7)) maN)))))) mNx)
    (mRet (mIfx (tPv (bT (l2 pEq (eV 1) (eC (.int 5))))) (mMeth 0 "back" F_X_back (mV 0) maN) (mMeth 0 "forth" F_X_forth (mV 0) maN))))))
def lwB:Wd→Option MOut :=
  (mSeq (mSet 6 (mP (l2 pAdd (eC (.int 110)) (l2 pMul (eC (.int 8)) (eV 5)))))
    (mSeq (mSet 7 (mP (l2 pIx (eC (.list [(.int 0),(.int 0),(.int 0),(.int 1),(.int 2),(.int 3),(.int 4),(.int 5),(.int 6)])) (lA F_qdrawn (aC (eV 0) (aC (eV 6) (aC (eC (.int 9)) aN)))))))
    (mSeq (mSet 8 (mP (lA F_qsome (aC (eV 0) (aC (eV 6) aN)))))
    (mSeq (mIf (tPv (bT (l2 pGt (eV 7) (eC (.int 4))))) (mSeq (mSet 9 (mP (vIf (bT (l2 pEq (eV 7) (eC (.int 5)))) (l2 pSub (eV 4) (eC (.int 1))) (l2 pAdd (eV 4) (eC (.int 1))))))
    (mSeq (mSet 10 (mP (vIf (bT (lch pLe pLt (eC (.int 0)) (eV 9) (lA pLen (aC (eV 3) aN)))) (l2 pIx (l2 pIx (eV 3) (lA pMax (aC (eV 4) (aC (eV 9) aN)))) (eC (.int 0))) (lA (fun ds=>if ds.length≤sizeLine then some (.tuple ds) else none) (aC (eC (.str "refused")) (aC (eC (.int 3)) aN))))))
    (mSet 4 (mP (vIf (bT (lch pLe pLt (eC (.int 0)) (eV 9) (lA pLen (aC (eV 3) aN)))) (eV 9) (eV 4)))))) (mSeq (mUnp [10,11] (mP (lA F_qnext (aC (l2 pIx (l2 pIx (eV 3) (eV 4)) (eC (.int 1))) (aC (eV 7) (aC (eV 8) aN))))) (tgT (tgCons (tgN 10) (tgCons (tgN 11) tgNil))))
    (mIf (tPv (bT (l2 (pIsN true) (eV 11) (eC .none)))) (mSeq (mSet 3 (mP (l2 pAdd (eSl (eV 3) pN (pS (l2 pAdd (eV 4) (eC (.int 1))))) (oE (fun η=>((aC (lA (fun ds=>if ds.length≤sizeLine then some (.tuple ds) else none) (aC (l2 pIx (oE (fun η=>((aC (eC (.str "put")) (aC (eC (.str "take")) (aC (eC (.str "lift")) (aC (eC (.str "mark")) (aC (eC (.str "lay")) aN))))) η).bind gL)) (eV 7)) (aC (eV 11) aN))) aN) η).bind gL)))))
    (mSet 4 (mP (l2 pAdd (eV 4) (eC (.int 1)))))) mNx)))
    (mSeq (mIf (tmOr (mB (mOpL pNe (mCall F_qtold (maC (mV 2) (maC (mP (eV 7)) (maC (mP (eV 8)) maN)))) (mP (eV 10)))) (mB (mOpL pNe (mMeth 0 "now" F_X_now (mV 2) maN) (mP (l2 pIx (l2 pIx (eV 3) (eV 4)) (eC (.int 1))))))) (mRet (mP (eC (.bool false)))) mNx)
    (mIf (mB (mOpL pNe (mMeth 0 "sizes" F_X_sizes (mV 2) maN) (mP (lA (fun ds=>if ds.length≤sizeLine then some (.tuple ds) else none) (aC (eV 4) (aC (l2 pSub (l2 pSub (lA pLen (aC (eV 3) aN)) (eC (.int 1))) (eV 4)) aN)))))) (mRet (mP (eC (.bool false)))) mNx))))))
def lwI:Wd→Option MOut :=
  (mIf (tPv (bT (l2 pGt (eV 7) (eC (.int 4))))) (mSeq (mSet 9 (mP (vIf (bT (l2 pEq (eV 7) (eC (.int 5)))) (l2 pSub (eV 4) (eC (.int 1))) (l2 pAdd (eV 4) (eC (.int 1))))))
    (mSeq (mSet 10 (mP (vIf (bT (lch pLe pLt (eC (.int 0)) (eV 9) (lA pLen (aC (eV 3) aN)))) (l2 pIx (l2 pIx (eV 3) (lA pMax (aC (eV 4) (aC (eV 9) aN)))) (eC (.int 0))) (lA (fun ds=>if ds.length≤sizeLine then some (.tuple ds) else none) (aC (eC (.str "refused")) (aC (eC (.int 3)) aN))))))
    (mSet 4 (mP (vIf (bT (lch pLe pLt (eC (.int 0)) (eV 9) (lA pLen (aC (eV 3) aN)))) (eV 9) (eV 4)))))) (mSeq (mUnp [10,11] (mP (lA F_qnext (aC (l2 pIx (l2 pIx (eV 3) (eV 4)) (eC (.int 1))) (aC (eV 7) (aC (eV 8) aN))))) (tgT (tgCons (tgN 10) (tgCons (tgN 11) tgNil))))
    (mIf (tPv (bT (l2 (pIsN true) (eV 11) (eC .none)))) (mSeq (mSet 3 (mP (l2 pAdd (eSl (eV 3) pN (pS (l2 pAdd (eV 4) (eC (.int 1))))) (oE (fun η=>((aC (lA (fun ds=>if ds.length≤sizeLine then some (.tuple ds) else none) (aC (l2 pIx (oE (fun η=>((aC (eC (.str "put")) (aC (eC (.str "take")) (aC (eC (.str "lift")) (aC (eC (.str "mark")) (aC (eC (.str "lay")) aN))))) η).bind gL)) (eV 7)) (aC (eV 11) aN))) aN) η).bind gL)))))
    (mSet 4 (mP (l2 pAdd (eV 4) (eC (.int 1)))))) mNx)))
def nxB:En→Option Out :=
  (sSeq (sIf (bT (l2 pEq (eV 1) (eC (.int 0)))) (sRet (lA F_qput (aC (eV 0) (aC (eV 8) (aC (eV 4) aN))))) sNx)
    (sSeq (sIf (bT (l2 (pIn true) (eV 3) (eV 8))) (sRet (lA (fun ds=>if ds.length≤sizeLine then some (.tuple ds) else none) (aC (lA (fun ds=>if ds.length≤sizeLine then some (.tuple ds) else none) (aC (eC (.str "refused")) (aC (eC (.int 0)) aN))) (aC (eC .none) aN)))) sNx)
    (sSeq (sSet 9 (lA F_qbox (aC (eV 0) (aC (eV 3) aN))))
    (sSeq (sSet 10 (l2 pIdx (eV 8) (eV 3)))
    (sSeq (sIf (bT (l2 pLt (eV 1) (eC (.int 3)))) (sSeq (sSet 11 (oE (sComp [none,some 0,some 3] (lI asL (lA (F_qpainted 13) (aC (eV 0) (aC (eC (.str "")) aN)))) (tgN 0) (bT (l2 (pIn false) (eV 2) (lA F_qpath (aC (eV 1) (aC (eV 0) aN))))) (eV 0))))
    (sSeq (sSet 12 (lA pTup (aC (oE (sComp [none,some 11] (lI asTu (eV 0)) (tgN 0) (bT (l2 (pIn true) (l2 pIx (eV 0) (eC (.int 0))) (eV 1))) (eV 0))) aN)))
    (sSeq (sSet 13 (lA pTup (aC (oE (sComp [none,some 11] (lI asTu (eV 0)) (tgN 0) (bT (l2 (pIn false) (l2 pIx (eV 0) (eC (.int 0))) (eV 1))) (eV 0))) aN)))
    (sRet (vIf (bT (l2 pEq (eV 1) (eC (.int 1)))) (lA (fun ds=>if ds.length≤sizeLine then some (.tuple ds) else none) (aC (eV 11) (aC (eV 12) aN))) (lA (fun ds=>if ds.length≤sizeLine then some (.tuple ds) else none) (aC (eC .none) (aC (l2 pAdd (eV 12) (eV 13)) aN)))))))) sNx)
    (sSeq (sIf (bT (l2 pEq (eV 1) (eC (.int 3)))) (sRet (lA (fun ds=>if ds.length≤sizeLine then some (.tuple ds) else none) (aC (l2 pIx (eV 9) (eC (.int 6))) (aC (l2 pAdd (l2 pAdd (eSl (eV 0) pN (pS (eV 10))) (lA (fun ds=>if ds.length≤sizeLine then some (.tuple ds) else none) (aC (l2 pAdd (eSl (eV 9) pN (pS (eC (.int 6)))) (lA (fun ds=>if ds.length≤sizeLine then some (.tuple ds) else none) (aC (eV 5) aN))) aN))) (eSl (eV 0) (pS (l2 pAdd (eV 10) (eC (.int 1)))) pN)) aN)))) sNx)
    (sRet (lA (fun ds=>if ds.length≤sizeLine then some (.tuple ds) else none) (aC (eSl (eV 9) (pS (eC (.int 2))) (pS (eC (.int 4)))) (aC (l2 pAdd (l2 pAdd (eSl (eV 0) pN (pS (eV 10))) (lA (fun ds=>if ds.length≤sizeLine then some (.tuple ds) else none) (aC (l2 pAdd (l2 pAdd (eSl (eV 9) pN (pS (eC (.int 2)))) (lA (fun ds=>if ds.length≤sizeLine then some (.tuple ds) else none) (aC (eV 6) (aC (eV 7) aN)))) (eSl (eV 9) (pS (eC (.int 4))) pN)) aN))) (eSl (eV 0) (pS (l2 pAdd (eV 10) (eC (.int 1)))) pN)) aN))))))))))
end K53
namespace K53
open PySem L2 L2.PU
structure Gd (b:Str):Prop where
  ok:PyData.strOk b=true
  len:b.length≤50
  cps:(b.cps.toList.all fun x=>decide (x < 16 ^ 8))=true
theorem pRep_of {f:En→Option PyData} {η:En} {b:Str} (h:f η=some (.str b)) (g:Gd b):pRep f η=true:=by
  unfold pRep
  rw [h]
  show (decide (b.length≤50)&&b.cps.toList.all fun x=>decide (x < 16 ^ 8))=true
  rw [decide_eq_true g.len,g.cps]; rfl
theorem fm12 (η:En):pFmI (eC (.int 12)) η=true:=by
  show (decide ((12:Int).natAbs.log2 < 1920)&&decide ((Str.ofString (toString (12:Int))).length≤1000))=true
  decide +kernel
abbrev nms (bs:List Bx):List Str:=bs.map (·.nm)
section
variable {bs:List Bx} (v:VB bs)
include v
theorem badB {n:Str} (g:Gd n) (hn:n∉nms bs):Bad (scB bs) n:=⟨g.ok,g.len,g.cps,fun x hx e=>by
  obtain ⟨i,hi⟩:=List.mem_iff_getElem?.mp hx
  have hl:=(List.getElem?_eq_some_iff.mp hi).1
  have hb:i < bs.length:=by rw [← stB_len]; exact hl
  obtain rfl:=stB hi
  refine hn (List.mem_map.mpr ⟨bs[i],List.getElem_mem hb,?_⟩)
  rw [← e]
  exact (nmB_in (List.getElem?_eq_getElem hb)).symm⟩
theorem X_bad {n:Str} (g:Gd n) (hn:n∉nms bs) (m l r:PyData):FX_box_of [SD bs,.str n]=some 0∧FX_below [SD bs,.str n]=some 0∧FX_raised [SD bs,.str n]=some 0:=by
  have h1:=FX_bad (trB v) (badB v g hn)
  have h2:=FX4_bad (trB v) (badB v g hn) m l r
  rw [scB_d v] at h1 h2
  exact ⟨h1.1,h1.2,h2.2.1⟩
theorem X_good {i0:Nat} {b0:Bx} (h0:bs[i0]?=some b0) (m l r:PyData):FX_box_of [SD bs,.str b0.nm]=none∧FX_below [SD bs,.str b0.nm]=none∧FX_cut [SD bs,.str b0.nm]=none∧FX_raised [SD bs,.str b0.nm]=none∧FX_marked [SD bs,.str b0.nm,m]=none∧FX_put_at [SD bs,.str b0.nm,l,r]=none:=by
  have h1:=FX_good (trB v) (inB h0)
  have h2:=FX4_good (trB v) (inB h0) m l r
  rw [scB_d v,sB h0] at h1 h2
  exact ⟨h1.1,h1.2,h2.1,h2.2.1,h2.2.2.1,h2.2.2.2⟩
def refW (bs:List Bx) (b:Bx):Option Nat:=if b.nm∈nms bs then some 1 else if b.ar ≠ "" ∧ b.ar∉nms bs then some 0 else if bs.length=12 then some 2 else none
theorem X_with {b:Bx} (g1:Gd b.nm) (g2:Gd b.ar):FX_with_box [SD bs,b.d]=refW bs b:=by
  have e1:=B_has v g1.ok
  have e2:=B_has v g2.ok
  have hl:=v.len
  refine runX_of rfl (show gx_with_box F_has_box [.val (SD bs),.val b.d,.un,.un]=_ from ?_)
  refine xSeq_nx (set_of (d:=.str b.nm) (l2_of rfl rfl rfl)) (xSeq_nx (set_of (d:=.str b.ar) (l2_of rfl rfl rfl)) ?_)
  show xOr _ _ [.val (SD bs),.val b.d,.val (.str b.nm),.val (.str b.ar)]=_
  have c1:bT (lA F_has_box (aC (eV 0) (aC (eV 2) aN))) [.val (SD bs),.val b.d,.val (.str b.nm),.val (.str b.ar)]=some (decide (b.nm∈nms bs)):=bT_of (lA_of (aC_of rfl (aC_of rfl rfl)) e1)
  have c2:bAnd (bT (l2 pNe (eV 3) (eC (.str "")))) (bNot (bT (lA F_has_box (aC (eV 0) (aC (eV 3) aN))))) [.val (SD bs),.val b.d,.val (.str b.nm),.val (.str b.ar)]=some (!decide (b.ar = "")&&!decide (b.ar∈nms bs)) :=
    bAnd_of (bT_of (l2_of rfl rfl (pNe_str g2.ok (by decide +kernel)))) (bNot_of (bT_of (lA_of (aC_of rfl (aC_of rfl rfl)) e2)))
  have c3:bT (l2 pGe (lA pLen (aC (eV 0) aN)) (eC (.int 12))) [.val (SD bs),.val b.d,.val (.str b.nm),.val (.str b.ar)]=some (decide (bs.length=12)):=by
    refine bT_of (l2_of (lA_of (aC_of rfl rfl) rfl) rfl ((pGe_ok _ _).trans ?_))
    rw [asBx]
    congr 2
    rw [decide_eq_decide]
    omega
  unfold refW
  by_cases h1:b.nm∈nms bs
  · rw [if_pos h1]
    refine xOr_l (xIfT (c1.trans (by rw [decide_eq_true h1])) ?_)
    show (if (pYes _&&pRep (eV 2) [.val (SD bs),.val b.d,.val (.str b.nm),.val (.str b.ar)]&&pYes _)=true then some 1 else none)=_
    rw [pRep_of rfl g1]; rfl
  · rw [if_neg h1]
    rw [decide_eq_false h1] at c1
    refine xOr_r (xIfF c1 rfl) (xSeq_nx (ifN c1) ?_)
    by_cases h2:b.ar ≠ "" ∧ b.ar∉nms bs
    · rw [if_pos h2]
      refine xOr_l (xIfT (c2.trans (by rw [decide_eq_false h2.1,decide_eq_false h2.2]; rfl)) ?_)
      show (if (pYes _&&pRep (eV 3) [.val (SD bs),.val b.d,.val (.str b.nm),.val (.str b.ar)])=true then some 0 else none)=_
      rw [pRep_of rfl g2]; rfl
    · rw [if_neg h2]
      have c2':(!decide (b.ar = "")&&!decide (b.ar∈nms bs))=false:=by
        by_cases z:b.ar = ""
        · rw [decide_eq_true z]; rfl
        · have:b.ar∈nms bs:=Classical.not_not.mp fun q=>h2 ⟨z,q⟩
          rw [decide_eq_true this]; simp
      rw [c2'] at c2
      refine xOr_r (xIfF c2 rfl) (xSeq_nx (ifN c2) ?_)
      by_cases h3:bs.length=12
      · rw [if_pos h3]
        refine xIfT (c3.trans (by rw [decide_eq_true h3])) ?_
        show (if (pYes _&&pFmI (eC (.int 12)) _&&pYes _)=true then some 2 else none)=_
        rw [fm12]; rfl
      · rw [if_neg h3]
        exact xIfF (c3.trans (by rw [decide_eq_false h3])) rfl
end
theorem mxMeth_of {w:Wd} {k n:Nat} {nm:Str} {s s1:Sto} {ds:List D} {fx:List D→Sto→Option (Nat×Sto)} {o:MF} {fs:MFs} {as:List (Str×D)} {r:Option (Nat×Sto)} (h0:o w=some (.r n,s)) (hc:s[n]?=some (.obj k as)) (hl:as.lookup nm=none) (h1:fs ⟨w.η,s⟩=some (ds,s1)) (h2:fx (.r n::ds) s1=r):mxMeth k nm fx o fs w=r:=by
  unfold mxMeth
  rw [h0,Option.bind_some]
  dsimp only
  rw [hc]
  dsimp only
  rw [if_pos ⟨rfl,hl⟩,h1]; exact h2
theorem mxArg_of {w:Wd} {k n:Nat} {nm:Str} {s:Sto} {o:MF} {g:MXF} {as:List (Str×D)} {r:Option (Nat×Sto)} (h0:o w=some (.r n,s)) (hc:s[n]?=some (.obj k as)) (hl:as.lookup nm=none) (h2:g ⟨w.η,s⟩=r):mxArg k nm o g w=r:=by
  unfold mxArg
  rw [h0,Option.bind_some]
  dsimp only
  rw [hc]
  dsimp only
  rw [if_pos ⟨rfl,hl⟩]; exact h2
theorem mTry_no {w:Wd} {g:MXF} {hd:Nat→Option PyData} {u:Wd→Option MOut} {r:Option MOut} (h:g w=none) (h2:u w=r):mTry g hd u w=r:=by
  unfold mTry; rw [h]; exact h2
theorem mTry_of {w:Wd} {g:MXF} {hd:Nat→Option PyData} {u:Wd→Option MOut} {c:Nat} {s:Sto} {d:PyData} (h:g w=some (c,s)) (h2:hd c=some d):mTry g hd u w=some (.rt (.d d) s):=by
  unfold mTry; rw [h]; dsimp only; rw [h2]; rfl
theorem mxOr_l {w:Wd} {g g':MXF} {c:Nat×Sto} (h:g w=some c):mxOr g g' w=some c:=by
  unfold mxOr; rw [h]
theorem mxOr_r {w:Wd} {g g':MXF} {r:Option (Nat×Sto)} (h:g w=none) (h2:g' w=r):mxOr g g' w=r:=by
  unfold mxOr; rw [h]; exact h2
theorem mxIfT {w:Wd} {p:MTF} {g g':MXF} {s:Sto} {r:Option (Nat×Sto)} (h:p w=some (true,s)) (h2:g ⟨w.η,s⟩=r):mxIf p g g' w=r:=by
  unfold mxIf; rw [h,Option.bind_some,if_pos rfl]; exact h2
theorem mxIfF {w:Wd} {p:MTF} {g g':MXF} {s:Sto} {r:Option (Nat×Sto)} (h:p w=some (false,s)) (h2:g' ⟨w.η,s⟩=r):mxIf p g g' w=r:=by
  unfold mxIf; rw [h,Option.bind_some,if_neg Bool.false_ne_true]; exact h2
theorem mxSeq_nx {w w1:Wd} {f:Wd→Option MOut} {g:MXF} {r:Option (Nat×Sto)} (h:f w=some (.nx w1)) (h2:g w1=r):mxSeq f g w=r:=by
  unfold mxSeq; rw [h]; exact h2
theorem mxSeq_rt {w:Wd} {f:Wd→Option MOut} {g:MXF} {d:D} {s:Sto} (h:f w=some (.rt d s)):mxSeq f g w=none:=by
  unfold mxSeq; rw [h]; rfl
theorem mxP_of {w:Wd} {g:En→Option Nat} {r:Option Nat} (h:g (vw w)=r):mxP g w=r.map fun c=>(c,w.s):=by
  unfold mxP; rw [h]; cases r <;> rfl
theorem mxRun {a b:Nat} {g:MXF} {ds:List D} {s:Sto} {r:Option (Nat×Sto)} (hl:ds.length=a) (h:g ⟨ds.map some++List.replicate (b - a) none,s⟩=r):runMX a b g ds s=r:=by
  unfold runMX; rw [if_pos hl]; exact h
section
variable {s:Sto} {a:Ad} {sc:PyData} {dn un:List (Str×PyData)}
theorem MX_put (P:Pl s a sc dn un) {b:PyData} {r:Option Nat} (h:FX_with_box [sc,b]=r):FX_X_put [.r a.p,.d b] s=r.map fun c=>(c,s):=by
  refine mxRun rfl (show gx_X_put F_X_step_to FX_with_box ⟨[some (.r a.p),some (.d b)],s⟩=_ from mxArg_of rfl P.ob (lk_no ..) (mxP_of ?_))
  rw [vw1 P.ob]
  exact bind_of rfl (bind_of (aC_of (f_scene _) (aC_of rfl rfl)) h)
theorem MX_lift (P:Pl s a sc dn un) {b:PyData} {r:Option Nat} (h:FX_raised [sc,b]=r):FX_X_lift [.r a.p,.d b] s=r.map fun c=>(c,s):=by
  refine mxRun rfl (show gx_X_lift F_X_step_to FX_raised ⟨[some (.r a.p),some (.d b)],s⟩=_ from mxArg_of rfl P.ob (lk_no ..) (mxP_of ?_))
  rw [vw1 P.ob]
  exact bind_of rfl (bind_of (aC_of (f_scene _) (aC_of rfl rfl)) h)
theorem MX_take (P:Pl s a sc dn un) {b:PyData}:(FX_below [sc,b]=some 0→FX_X_take [.r a.p,.d b] s=some (0,s))∧(∀ g,FX_below [sc,b]=none→F_below 13 [sc,b]=some g→FX_cut [sc,b]=none→FX_X_take [.r a.p,.d b] s=none):=by
  refine ⟨fun h=>mxRun rfl (show gx_X_take (F_below 13) F_X_step_to FX_below FX_cut ⟨[some (.r a.p),some (.d b),none],s⟩=_ from mxOr_l ((mxP_of (r:=some 0) ?_).trans rfl)),fun g h h2 h3=>mxRun rfl (show gx_X_take (F_below 13) F_X_step_to FX_below FX_cut ⟨[some (.r a.p),some (.d b),none],s⟩=_ from mxOr_r ((mxP_of (r:=none) ?_).trans rfl) (mxSeq_nx (w1:=⟨[some (.r a.p),some (.d b),some (.d g)],s⟩) (mSet_of (mP_of ?_)) (mxArg_of rfl P.ob (lk_no ..) ((mxP_of (r:=none) ?_).trans rfl))))⟩
  · rw [vw1 P.ob]; exact bind_of (aC_of (f_scene _) (aC_of rfl rfl)) h
  · rw [vw1 P.ob]; exact bind_of (aC_of (f_scene _) (aC_of rfl rfl)) h
  · rw [vw1 P.ob]; exact lA_of (aC_of (f_scene _) (aC_of rfl rfl)) h2
  · rw [vw1 P.ob]; exact bind_of rfl (bind_of (aC_of (f_scene _) (aC_of rfl rfl)) h3)
theorem MX_mark (P:Pl s a sc dn un) {b m:PyData}:(FX_box_of [sc,b]=some 0→FX_X_mark [.r a.p,.d b,.d m] s=some (0,s))∧(∀ g,FX_box_of [sc,b]=none→F_box_of [sc,b]=some g→FX_marked [sc,b,m]=none→FX_X_mark [.r a.p,.d b,.d m] s=none):=by
  refine ⟨fun h=>mxRun rfl (show gx_X_mark F_box_of F_X_step_to FX_box_of FX_marked ⟨[some (.r a.p),some (.d b),some (.d m),none],s⟩=_ from mxOr_l ((mxP_of (r:=some 0) ?_).trans rfl)),fun g h h2 h3=>mxRun rfl (show gx_X_mark F_box_of F_X_step_to FX_box_of FX_marked ⟨[some (.r a.p),some (.d b),some (.d m),none],s⟩=_ from mxOr_r ((mxP_of (r:=none) ?_).trans rfl) (mxSeq_nx (w1:=⟨[some (.r a.p),some (.d b),some (.d m),some (.d g)],s⟩) (mSet_of (mP_of ?_)) (mxArg_of rfl P.ob (lk_no ..) ((mxP_of (r:=none) ?_).trans rfl))))⟩
  · rw [vw1 P.ob]; exact bind_of (aC_of (f_scene _) (aC_of rfl rfl)) h
  · rw [vw1 P.ob]; exact bind_of (aC_of (f_scene _) (aC_of rfl rfl)) h
  · rw [vw1 P.ob]; exact lA_of (aC_of (f_scene _) (aC_of rfl rfl)) h2
  · rw [vw1 P.ob]; exact bind_of rfl (bind_of (aC_of (f_scene _) (aC_of rfl (aC_of rfl rfl))) h3)
theorem MX_lay (P:Pl s a sc dn un) {b l t:PyData}:(FX_box_of [sc,b]=some 0→FX_X_lay [.r a.p,.d b,.d l,.d t] s=some (0,s))∧(∀ g,FX_box_of [sc,b]=none→F_box_of [sc,b]=some g→FX_put_at [sc,b,l,t]=none→FX_X_lay [.r a.p,.d b,.d l,.d t] s=none):=by
  refine ⟨fun h=>mxRun rfl (show gx_X_lay F_box_of F_X_step_to FX_box_of FX_put_at ⟨[some (.r a.p),some (.d b),some (.d l),some (.d t),none],s⟩=_ from mxOr_l ((mxP_of (r:=some 0) ?_).trans rfl)),fun g h h2 h3=>mxRun rfl (show gx_X_lay F_box_of F_X_step_to FX_box_of FX_put_at ⟨[some (.r a.p),some (.d b),some (.d l),some (.d t),none],s⟩=_ from mxOr_r ((mxP_of (r:=none) ?_).trans rfl) (mxSeq_nx (w1:=⟨[some (.r a.p),some (.d b),some (.d l),some (.d t),some (.d g)],s⟩) (mSet_of (mP_of ?_)) (mxArg_of rfl P.ob (lk_no ..) ((mxP_of (r:=none) ?_).trans rfl))))⟩
  · rw [vw1 P.ob]; exact bind_of (aC_of (f_scene _) (aC_of rfl rfl)) h
  · rw [vw1 P.ob]; exact bind_of (aC_of (f_scene _) (aC_of rfl rfl)) h
  · rw [vw1 P.ob]; exact lA_of (aC_of (f_scene _) (aC_of rfl rfl)) h2
  · rw [vw1 P.ob]; exact bind_of rfl (bind_of (aC_of (f_scene _) (aC_of rfl (aC_of rfl (aC_of rfl rfl)))) h3)
theorem MX_back (P:Pl s a sc dn un):FX_X_back [.r a.p] s=if dn=[] then some (3,s) else none:=by
  refine mxRun rfl (show gx_X_back ⟨[some (.r a.p),none],s⟩=_ from ?_)
  have e:=tmNot_of (mTruL_of (w:=⟨[some (.r a.p),none],s⟩) (mFld_of (o:=mV 0) rfl P.ob lk_done) P.dn)
  cases dn with
  | nil=>exact mxIfT e rfl
  | cons x r=>exact mxIfF e rfl
theorem MX_forth (P:Pl s a sc dn un):FX_X_forth [.r a.p] s=if un=[] then some (3,s) else none:=by
  refine mxRun rfl (show gx_X_forth ⟨[some (.r a.p),none],s⟩=_ from ?_)
  have e:=tmNot_of (mTruL_of (w:=⟨[some (.r a.p),none],s⟩) (mFld_of (o:=mV 0) rfl P.ob lk_undone) P.un)
  cases un with
  | nil=>exact mxIfT e rfl
  | cons x r=>exact mxIfF e rfl
end
end K53
namespace K53
open PySem L2 L2.PU
def someD (nm:Str) (b:Bx) (mk:Str) (l t:Int):PyData:=.tuple [.str nm,b.d,.str mk,.int l,.int t]
abbrev tE (p way:Nat) (nm:Str) (b:Bx) (mk:Str) (l t:Int):MEn:=[some (.r p),some (.d (.int (way:Int))),some (.d (someD nm b mk l t)),some (.d (.str nm)),some (.d b.d),some (.d (.str mk)),some (.d (.int l)),some (.d (.int t)),none]
section
variable {s s':Sto} {a:Ad} {sc:PyData} {dn un:List (Str×PyData)} {way:Nat} {nm mk:Str} {b:Bx} {l t:Int} {d:D}
theorem told_run (h:mTry toldX toldH toldU ⟨tE a.p way nm b mk l t,s⟩=some (.rt d s')):F_qtold [.r a.p,.d (.int (way:Int)),.d (someD nm b mk l t)] s=some (d,s'):=by
  refine mRun_of rfl (show g_qtold F_X_put F_X_take F_X_lift F_X_mark F_X_lay F_X_back F_X_forth FX_X_put FX_X_take FX_X_lift FX_X_mark FX_X_lay FX_X_back FX_X_forth ⟨[some (.r a.p),some (.d (.int (way:Int))),some (.d (someD nm b mk l t)),none,none,none,none,none,none],s⟩=_ from ?_)
  exact mSeq_of (w1:=⟨tE a.p way nm b mk l t,s⟩) rfl h
theorem told_no (h1:toldX ⟨tE a.p way nm b mk l t,s⟩=none) (h2:toldU ⟨tE a.p way nm b mk l t,s⟩=some (.rt d s')):F_qtold [.r a.p,.d (.int (way:Int)),.d (someD nm b mk l t)] s=some (d,s'):=told_run (mTry_no h1 h2)
theorem told_ref {c:Nat} (hc:c < 4) (h1:toldX ⟨tE a.p way nm b mk l t,s⟩=some (c,s')):F_qtold [.r a.p,.d (.int (way:Int)),.d (someD nm b mk l t)] s=some (.d (refD c),s'):=told_run (mTry_of h1 (if_pos hc))
theorem cE (k:Nat):tPv (bT (l2 pEq (eV 1) (eC (.int (k:Int))))) ⟨tE a.p way nm b mk l t,s⟩=some (decide (way=k),s):=by
  refine tPv_of (bT_of (l2_of rfl rfl ((pEq_int _ _).trans ?_)))
  congr 2
  rw [Bool.eq_iff_iff,beq_iff_eq,decide_eq_true_eq]
  exact Int.ofNat_inj
theorem cL (k:Nat):tPv (bT (l2 pLt (eV 1) (eC (.int (k:Int))))) ⟨tE a.p way nm b mk l t,s⟩=some (decide (way < k),s):=by
  refine tPv_of (bT_of (l2_of rfl rfl ?_))
  show some (PyData.bool (decide ((way:Int) < (k:Int))))=_
  congr 2
  rw [decide_eq_decide]
  exact Int.ofNat_lt
theorem cET {k:Nat} (h:way=k):tPv (bT (l2 pEq (eV 1) (eC (.int (k:Int))))) ⟨tE a.p way nm b mk l t,s⟩=some (true,s):=by rw [cE,decide_eq_true h]
theorem cEF {k:Nat} (h:way≠k):tPv (bT (l2 pEq (eV 1) (eC (.int (k:Int))))) ⟨tE a.p way nm b mk l t,s⟩=some (false,s):=by rw [cE,decide_eq_false h]
theorem cLT {k:Nat} (h:way < k):tPv (bT (l2 pLt (eV 1) (eC (.int (k:Int))))) ⟨tE a.p way nm b mk l t,s⟩=some (true,s):=by rw [cL,decide_eq_true h]
theorem cLF {k:Nat} (h:¬ way < k):tPv (bT (l2 pLt (eV 1) (eC (.int (k:Int))))) ⟨tE a.p way nm b mk l t,s⟩=some (false,s):=by rw [cL,decide_eq_false h]
theorem mIfxT {c:MTF} {f g:MF} {w:Wd} {s:Sto} {r:Option (D×Sto)} (h:c w=some (true,s)) (h2:f ⟨w.η,s⟩=r):mIfx c f g w=r:=by
  unfold mIfx; rw [h,Option.bind_some,if_pos rfl]; exact h2
theorem mIfxF {c:MTF} {f g:MF} {w:Wd} {s:Sto} {r:Option (D×Sto)} (h:c w=some (false,s)) (h2:g ⟨w.η,s⟩=r):mIfx c f g w=r:=by
  unfold mIfx; rw [h,Option.bind_some,if_neg Bool.false_ne_true]; exact h2
theorem lk_all (sc:PyData) (n u:Nat):(pf sc n u).lookup ("put" : Str)=none∧(pf sc n u).lookup ("take" : Str)=none∧(pf sc n u).lookup ("lift" : Str)=none∧(pf sc n u).lookup ("mark" : Str)=none∧(pf sc n u).lookup ("lay" : Str)=none∧(pf sc n u).lookup ("back" : Str)=none∧(pf sc n u).lookup ("forth" : Str)=none:=⟨rfl,rfl,rfl,rfl,rfl,rfl,rfl⟩
theorem told0 (P:Pl s a sc dn un):(∀ c,c < 4→FX_X_put [.r a.p,.d b.d] s=some (c,s)→F_qtold [.r a.p,.d (.int ((0:Nat):Int)),.d (someD nm b mk l t)] s=some (.d (refD c),s)) ∧
    (FX_X_put [.r a.p,.d b.d] s=none→F_X_put [.r a.p,.d b.d] s=some (d,s')→F_qtold [.r a.p,.d (.int ((0:Nat):Int)),.d (someD nm b mk l t)] s=some (d,s')):=by
  refine ⟨fun c hc h=>told_ref hc (mxOr_l (mxIfT (cET rfl) (mxMeth_of rfl P.ob (lk_all ..).1 (maC_of (s1:=s) (mP_of rfl) maN_of) h))),fun h h2=>?_⟩
  have e:=mRet_of (mMeth_of (w:=⟨tE a.p 0 nm b mk l t,s⟩) (o:=mV 0) (fs:=maC (mP (eV 4)) maN) rfl P.ob (lk_all ..).1 (maC_of (s1:=s) (mP_of rfl) maN_of) h2)
  exact told_no (mxOr_r (mxIfT (cET rfl) (mxMeth_of rfl P.ob (lk_all ..).1 (maC_of (s1:=s) (mP_of rfl) maN_of) h)) (mxSeq_rt (mIfT (cET rfl) e))) (mSeq_rt (mIfT (cET rfl) e))
theorem told1 (P:Pl s a sc dn un):(∀ c,c < 4→FX_X_take [.r a.p,.d (.str nm)] s=some (c,s)→F_qtold [.r a.p,.d (.int ((1:Nat):Int)),.d (someD nm b mk l t)] s=some (.d (refD c),s)) ∧
    (FX_X_take [.r a.p,.d (.str nm)] s=none→F_X_take [.r a.p,.d (.str nm)] s=some (d,s')→F_qtold [.r a.p,.d (.int ((1:Nat):Int)),.d (someD nm b mk l t)] s=some (d,s')):=by
  have n0:mxIf (tPv (bT (l2 pEq (eV 1) (eC (.int 0))))) (mxMeth 0 "put" FX_X_put (mV 0) (maC (mP (eV 4)) maN)) mxNo ⟨tE a.p 1 nm b mk l t,s⟩=none:=mxIfF (cEF (k:=0) (by decide)) rfl
  have i0:mIf (tPv (bT (l2 pEq (eV 1) (eC (.int 0))))) (mRet (mMeth 0 "put" F_X_put (mV 0) (maC (mP (eV 4)) maN))) mNx ⟨tE a.p 1 nm b mk l t,s⟩=some (.nx ⟨tE a.p 1 nm b mk l t,s⟩):=mIfN (cEF (k:=0) (by decide))
  refine ⟨fun c hc h=>told_ref hc (mxOr_r n0 (mxSeq_nx i0 (mxOr_l (mxIfT (cLT (k:=3) (by decide)) (mxIfT (cET (k:=1) rfl) (mxMeth_of rfl P.ob (lk_all ..).2.1 (maC_of (s1:=s) (mP_of rfl) maN_of) h)))))),fun h h2=>?_⟩
  have e:=mRet_of (mIfxT (g:=mMeth 0 "lift" F_X_lift (mV 0) (maC (mP (eV 3)) maN)) (cET (a:=a) (s:=s) (nm:=nm) (b:=b) (mk:=mk) (l:=l) (t:=t) (way:=1) (k:=1) rfl) (mMeth_of (w:=⟨tE a.p 1 nm b mk l t,s⟩) (o:=mV 0) (fs:=maC (mP (eV 3)) maN) rfl P.ob (lk_all ..).2.1 (maC_of (s1:=s) (mP_of rfl) maN_of) h2))
  exact told_no (mxOr_r n0 (mxSeq_nx i0 (mxOr_r (mxIfT (cLT (k:=3) (by decide)) (mxIfT (cET (k:=1) rfl) (mxMeth_of rfl P.ob (lk_all ..).2.1 (maC_of (s1:=s) (mP_of rfl) maN_of) h))) (mxSeq_rt (mIfT (cLT (k:=3) (by decide)) e))))) (mSeq_of i0 (mSeq_rt (mIfT (cLT (k:=3) (by decide)) e)))
theorem told2 (P:Pl s a sc dn un):(∀ c,c < 4→FX_X_lift [.r a.p,.d (.str nm)] s=some (c,s)→F_qtold [.r a.p,.d (.int ((2:Nat):Int)),.d (someD nm b mk l t)] s=some (.d (refD c),s)) ∧
    (FX_X_lift [.r a.p,.d (.str nm)] s=none→F_X_lift [.r a.p,.d (.str nm)] s=some (d,s')→F_qtold [.r a.p,.d (.int ((2:Nat):Int)),.d (someD nm b mk l t)] s=some (d,s')):=by
  have n0:mxIf (tPv (bT (l2 pEq (eV 1) (eC (.int 0))))) (mxMeth 0 "put" FX_X_put (mV 0) (maC (mP (eV 4)) maN)) mxNo ⟨tE a.p 2 nm b mk l t,s⟩=none:=mxIfF (cEF (k:=0) (by decide)) rfl
  have i0:mIf (tPv (bT (l2 pEq (eV 1) (eC (.int 0))))) (mRet (mMeth 0 "put" F_X_put (mV 0) (maC (mP (eV 4)) maN))) mNx ⟨tE a.p 2 nm b mk l t,s⟩=some (.nx ⟨tE a.p 2 nm b mk l t,s⟩):=mIfN (cEF (k:=0) (by decide))
  refine ⟨fun c hc h=>told_ref hc (mxOr_r n0 (mxSeq_nx i0 (mxOr_l (mxIfT (cLT (k:=3) (by decide)) (mxIfF (cEF (k:=1) (by decide)) (mxMeth_of rfl P.ob (lk_all ..).2.2.1 (maC_of (s1:=s) (mP_of rfl) maN_of) h)))))),fun h h2=>?_⟩
  have e:=mRet_of (mIfxF (f:=mMeth 0 "take" F_X_take (mV 0) (maC (mP (eV 3)) maN)) (cEF (a:=a) (s:=s) (nm:=nm) (b:=b) (mk:=mk) (l:=l) (t:=t) (way:=2) (k:=1) (by decide)) (mMeth_of (w:=⟨tE a.p 2 nm b mk l t,s⟩) (o:=mV 0) (fs:=maC (mP (eV 3)) maN) rfl P.ob (lk_all ..).2.2.1 (maC_of (s1:=s) (mP_of rfl) maN_of) h2))
  exact told_no (mxOr_r n0 (mxSeq_nx i0 (mxOr_r (mxIfT (cLT (k:=3) (by decide)) (mxIfF (cEF (k:=1) (by decide)) (mxMeth_of rfl P.ob (lk_all ..).2.2.1 (maC_of (s1:=s) (mP_of rfl) maN_of) h))) (mxSeq_rt (mIfT (cLT (k:=3) (by decide)) e))))) (mSeq_of i0 (mSeq_rt (mIfT (cLT (k:=3) (by decide)) e)))
theorem past (P:Pl s a sc dn un) (hw:3≤way):mxIf (tPv (bT (l2 pEq (eV 1) (eC (.int 0))))) (mxMeth 0 "put" FX_X_put (mV 0) (maC (mP (eV 4)) maN)) mxNo ⟨tE a.p way nm b mk l t,s⟩=none ∧
    mIf (tPv (bT (l2 pEq (eV 1) (eC (.int 0))))) (mRet (mMeth 0 "put" F_X_put (mV 0) (maC (mP (eV 4)) maN))) mNx ⟨tE a.p way nm b mk l t,s⟩=some (.nx ⟨tE a.p way nm b mk l t,s⟩) ∧
    mxIf (tPv (bT (l2 pLt (eV 1) (eC (.int 3))))) (mxIf (tPv (bT (l2 pEq (eV 1) (eC (.int 1))))) (mxMeth 0 "take" FX_X_take (mV 0) (maC (mP (eV 3)) maN)) (mxMeth 0 "lift" FX_X_lift (mV 0) (maC (mP (eV 3)) maN))) mxNo ⟨tE a.p way nm b mk l t,s⟩=none ∧
    mIf (tPv (bT (l2 pLt (eV 1) (eC (.int 3))))) (mRet (mIfx (tPv (bT (l2 pEq (eV 1) (eC (.int 1))))) (mMeth 0 "take" F_X_take (mV 0) (maC (mP (eV 3)) maN)) (mMeth 0 "lift" F_X_lift (mV 0) (maC (mP (eV 3)) maN)))) mNx ⟨tE a.p way nm b mk l t,s⟩=some (.nx ⟨tE a.p way nm b mk l t,s⟩) :=
  ⟨mxIfF (cEF (k:=0) (by omega)) rfl,mIfN (cEF (k:=0) (by omega)),mxIfF (cLF (k:=3) (by omega)) rfl,mIfN (cLF (k:=3) (by omega))⟩
theorem told3 (P:Pl s a sc dn un):(∀ c,c < 4→FX_X_mark [.r a.p,.d (.str nm),.d (.str mk)] s=some (c,s)→F_qtold [.r a.p,.d (.int ((3:Nat):Int)),.d (someD nm b mk l t)] s=some (.d (refD c),s)) ∧
    (FX_X_mark [.r a.p,.d (.str nm),.d (.str mk)] s=none→F_X_mark [.r a.p,.d (.str nm),.d (.str mk)] s=some (d,s')→F_qtold [.r a.p,.d (.int ((3:Nat):Int)),.d (someD nm b mk l t)] s=some (d,s')):=by
  obtain ⟨n0,i0,n1,i1⟩:=past (nm:=nm) (b:=b) (mk:=mk) (l:=l) (t:=t) (way:=3) P (Nat.le_refl _)
  refine ⟨fun c hc h=>told_ref hc (mxOr_r n0 (mxSeq_nx i0 (mxOr_r n1 (mxSeq_nx i1 (mxOr_l (mxIfT (cLT (k:=5) (by decide)) (mxIfT (cET (k:=3) rfl) (mxMeth_of rfl P.ob (lk_all ..).2.2.2.1 (maC_of (s1:=s) (mP_of rfl) (maC_of (s1:=s) (mP_of rfl) maN_of)) h)))))))),fun h h2=>?_⟩
  have e:=mRet_of (mIfxT (g:=mMeth 0 "lay" F_X_lay (mV 0) (maC (mP (eV 3)) (maC (mP (eV 6)) (maC (mP (eV 7)) maN)))) (cET (a:=a) (s:=s) (nm:=nm) (b:=b) (mk:=mk) (l:=l) (t:=t) (way:=3) (k:=3) rfl) (mMeth_of (w:=⟨tE a.p 3 nm b mk l t,s⟩) (o:=mV 0) (fs:=maC (mP (eV 3)) (maC (mP (eV 5)) maN)) rfl P.ob (lk_all ..).2.2.2.1 (maC_of (s1:=s) (mP_of rfl) (maC_of (s1:=s) (mP_of rfl) maN_of)) h2))
  exact told_no (mxOr_r n0 (mxSeq_nx i0 (mxOr_r n1 (mxSeq_nx i1 (mxOr_r (mxIfT (cLT (k:=5) (by decide)) (mxIfT (cET (k:=3) rfl) (mxMeth_of rfl P.ob (lk_all ..).2.2.2.1 (maC_of (s1:=s) (mP_of rfl) (maC_of (s1:=s) (mP_of rfl) maN_of)) h))) (mxSeq_rt (mIfT (cLT (k:=5) (by decide)) e))))))) (mSeq_of i0 (mSeq_of i1 (mSeq_rt (mIfT (cLT (k:=5) (by decide)) e))))
theorem told4 (P:Pl s a sc dn un):(∀ c,c < 4→FX_X_lay [.r a.p,.d (.str nm),.d (.int l),.d (.int t)] s=some (c,s)→F_qtold [.r a.p,.d (.int ((4:Nat):Int)),.d (someD nm b mk l t)] s=some (.d (refD c),s)) ∧
    (FX_X_lay [.r a.p,.d (.str nm),.d (.int l),.d (.int t)] s=none→F_X_lay [.r a.p,.d (.str nm),.d (.int l),.d (.int t)] s=some (d,s')→F_qtold [.r a.p,.d (.int ((4:Nat):Int)),.d (someD nm b mk l t)] s=some (d,s')):=by
  obtain ⟨n0,i0,n1,i1⟩:=past (nm:=nm) (b:=b) (mk:=mk) (l:=l) (t:=t) (way:=4) P (by decide)
  refine ⟨fun c hc h=>told_ref hc (mxOr_r n0 (mxSeq_nx i0 (mxOr_r n1 (mxSeq_nx i1 (mxOr_l (mxIfT (cLT (k:=5) (by decide)) (mxIfF (cEF (k:=3) (by decide)) (mxMeth_of rfl P.ob (lk_all ..).2.2.2.2.1 (maC_of (s1:=s) (mP_of rfl) (maC_of (s1:=s) (mP_of rfl) (maC_of (s1:=s) (mP_of rfl) maN_of))) h)))))))),fun h h2=>?_⟩
  have e:=mRet_of (mIfxF (f:=mMeth 0 "mark" F_X_mark (mV 0) (maC (mP (eV 3)) (maC (mP (eV 5)) maN))) (cEF (a:=a) (s:=s) (nm:=nm) (b:=b) (mk:=mk) (l:=l) (t:=t) (way:=4) (k:=3) (by decide)) (mMeth_of (w:=⟨tE a.p 4 nm b mk l t,s⟩) (o:=mV 0) (fs:=maC (mP (eV 3)) (maC (mP (eV 6)) (maC (mP (eV 7)) maN))) rfl P.ob (lk_all ..).2.2.2.2.1 (maC_of (s1:=s) (mP_of rfl) (maC_of (s1:=s) (mP_of rfl) (maC_of (s1:=s) (mP_of rfl) maN_of))) h2))
  exact told_no (mxOr_r n0 (mxSeq_nx i0 (mxOr_r n1 (mxSeq_nx i1 (mxOr_r (mxIfT (cLT (k:=5) (by decide)) (mxIfF (cEF (k:=3) (by decide)) (mxMeth_of rfl P.ob (lk_all ..).2.2.2.2.1 (maC_of (s1:=s) (mP_of rfl) (maC_of (s1:=s) (mP_of rfl) (maC_of (s1:=s) (mP_of rfl) maN_of))) h))) (mxSeq_rt (mIfT (cLT (k:=5) (by decide)) e))))))) (mSeq_of i0 (mSeq_of i1 (mSeq_rt (mIfT (cLT (k:=5) (by decide)) e))))
theorem past2 (hw:5≤way):mxIf (tPv (bT (l2 pLt (eV 1) (eC (.int 5))))) (mxIf (tPv (bT (l2 pEq (eV 1) (eC (.int 3))))) (mxMeth 0 "mark" FX_X_mark (mV 0) (maC (mP (eV 3)) (maC (mP (eV 5)) maN))) (mxMeth 0 "lay" FX_X_lay (mV 0) (maC (mP (eV 3)) (maC (mP (eV 6)) (maC (mP (eV 7)) maN))))) mxNo ⟨tE a.p way nm b mk l t,s⟩=none ∧
    mIf (tPv (bT (l2 pLt (eV 1) (eC (.int 5))))) (mRet (mIfx (tPv (bT (l2 pEq (eV 1) (eC (.int 3))))) (mMeth 0 "mark" F_X_mark (mV 0) (maC (mP (eV 3)) (maC (mP (eV 5)) maN))) (mMeth 0 "lay" F_X_lay (mV 0) (maC (mP (eV 3)) (maC (mP (eV 6)) (maC (mP (eV 7)) maN)))))) mNx ⟨tE a.p way nm b mk l t,s⟩=some (.nx ⟨tE a.p way nm b mk l t,s⟩) :=
  ⟨mxIfF (cLF (k:=5) (by omega)) rfl,mIfN (cLF (k:=5) (by omega))⟩
theorem told5 (P:Pl s a sc dn un):(∀ c,c < 4→FX_X_back [.r a.p] s=some (c,s)→F_qtold [.r a.p,.d (.int ((5:Nat):Int)),.d (someD nm b mk l t)] s=some (.d (refD c),s)) ∧
    (FX_X_back [.r a.p] s=none→F_X_back [.r a.p] s=some (d,s')→F_qtold [.r a.p,.d (.int ((5:Nat):Int)),.d (someD nm b mk l t)] s=some (d,s')):=by
  obtain ⟨n0,i0,n1,i1⟩:=past (nm:=nm) (b:=b) (mk:=mk) (l:=l) (t:=t) (way:=5) P (by decide)
  obtain ⟨n2,i2⟩:=past2 (s:=s) (a:=a) (nm:=nm) (b:=b) (mk:=mk) (l:=l) (t:=t) (way:=5) (by decide)
  refine ⟨fun c hc h=>told_ref hc (mxOr_r n0 (mxSeq_nx i0 (mxOr_r n1 (mxSeq_nx i1 (mxOr_r n2 (mxSeq_nx i2 (mxIfT (cET (k:=5) rfl) (mxMeth_of rfl P.ob (lk_all ..).2.2.2.2.2.1 maN_of h)))))))),fun h h2=>?_⟩
  exact told_no (mxOr_r n0 (mxSeq_nx i0 (mxOr_r n1 (mxSeq_nx i1 (mxOr_r n2 (mxSeq_nx i2 (mxIfT (cET (k:=5) rfl) (mxMeth_of rfl P.ob (lk_all ..).2.2.2.2.2.1 maN_of h)))))))) (mSeq_of i0 (mSeq_of i1 (mSeq_of i2 (mRet_of (mIfxT (cET (k:=5) rfl) (mMeth_of rfl P.ob (lk_all ..).2.2.2.2.2.1 maN_of h2))))))
theorem told6 (P:Pl s a sc dn un):(∀ c,c < 4→FX_X_forth [.r a.p] s=some (c,s)→F_qtold [.r a.p,.d (.int ((6:Nat):Int)),.d (someD nm b mk l t)] s=some (.d (refD c),s)) ∧
    (FX_X_forth [.r a.p] s=none→F_X_forth [.r a.p] s=some (d,s')→F_qtold [.r a.p,.d (.int ((6:Nat):Int)),.d (someD nm b mk l t)] s=some (d,s')):=by
  obtain ⟨n0,i0,n1,i1⟩:=past (nm:=nm) (b:=b) (mk:=mk) (l:=l) (t:=t) (way:=6) P (by decide)
  obtain ⟨n2,i2⟩:=past2 (s:=s) (a:=a) (nm:=nm) (b:=b) (mk:=mk) (l:=l) (t:=t) (way:=6) (by decide)
  refine ⟨fun c hc h=>told_ref hc (mxOr_r n0 (mxSeq_nx i0 (mxOr_r n1 (mxSeq_nx i1 (mxOr_r n2 (mxSeq_nx i2 (mxIfF (cEF (k:=5) (by decide)) (mxMeth_of rfl P.ob (lk_all ..).2.2.2.2.2.2 maN_of h)))))))),fun h h2=>?_⟩
  exact told_no (mxOr_r n0 (mxSeq_nx i0 (mxOr_r n1 (mxSeq_nx i1 (mxOr_r n2 (mxSeq_nx i2 (mxIfF (cEF (k:=5) (by decide)) (mxMeth_of rfl P.ob (lk_all ..).2.2.2.2.2.2 maN_of h)))))))) (mSeq_of i0 (mSeq_of i1 (mSeq_of i2 (mRet_of (mIfxF (cEF (k:=5) (by decide)) (mMeth_of rfl P.ob (lk_all ..).2.2.2.2.2.2 maN_of h2))))))
end
end K53
namespace K53
open PySem L2 L2.PU
def nmsD (bs:List Bx):PyData:=.list (bs.map fun b=>PyData.str b.nm)
theorem pIn_names {bs:List Bx} (v:VB bs) {x:Str} (neg:Bool):pIn neg (.str x) (nmsD bs)=some (.bool (if neg then !decide (x∈nms bs) else decide (x∈nms bs))):=by
  unfold pIn nmsD
  dsimp only
  have hf:(bs.map fun b=>PyData.str b.nm).all flatD=true:=by
    rw [List.all_eq_true]
    intro y hy
    obtain ⟨b,_,rfl⟩:=List.mem_map.mp hy
    rfl
  rw [if_pos ⟨rfl,hf⟩]
  have e:((bs.map fun b=>PyData.str b.nm).any fun y=>PyData.eqv y (.str x))=decide (x∈nms bs):=by
    rw [Bool.eq_iff_iff,List.any_eq_true,decide_eq_true_eq,List.mem_map]
    constructor
    · rintro ⟨y,hy,e⟩
      obtain ⟨b,hb,rfl⟩:=List.mem_map.mp hy
      refine ⟨b,hb,?_⟩
      simpa [PyData.eqv,str_dec] using e
    · rintro ⟨b,hb,e⟩
      exact ⟨.str b.nm,List.mem_map.mpr ⟨b,hb,rfl⟩,by simp [PyData.eqv,str_dec,e]⟩
  rw [e]
theorem st_fst (ps:List Nat):(stF ps).map (·.1)=List.range' 1 ps.length:=by
  unfold stF
  rw [List.map_map,List.range'_eq_map_range]
  refine List.map_congr_left fun i _=>?_
  show i+1=1+i
  omega
theorem nmsD_S {bs:List Bx} (v:VB bs):nmsD bs=(scB bs).S (List.range' 1 bs.length):=by
  unfold nmsD Sc.S
  congr 1
  rw [← psB_len,← st_fst,List.map_map]
  refine (mapt _ _ _ _ (stB_len bs) fun i x b h1 h2=>?_).symm
  obtain rfl:=stB h1
  show (scB bs).s (i+1)=_
  rw [sB h2]
theorem idx_rng (q:Nat):∀ (n s:Nat),s≤q→q < s+n→(List.range' s n).idxOf q=q - s
  | 0,s,h1,h2=>by omega
  | n+1,s,h1,h2=>by
    rw [List.range'_succ,List.idxOf_cons]
    by_cases e:s=q
    · subst e; simp
    · rw [show (s==q)=false by simpa using e]
      have:=idx_rng q n (s+1) (by omega) (by omega)
      simp only [cond_false]
      rw [this]; omega
section
variable {bs:List Bx} (v:VB bs) {i0:Nat} {b0:Bx} (h0:bs[i0]?=some b0)
include v h0
theorem N_idx:pIdx (nmsD bs) (.str b0.nm)=some (.int (i0:Int)):=by
  have hl:=(List.getElem?_eq_some_iff.mp h0).1
  have:=pIdx_s (scB_ok v) (x:=i0+1) (l:=List.range' 1 bs.length) (by rw [List.mem_range'_1]; omega)
  rw [idx_rng (i0+1) _ 1 (by omega) (by omega),sB h0,← nmsD_S v,show i0+1 - 1=i0 from rfl] at this
  exact this
theorem N_box:F_qbox [SD bs,.str b0.nm]=some b0.d:=by
  have:=L_box (trB v) (inB h0)
  rw [scB_d v,sB h0] at this
  rw [show SD bs=PyData.tuple (bs.map Bx.d) from rfl,this]
  exact congrArg some (boxB v h0)
theorem N_inner {η:En} (h1:eV 0 η=some (SD bs)) (hi:inEn [none,some 0,some 3] η=[.un,.val (SD bs),.val (.str b0.nm)]):oE (sComp [none,some 0,some 3] (lI asL (lA (F_qpainted 13) (aC (eV 0) (aC (eC (.str "")) aN)))) (tgN 0) (bT (l2 (pIn false) (eV 2) (lA F_qpath (aC (eV 1) (aC (eV 0) aN))))) (eV 0)) η=some (.list ((gone bs i0).map PyData.str)):=by
  have t:=trB v
  have h12:=(psB_ok v).len
  have ep:=L_painted t 13 0 (by omega) (by omega)
  have es0:(scB bs).s 0=.str "" := rfl
  rw [es0,scB_d v] at ep
  have hk:(kids (stF (psB bs)) 13 0).length≤50000:=by
    have hb:∀ x∈chN (stF (psB bs)) 0,(blF (stF (psB bs)) 13 x).length≤4096:=fun x hx=>Nat.le_trans (blF_len (psB_ok v) 13 x (ch_mem (psB_ok v) hx).1 (ch_mem (psB_ok v) hx).2.1) (pow_lim (psB_ok v) (ch_mem (psB_ok v) hx).1)
    have h1:=flat_len hb
    have h2:(chN (stF (psB bs)) 0).length≤12:=by
      unfold chN
      rw [List.length_map]
      refine Nat.le_trans (List.length_filter_le ..) ?_
      rw [stB_len]; exact v.len
    have h3:=Nat.mul_le_mul_right 4096 h2
    unfold kids
    omega
  have ec:cGo (tgN 0) (bT (l2 (pIn false) (eV 2) (lA F_qpath (aC (eV 1) (aC (eV 0) aN))))) (eV 0) [.un,.val (SD bs),.val (.str b0.nm)] ((kids (stF (psB bs)) 13 0).map (scB bs).s)=some (((kids (stF (psB bs)) 13 0).filter fun x=>decide (i0+1∈P (psB bs) x)).map (scB bs).s):=by
    refine cGo_map (scB bs).s (fun x=>decide (i0+1∈P (psB bs) x)) (scB bs).s _ fun x hx=>⟨[.val ((scB bs).s x),.val (SD bs),.val (.str b0.nm)],rfl,?_,fun _=>rfl⟩
    have hx':=kids_mem (psB_ok v) hx
    have e1:=L_path t hx'
    rw [scB_d v] at e1
    have e2:=pIn_s (scB_ok v) false (i0+1) (P (psB bs) x)
    rw [sB h0] at e2
    exact bT_of (l2_of rfl (lA_of (aC_of rfl (aC_of rfl rfl)) e1) e2)
  rw [below_eq (psB_ok v) (inB h0)] at ec
  have eo:=oE_of (comp_eq (mp:=[none,some 0,some 3]) (η:=η) (fi:=lI asL (lA (F_qpainted 13) (aC (eV 0) (aC (eC (.str "")) aN)))) (ds:=(kids (stF (psB bs)) 13 0).map (scB bs).s) (lI_of (lA_of (aC_of h1 (aC_of rfl rfl)) ep) rfl) (by rw [List.length_map]; omega) (by rw [hi]; exact ec))
  rw [eo]
  unfold gone
  rw [List.map_map]; rfl
theorem N_pick (neg:Bool) (η:En) (h1:eV 0 η=some (SD bs)) (hi:inEn [none,some 11] η=[.un,.val (.list ((gone bs i0).map PyData.str))]) :
    lA pTup (aC (oE (sComp [none,some 11] (lI asTu (eV 0)) (tgN 0) (bT (l2 (pIn neg) (l2 pIx (eV 0) (eC (.int 0))) (eV 1))) (eV 0))) aN) η=some (SD (bs.filter fun b=>if neg then !decide (b.nm∈gone bs i0) else decide (b.nm∈gone bs i0))):=by
  have hS:PyData.list ((gone bs i0).map PyData.str)=(scB bs).S (blF (stF (psB bs)) 13 (i0+1)):=by
    unfold gone Sc.S
    rw [List.map_map]; rfl
  refine lA_of (aC_of (oE_of (comp_eq (ds:=bs.map Bx.d) (lI_of h1 rfl) (by rw [List.length_map]; have:=v.len; omega) ?_)) rfl) rfl
  rw [hi]
  refine cGo_map (t:=tgN 0) (p:=bT (l2 (pIn neg) (l2 pIx (eV 0) (eC (.int 0))) (eV 1))) (f:=eV 0) (η:=[.un,.val (.list ((gone bs i0).map PyData.str))]) Bx.d (fun b=>if neg then !decide (b.nm∈gone bs i0) else decide (b.nm∈gone bs i0)) Bx.d bs fun b hb=>⟨[.val b.d,.val (.list ((gone bs i0).map PyData.str))],rfl,?_,fun _=>rfl⟩
  obtain ⟨i,hi'⟩:=List.mem_iff_getElem?.mp hb
  have e:=pIn_s (scB_ok v) neg (i+1) (blF (stF (psB bs)) 13 (i0+1))
  rw [sB hi',← hS] at e
  have hd:decide (i+1∈blF (stF (psB bs)) 13 (i0+1))=decide (b.nm∈gone bs i0):=by rw [decide_eq_decide]; exact (gone_iff v h0 hi').symm
  rw [hd] at e
  exact bT_of (l2_of (l2_of rfl rfl rfl) rfl e)
theorem map_at {α β:Type} (f f':α→β):∀ (l:List α) (i:Nat) (x:α),l[i]?=some x→(∀ j y,l[j]?=some y→j≠i→f' y=f y)→l.map f'=((l.map f).take i++[f' x])++(l.map f).drop (i+1)
  | [],i,x,h,_=>by simp at h
  | a::l,0,x,h,hf=>by
    have:a=x:=by simpa using h
    subst this
    simp only [List.map_cons,List.take_zero,List.nil_append,List.drop_succ_cons,List.drop_zero,List.singleton_append,List.cons.injEq,true_and]
    refine List.map_congr_left fun y hy=>?_
    obtain ⟨j,hj⟩:=List.mem_iff_getElem?.mp hy
    exact hf (j+1) y (by simpa using hj) (by omega)
  | a::l,i+1,x,h,hf=>by
    have ih:=map_at f f' l i x (by simpa using h) fun j y hj hne=>hf (j+1) y (by simpa using hj) (by omega)
    rw [List.map_cons,ih,hf 0 a rfl (by omega)]
    simp
theorem N_chg (f:Bx→Bx):pAdd (.tuple ((bs.map Bx.d).take i0)) (.tuple [(f b0).d])=some (.tuple ((bs.map Bx.d).take i0++[(f b0).d]))∧pAdd (.tuple ((bs.map Bx.d).take i0++[(f b0).d])) (.tuple ((bs.map Bx.d).drop (i0+1)))=some (SD (chgB bs b0.nm f)):=by
  have hl:=v.len
  have hi:=(List.getElem?_eq_some_iff.mp h0).1
  refine ⟨addT (by rw [List.length_take,asBx]; show min i0 bs.length+1≤_; omega),?_⟩
  rw [addT (by rw [List.length_append,List.length_take,List.length_drop,asBx]; show min i0 bs.length+1+_≤_; omega)]
  unfold SD chgB
  rw [List.map_map,map_at v h0 Bx.d (Bx.d∘fun b=>if b.nm=b0.nm then f b else b) bs i0 b0 h0 fun j y hj hne=>?_]
  · show _=some (PyData.tuple (((bs.map Bx.d).take i0++[Bx.d (if b0.nm=b0.nm then f b0 else b0)])++(bs.map Bx.d).drop (i0+1)))
    rw [if_pos rfl]
  · show Bx.d (if y.nm=b0.nm then f y else y)=y.d
    rw [if_neg fun z=>hne (by have:=(nm_dec v h0 hj).mp z; omega)]
end
theorem seq_rt {f g:En→Option Out} {η:En} {d:PyData} (h:f η=some (.rt d)):sSeq f g η=some (.rt d):=by
  unfold sSeq
  rw [h]; rfl
def retW (bs:List Bx) (b:Bx):PyData:=match refW bs b with
  | some c=>.tuple [refD c,.none]
  | none=>.tuple [.none,SD (bs++[b])]
theorem ref_mk (c:Int) (η:En):lA (fun ds=>if ds.length≤sizeLine then some (.tuple ds) else none) (aC (lA (fun ds=>if ds.length≤sizeLine then some (.tuple ds) else none) (aC (eC (.str "refused")) (aC (eC (.int c)) aN))) (aC (eC .none) aN)) η=some (.tuple [.tuple [.str "refused", .int c],.none]):=lA_of (aC_of (lA_of (aC_of rfl (aC_of rfl rfl)) (tup1_ok (by simp))) (aC_of rfl rfl)) (tup1_ok (by simp))
theorem N_put {bs:List Bx} (v:VB bs) {b:Bx} (g2:PyData.strOk b.ar=true):F_qput [SD bs,nmsD bs,b.d]=some (retW bs b):=by
  have hl:=v.len
  refine run_of rfl (show g_qput [.val (SD bs),.val (nmsD bs),.val b.d]=_ from ?_)
  have c1:bT (l2 (pIn false) (l2 pIx (eV 2) (eC (.int 0))) (eV 1)) [.val (SD bs),.val (nmsD bs),.val b.d]=some (decide (b.nm∈nms bs)):=bT_of (l2_of (l2_of rfl rfl rfl) rfl (pIn_names v false))
  have c2:bAnd (bT (l2 pNe (l2 pIx (eV 2) (eC (.int 1))) (eC (.str "")))) (bT (l2 (pIn true) (l2 pIx (eV 2) (eC (.int 1))) (eV 1))) [.val (SD bs),.val (nmsD bs),.val b.d]=some (!decide (b.ar = "")&&!decide (b.ar∈nms bs)):=bAnd_of (bT_of (l2_of (l2_of rfl rfl rfl) rfl (pNe_str g2 (by decide +kernel)))) (bT_of (l2_of (l2_of rfl rfl rfl) rfl (pIn_names v true)))
  have c3:bT (l2 pEq (lA pLen (aC (eV 0) aN)) (eC (.int 12))) [.val (SD bs),.val (nmsD bs),.val b.d]=some (decide (bs.length=12)):=by
    refine bT_of (l2_of (lA_of (aC_of rfl rfl) rfl) rfl ((pEq_int _ _).trans ?_))
    rw [asBx]
    congr 2
    rw [Bool.eq_iff_iff,beq_iff_eq,decide_eq_true_eq]
    omega
  unfold retW refW
  by_cases h1:b.nm∈nms bs
  · rw [if_pos h1]
    exact seq_rt (ifT (c1.trans (by rw [decide_eq_true h1])) (ret_of (ref_mk 1 _)))
  rw [if_neg h1]
  rw [decide_eq_false h1] at c1
  refine seq_of (ifN c1) ?_
  by_cases h2:b.ar ≠ "" ∧ b.ar∉nms bs
  · rw [if_pos h2]
    exact seq_rt (ifT (c2.trans (by rw [decide_eq_false h2.1,decide_eq_false h2.2]; rfl)) (ret_of (ref_mk 0 _)))
  rw [if_neg h2]
  have c2':(!decide (b.ar = "")&&!decide (b.ar∈nms bs))=false:=by
    by_cases z:b.ar = ""
    · rw [decide_eq_true z]; rfl
    · have:b.ar∈nms bs:=Classical.not_not.mp fun q=>h2 ⟨z,q⟩
      rw [decide_eq_true this]; simp
  rw [c2'] at c2
  refine seq_of (ifN c2) ?_
  by_cases h3:bs.length=12
  · rw [if_pos h3]
    exact seq_rt (ifT (c3.trans (by rw [decide_eq_true h3])) (ret_of (ref_mk 2 _)))
  rw [if_neg h3]
  rw [decide_eq_false h3] at c3
  refine seq_of (ifN c3) (ret_of (lA_of (aC_of rfl (aC_of (l2_of rfl (lA_of (aC_of rfl rfl) (tup1_ok (by simp))) ?_) rfl)) (tup1_ok (by simp))))
  show pAdd (.tuple (bs.map Bx.d)) (.tuple [b.d])=_
  rw [addT (by rw [asBx]; show bs.length+1≤_; omega)]
  unfold SD
  rw [List.map_append]; rfl
abbrev nE (bs:List Bx) (way:Nat) (nm:Str) (b:Bx) (mk:Str) (l t:Int) (x9 x10 x11 x12 x13:Sl):En:=[.val (SD bs),.val (.int (way:Int)),.val (someD nm b mk l t),.val (.str nm),.val b.d,.val (.str mk),.val (.int l),.val (.int t),.val (nmsD bs),x9,x10,x11,x12,x13]
theorem next_run {bs:List Bx} (v:VB bs) {way:Nat} {nm:Str} {b:Bx} {mk:Str} {l t:Int} {d:PyData} (h:nxB (nE bs way nm b mk l t .un .un .un .un .un)=some (.rt d)):F_qnext [SD bs,.int (way:Int),someD nm b mk l t]=some d:=by
  refine run_of rfl (show g_qnext F_qput F_qbox (F_qpainted 13) F_qpath [.val (SD bs),.val (.int (way:Int)),.val (someD nm b mk l t),.un,.un,.un,.un,.un,.un,.un,.un,.un,.un,.un]=_ from ?_)
  refine seq_of (η1:=[.val (SD bs),.val (.int (way:Int)),.val (someD nm b mk l t),.val (.str nm),.val b.d,.val (.str mk),.val (.int l),.val (.int t),.un,.un,.un,.un,.un,.un]) rfl ?_
  refine seq_of (η1:=[.val (SD bs),.val (.int (way:Int)),.val (someD nm b mk l t),.val (.str nm),.val b.d,.val (.str mk),.val (.int l),.val (.int t),.own (bs.map fun b=>PyData.str b.nm),.un,.un,.un,.un,.un]) (setO_of ?_) ?_
  · refine comp_eq (ds:=bs.map Bx.d) (lI_of rfl rfl) (by rw [List.length_map]; have:=v.len; omega) ?_
    exact cGo_mapT Bx.d (fun b=>PyData.str b.nm) bs fun x _=>⟨_,rfl,l2_of rfl rfl rfl⟩
  · have hz:frz 8 [.val (SD bs),.val (.int (way:Int)),.val (someD nm b mk l t),.val (.str nm),.val b.d,.val (.str mk),.val (.int l),.val (.int t),.own (bs.map fun b=>PyData.str b.nm),.un,.un,.un,.un,.un]=nE bs way nm b mk l t .un .un .un .un .un:=rfl
    show nxB (frz 8 [.val (SD bs),.val (.int (way:Int)),.val (someD nm b mk l t),.val (.str nm),.val b.d,.val (.str mk),.val (.int l),.val (.int t),.own (bs.map fun b=>PyData.str b.nm),.un,.un,.un,.un,.un])=some (.rt d)
    rw [hz]; exact h
end K53
namespace K53
open PySem L2 L2.PU
section
variable {bs:List Bx} {way:Nat} {nm:Str} {b:Bx} {mk:Str} {l t:Int} {x9 x10 x11 x12 x13:Sl}
theorem nEq (k:Nat):bT (l2 pEq (eV 1) (eC (.int (k:Int)))) (nE bs way nm b mk l t x9 x10 x11 x12 x13)=some (decide (way=k)):=by
  refine bT_of (l2_of rfl rfl ((pEq_int _ _).trans ?_))
  congr 2
  rw [Bool.eq_iff_iff,beq_iff_eq,decide_eq_true_eq]
  exact Int.ofNat_inj
theorem nLt (k:Nat):bT (l2 pLt (eV 1) (eC (.int (k:Int)))) (nE bs way nm b mk l t x9 x10 x11 x12 x13)=some (decide (way < k)):=by
  refine bT_of (l2_of rfl rfl ?_)
  show some (PyData.bool (decide ((way:Int) < (k:Int))))=_
  congr 2
  rw [decide_eq_decide]
  exact Int.ofNat_lt
theorem next_put (v:VB bs) (g2:PyData.strOk b.ar=true):F_qnext [SD bs,.int ((0:Nat):Int),someD nm b mk l t]=some (retW bs b) :=
  next_run v (seq_rt (ifT ((nEq 0).trans rfl) (ret_of (lA_of (aC_of rfl (aC_of rfl (aC_of rfl rfl))) (N_put v g2)))))
theorem next_bad (v:VB bs) (hw:1≤way) (hn:nm∉nms bs):F_qnext [SD bs,.int (way:Int),someD nm b mk l t]=some (.tuple [refD 0,.none]):=by
  refine next_run v (seq_of (ifN ((nEq 0).trans (by rw [decide_eq_false (by omega)]))) (seq_rt (ifT (bT_of (l2_of rfl rfl ((pIn_names v true).trans ?_))) (ret_of (ref_mk 0 _)))))
  rw [decide_eq_false hn]; rfl
variable (v:VB bs) {i0:Nat} {b0:Bx} (h0:bs[i0]?=some b0)
include v h0
theorem mem_nm:b0.nm∈nms bs:=List.mem_map.mpr ⟨b0,List.mem_of_getElem? h0,rfl⟩
theorem next_pre (hw:1≤way) {d:PyData} (h:(sSeq (sIf (bT (l2 pLt (eV 1) (eC (.int 3)))) (sSeq (sSet 11 (oE (sComp [none,some 0,some 3] (lI asL (lA (F_qpainted 13) (aC (eV 0) (aC (eC (.str "")) aN)))) (tgN 0) (bT (l2 (pIn false) (eV 2) (lA F_qpath (aC (eV 1) (aC (eV 0) aN))))) (eV 0))))
    (sSeq (sSet 12 (lA pTup (aC (oE (sComp [none,some 11] (lI asTu (eV 0)) (tgN 0) (bT (l2 (pIn true) (l2 pIx (eV 0) (eC (.int 0))) (eV 1))) (eV 0))) aN)))
    (sSeq (sSet 13 (lA pTup (aC (oE (sComp [none,some 11] (lI asTu (eV 0)) (tgN 0) (bT (l2 (pIn false) (l2 pIx (eV 0) (eC (.int 0))) (eV 1))) (eV 0))) aN)))
    (sRet (vIf (bT (l2 pEq (eV 1) (eC (.int 1)))) (lA (fun ds=>if ds.length≤sizeLine then some (.tuple ds) else none) (aC (eV 11) (aC (eV 12) aN))) (lA (fun ds=>if ds.length≤sizeLine then some (.tuple ds) else none) (aC (eC .none) (aC (l2 pAdd (eV 12) (eV 13)) aN)))))))) sNx)
    (sSeq (sIf (bT (l2 pEq (eV 1) (eC (.int 3)))) (sRet (lA (fun ds=>if ds.length≤sizeLine then some (.tuple ds) else none) (aC (l2 pIx (eV 9) (eC (.int 6))) (aC (l2 pAdd (l2 pAdd (eSl (eV 0) pN (pS (eV 10))) (lA (fun ds=>if ds.length≤sizeLine then some (.tuple ds) else none) (aC (l2 pAdd (eSl (eV 9) pN (pS (eC (.int 6)))) (lA (fun ds=>if ds.length≤sizeLine then some (.tuple ds) else none) (aC (eV 5) aN))) aN))) (eSl (eV 0) (pS (l2 pAdd (eV 10) (eC (.int 1)))) pN)) aN)))) sNx)
    (sRet (lA (fun ds=>if ds.length≤sizeLine then some (.tuple ds) else none) (aC (eSl (eV 9) (pS (eC (.int 2))) (pS (eC (.int 4)))) (aC (l2 pAdd (l2 pAdd (eSl (eV 0) pN (pS (eV 10))) (lA (fun ds=>if ds.length≤sizeLine then some (.tuple ds) else none) (aC (l2 pAdd (l2 pAdd (eSl (eV 9) pN (pS (eC (.int 2)))) (lA (fun ds=>if ds.length≤sizeLine then some (.tuple ds) else none) (aC (eV 6) (aC (eV 7) aN)))) (eSl (eV 9) (pS (eC (.int 4))) pN)) aN))) (eSl (eV 0) (pS (l2 pAdd (eV 10) (eC (.int 1)))) pN)) aN)))))) (nE bs way b0.nm b mk l t (.val b0.d) (.val (.int (i0:Int))) .un .un .un)=some (.rt d)):F_qnext [SD bs,.int (way:Int),someD b0.nm b mk l t]=some d:=by
  refine next_run v (seq_of (ifN ((nEq 0).trans (by rw [decide_eq_false (by omega)]))) (seq_of (ifN (bT_of (l2_of rfl rfl ((pIn_names v true).trans (by rw [decide_eq_true (mem_nm v h0)]; rfl))))) (seq_of (η1:=nE bs way b0.nm b mk l t (.val b0.d) .un .un .un .un) (set_of (lA_of (aC_of rfl (aC_of rfl rfl)) (N_box v h0))) (seq_of (η1:=nE bs way b0.nm b mk l t (.val b0.d) (.val (.int (i0:Int))) .un .un .un) (set_of (l2_of rfl rfl (N_idx v h0))) h))))
theorem next_12 (hw:way=1∨way=2):F_qnext [SD bs,.int (way:Int),someD b0.nm b mk l t]=some (if way=1 then .tuple [.list ((gone bs i0).map PyData.str),SD (cutB bs i0)] else .tuple [.none,SD (raiB bs i0)]):=by
  refine next_pre v h0 (by omega) (seq_rt (ifT ((nLt 3).trans (by rw [decide_eq_true (by omega)])) ?_))
  refine seq_of (η1:=nE bs way b0.nm b mk l t (.val b0.d) (.val (.int (i0:Int))) (.val (.list ((gone bs i0).map PyData.str))) .un .un) (set_of (N_inner v h0 rfl rfl)) (seq_of (η1:=nE bs way b0.nm b mk l t (.val b0.d) (.val (.int (i0:Int))) (.val (.list ((gone bs i0).map PyData.str))) (.val (SD (cutB bs i0))) .un) (set_of (N_pick v h0 true _ rfl rfl)) (seq_of (η1:=nE bs way b0.nm b mk l t (.val b0.d) (.val (.int (i0:Int))) (.val (.list ((gone bs i0).map PyData.str))) (.val (SD (cutB bs i0))) (.val (SD (bs.filter fun b=>decide (b.nm∈gone bs i0))))) (set_of (N_pick v h0 false _ rfl rfl)) (ret_of ?_)))
  have e1:bT (l2 pEq (eV 1) (eC (.int 1))) (nE bs way b0.nm b mk l t (.val b0.d) (.val (.int (i0:Int))) (.val (.list ((gone bs i0).map PyData.str))) (.val (SD (cutB bs i0))) (.val (SD (bs.filter fun b=>decide (b.nm∈gone bs i0)))))=some (decide (way=1)):=nEq 1
  rw [vIf_of e1]
  rcases hw with rfl | rfl
  · rw [if_pos (by decide),if_pos rfl]
    exact lA_of (aC_of rfl (aC_of rfl rfl)) (tup1_ok (by simp))
  · rw [if_neg (by decide),if_neg (by decide)]
    refine lA_of (aC_of rfl (aC_of (l2_of rfl rfl (show pAdd (.tuple ((cutB bs i0).map Bx.d)) (.tuple ((bs.filter fun b=>decide (b.nm∈gone bs i0)).map Bx.d))=some (SD (raiB bs i0)) from ?_)) rfl)) (tup1_ok (by simp))
    have h1:=List.length_filter_le (fun b:Bx=>!decide (b.nm∈gone bs i0)) bs
    have h2:=List.length_filter_le (fun b:Bx=>decide (b.nm∈gone bs i0)) bs
    have h3:=v.len
    rw [addT (by rw [asBx,asBx]; unfold cutB; omega)]
    unfold SD raiB cutB
    rw [List.map_append]
theorem sl_to:pSl (SD bs) none (some (i0:Int))=some (.tuple ((bs.map Bx.d).take i0)):=by
  show some (PyData.tuple _)=_
  rw [cut_to]
theorem sl_from:pSl (SD bs) (some ((i0:Int)+1)) none=some (.tuple ((bs.map Bx.d).drop (i0+1))):=by
  have hi:=(List.getElem?_eq_some_iff.mp h0).1
  show some (PyData.tuple _)=_
  rw [show (i0:Int)+1=((i0+1:Nat):Int) by omega,cut_from _ _ (by rw [asBx]; omega)]
theorem next_3:F_qnext [SD bs,.int ((3:Nat):Int),someD b0.nm b mk l t]=some (.tuple [.str b0.mr,SD (chgB bs b0.nm fun b=>{ b with mr:=mk })]):=by
  obtain ⟨c1,c2⟩:=N_chg v h0 fun b=>{ b with mr:=mk }
  refine next_pre v h0 (by decide) (seq_of (ifN ((nLt 3).trans rfl)) (seq_rt (ifT ((nEq 3).trans rfl) (ret_of (lA_of (aC_of (l2_of rfl rfl rfl) (aC_of (l2_of (l2_of (eSl_of rfl rfl (pS_of rfl) (sl_to v h0)) (lA_of (aC_of (l2_of (eSl_of rfl rfl (pS_of rfl) rfl) (lA_of (aC_of rfl rfl) (tup1_ok (by simp))) (addT (by simp [cutL,HT.sIx]))) rfl) (tup1_ok (by simp))) c1) (eSl_of rfl (pS_of (l2_of rfl rfl rfl)) rfl (sl_from v h0)) c2) rfl)) (tup1_ok (by simp)))))))
theorem next_4:F_qnext [SD bs,.int ((4:Nat):Int),someD b0.nm b mk l t]=some (.tuple [.tuple [.int b0.l,.int b0.t],SD (chgB bs b0.nm fun b=>{ b with l:=l,t:=t })]):=by
  obtain ⟨c1,c2⟩:=N_chg v h0 fun b=>{ b with l:=l,t:=t }
  refine next_pre v h0 (by decide) (seq_of (ifN ((nLt 3).trans rfl)) (seq_of (ifN ((nEq 3).trans rfl)) (ret_of (lA_of (aC_of (eSl_of rfl (pS_of rfl) (pS_of rfl) rfl) (aC_of (l2_of (l2_of (eSl_of rfl rfl (pS_of rfl) (sl_to v h0)) (lA_of (aC_of (l2_of (l2_of (eSl_of rfl rfl (pS_of rfl) rfl) (lA_of (aC_of rfl (aC_of rfl rfl)) (tup1_ok (by simp))) (addT (by simp [cutL,HT.sIx]))) (eSl_of rfl (pS_of rfl) rfl rfl) rfl) rfl) (tup1_ok (by simp))) c1) (eSl_of rfl (pS_of (l2_of rfl rfl rfl)) rfl (sl_from v h0)) c2) rfl)) (tup1_ok (by simp))))))
end
end K53
namespace K53
open PySem L2 L2.PU
def na7:List Str:=["a", "b", "c", "d", "g", "new", "zz"]
def ar5:List Str:=["", "a", "b", "new", "zz"]
def mk4:List Str:=["", "c", "fh", "l"]
def nn4:List Str:=["new", "k", "m", "a"]
theorem gd_all:∀ x∈na7++ar5++mk4++nn4,PyData.strOk x=true∧x.length≤50∧(x.cps.toList.all fun x=>decide (x < 16 ^ 8))=true:=by decide +kernel
theorem nn_all:∀ x∈nn4,1≤x.length∧x.length≤3:=by decide +kernel
theorem gd_of {x:Str} (h:x∈na7++ar5++mk4++nn4):Gd x:=⟨(gd_all x h).1,(gd_all x h).2.1,(gd_all x h).2.2⟩
theorem pick {L:List Str} {r:Nat} (h:r < L.length):∃ x∈L,pIx (.list (L.map PyData.str)) (.int (r:Int))=some (.str x):=by
  refine ⟨L[r],List.getElem_mem h,?_⟩
  show atI (L.map PyData.str) (r:Int)=_
  exact atI_nat (by rw [List.getElem?_map,List.getElem?_eq_getElem h]; rfl)
structure Some (nm:Str) (b:Bx) (mk:Str):Prop where
  nm:Gd nm
  bn:Gd b.nm
  ba:Gd b.ar
  len:1≤b.nm.length∧b.nm.length≤3
  mr:PyData.strOk b.mr=true
  okm:PyData.strOk mk=true
section
variable {ns:List Int} (hn:ns.length≤63)
include hn
theorem dr_of {k:Int} {η:En} {m:Nat} {i:Int} (h0:eV 0 η=some (Sd ns)) (h1:eV 1 η=some (.int k)) (hk:0≤k) (hi:0≤i) (hm:0 < m):∃ r:Nat,r < m∧lA F_qdrawn (aC (eV 0) (aC (l2 pAdd (eV 1) (eC (.int i))) (aC (eC (.int (m:Int))) aN))) η=some (.int (r:Int)):=by
  obtain ⟨r,hr,e⟩:=drawn_ok hn (k:=k+i) (m:=(m:Int)) (by omega) (by omega)
  exact ⟨r,by omega,lA_of (aC_of h0 (aC_of (l2_of h1 rfl rfl) (aC_of rfl rfl))) e⟩
theorem some_ok {here:Int} (h0:0≤here):∃ nm b mk l t,F_qsome [Sd ns,.int here]=some (someD nm b mk l t)∧Some nm b mk:=by
  obtain ⟨r1,q1,d1⟩:=dr_of hn (η:=[.val (Sd ns),.val (.int here),.un,.un,.un,.un,.un]) (m:=7) (i:=1) rfl rfl h0 (by decide) (by decide)
  obtain ⟨nm,hnm,e1⟩:=pick (L:=na7) q1
  obtain ⟨r2,q2,d2⟩:=dr_of hn (η:=[.val (Sd ns),.val (.int here),.val (.str nm),.un,.un,.un,.un]) (m:=5) (i:=2) rfl rfl h0 (by decide) (by decide)
  obtain ⟨ar,har,e2⟩:=pick (L:=ar5) q2
  obtain ⟨r3,q3,d3⟩:=dr_of hn (η:=[.val (Sd ns),.val (.int here),.val (.str nm),.val (.str ar),.un,.un,.un]) (m:=4) (i:=3) rfl rfl h0 (by decide) (by decide)
  obtain ⟨mk,hmk,e3⟩:=pick (L:=mk4) q3
  obtain ⟨r4,_,d4⟩:=dr_of hn (η:=[.val (Sd ns),.val (.int here),.val (.str nm),.val (.str ar),.val (.str mk),.un,.un]) (m:=9) (i:=4) rfl rfl h0 (by decide) (by decide)
  obtain ⟨r5,_,d5⟩:=dr_of hn (η:=[.val (Sd ns),.val (.int here),.val (.str nm),.val (.str ar),.val (.str mk),.un,.un]) (m:=9) (i:=5) rfl rfl h0 (by decide) (by decide)
  obtain ⟨r6,q6,d6⟩:=dr_of hn (η:=[.val (Sd ns),.val (.int here),.val (.str nm),.val (.str ar),.val (.str mk),.val (.tuple [.int ((r4:Int) - 4),.int ((r5:Int) - 4)]),.un]) (m:=4) (i:=6) rfl rfl h0 (by decide) (by decide)
  obtain ⟨nn,hnn,e6⟩:=pick (L:=nn4) q6
  refine ⟨nm,⟨nn,ar,(r4:Int) - 4,(r5:Int) - 4,3,4, ""⟩,mk,(r4:Int) - 4,(r5:Int) - 4,?_,⟨gd_of (by simp [hnm]),gd_of (by simp [hnn]),gd_of (by simp [har]),nn_all nn hnn,by show PyData.strOk ("" : Str)=true; decide +kernel,(gd_of (by simp [hmk])).ok⟩⟩
  refine run_of rfl (show g_qsome F_qdrawn [.val (Sd ns),.val (.int here),.un,.un,.un,.un,.un]=_ from ?_)
  refine seq_of (η1:=[.val (Sd ns),.val (.int here),.val (.str nm),.un,.un,.un,.un]) (set_of (l2_of (x:=.list (na7.map PyData.str)) rfl d1 e1)) ?_
  refine seq_of (η1:=[.val (Sd ns),.val (.int here),.val (.str nm),.val (.str ar),.un,.un,.un]) (set_of (l2_of (x:=.list (ar5.map PyData.str)) (oE_of (bind_of (aC_of rfl (aC_of rfl (aC_of rfl (aC_of rfl (aC_of rfl rfl))))) (gL_ok (by simp)))) d2 e2)) ?_
  refine seq_of (η1:=[.val (Sd ns),.val (.int here),.val (.str nm),.val (.str ar),.val (.str mk),.un,.un]) (set_of (l2_of (x:=.list (mk4.map PyData.str)) (oE_of (bind_of (aC_of rfl (aC_of rfl (aC_of rfl (aC_of rfl rfl)))) (gL_ok (by simp)))) d3 e3)) ?_
  refine seq_of (η1:=[.val (Sd ns),.val (.int here),.val (.str nm),.val (.str ar),.val (.str mk),.val (.tuple [.int ((r4:Int) - 4),.int ((r5:Int) - 4)]),.un]) (set_of (d:=.tuple [.int ((r4:Int) - 4),.int ((r5:Int) - 4)]) (lA_of (aC_of (l2_of d4 rfl rfl) (aC_of (l2_of d5 rfl rfl) rfl)) (tup1_ok (by simp)))) ?_
  refine seq_of (η1:=[.val (Sd ns),.val (.int here),.val (.str nm),.val (.str ar),.val (.str mk),.val (.tuple [.int ((r4:Int) - 4),.int ((r5:Int) - 4)]),.val (Bx.d ⟨nn,ar,(r4:Int) - 4,(r5:Int) - 4,3,4, ""⟩)]) (set_of (l2_of (l2_of (lA_of (aC_of (l2_of (x:=.list (nn4.map PyData.str)) (oE_of (bind_of (aC_of rfl (aC_of rfl (aC_of rfl (aC_of rfl rfl)))) (gL_ok (by simp)))) d6 e6) (aC_of rfl rfl)) (tup1_ok (by simp))) rfl (addT (by simp))) (lA_of (aC_of rfl (aC_of rfl (aC_of rfl rfl))) (tup1_ok (by simp))) (addT (by simp)))) ?_
  exact ret_of (l2_of (lA_of (aC_of rfl (aC_of rfl (aC_of rfl rfl))) (tup1_ok (by simp))) rfl (addT (by simp)))
end
def w5:List Str:=["put", "take", "lift", "mark", "lay"]
theorem sh_none:SeqAt.shaped .none=true:=by decide +kernel
theorem sh_gone {bs:List Bx} (v:VB bs) (i:Nat):SeqAt.shaped (.list ((gone bs i).map PyData.str))=true:=shaped_strs fun x hx=>by
  obtain ⟨y,_,rfl⟩:=List.mem_map.mp hx
  exact (scB_ok v).ok y
theorem sh_ref (c:Nat):SeqAt.shaped (refD c)=true:=by
  simp [refD,SeqAt.shaped,PyData.canLay0,PyData.canLayAll0,PyData.depth,PyData.depthAll]
  decide +kernel
section
variable {bs:List Bx} (v:VB bs) {way:Nat} {nm:Str} {b:Bx} {mk:Str} {l t:Int} (g:Some nm b mk) {s:Sto} {a:Ad} {dn un:List (Str×PyData)} (P:Pl s a (SD bs) dn un) (hd:dn.length≤1000)
include v g P hd
def Trn (bs:List Bx) (way:Nat) (nm:Str) (b:Bx) (mk:Str) (l t:Int) (s:Sto) (a:Ad) (dn:List (Str×PyData)):Prop :=
  (∃ c,F_qnext [SD bs,.int (way:Int),someD nm b mk l t]=some (.tuple [refD c,.none])∧F_qtold [.r a.p,.d (.int (way:Int)),.d (someD nm b mk l t)] s=some (.d (refD c),s)) ∨
  (∃ due bs' s' w,F_qnext [SD bs,.int (way:Int),someD nm b mk l t]=some (.tuple [due,SD bs'])∧VB bs'∧SeqAt.shaped due=true∧w5[way]?=some w∧F_qtold [.r a.p,.d (.int (way:Int)),.d (someD nm b mk l t)] s=some (.d due,s')∧Did s s' a (SD bs) (SD bs') dn w)
theorem trn0:Trn bs 0 nm b mk l t s a dn:=by
  have hx:=MX_put P (X_with v g.bn g.ba)
  have hnx:=next_put (nm:=nm) (mk:=mk) (l:=l) (t:=t) v g.ba.ok
  unfold retW at hnx
  cases hr:refW bs b with
  | some c =>
    rw [hr] at hx hnx
    have hc:c < 4:=by
      unfold refW at hr
      split at hr
      · cases hr; decide
      · split at hr
        · cases hr; decide
        · split at hr
          · cases hr; decide
          · cases hr
    exact .inl ⟨c,hnx,(told0 (d:=.d .none) (s':=s) P).1 c hc hx⟩
  | none =>
    rw [hr] at hx hnx
    unfold refW at hr
    split at hr
    · cases hr
    · rename_i h1
      split at hr
      · cases hr
      · rename_i h2
        split at hr
        · cases hr
        · rename_i h3
          have hl:bs.length < 12:=by have:=v.len; omega
          have ha:b.ar = "" ∨ b.ar∈nms bs:=by
            by_cases z:b.ar = ""
            · exact .inl z
            · exact .inr (Classical.not_not.mp fun q=>h2 ⟨z,q⟩)
          obtain ⟨s',e,q⟩:=M_put P hd (B_with v hl h1 ha g.bn.ok g.ba.ok)
          exact .inr ⟨.none,bs++[b],s', "put", hnx,v.more hl h1 ha ⟨g.len,g.bn.ok,g.mr⟩,sh_none,rfl,(told0 P).2 hx e,q⟩
theorem trn_bad (hw:1≤way) (hw5:way < 5) (hn:nm∉nms bs):Trn bs way nm b mk l t s a dn:=by
  have hnx:=next_bad (b:=b) (mk:=mk) (l:=l) (t:=t) v hw hn
  obtain ⟨e1,e2,e3⟩:=X_bad v g.nm hn .none .none .none
  refine .inl ⟨0,hnx,?_⟩
  have h4:way=1∨way=2∨way=3∨way=4:=by omega
  rcases h4 with rfl | rfl | rfl | rfl
  · exact (told1 (d:=.d .none) (s':=s) P).1 0 (by decide) ((MX_take P).1 e2)
  · exact (told2 (d:=.d .none) (s':=s) P).1 0 (by decide) (MX_lift P e3)
  · exact (told3 (d:=.d .none) (s':=s) P).1 0 (by decide) ((MX_mark P).1 e1)
  · exact (told4 (d:=.d .none) (s':=s) P).1 0 (by decide) ((MX_lay P).1 e1)
theorem trn_ok (hw:way < 5):Trn bs way nm b mk l t s a dn:=by
  by_cases w0:way=0
  · subst w0; exact trn0 v g P hd
  by_cases hn:nm∈nms bs
  · obtain ⟨b0,hb,rfl⟩:=List.mem_map.mp hn
    obtain ⟨i0,h0⟩:=List.mem_iff_getElem?.mp hb
    obtain ⟨x1,x2,x3,x4,x5,x6⟩:=X_good v h0 (.str mk) (.int l) (.int t)
    have h4:way=1∨way=2∨way=3∨way=4:=by omega
    rcases h4 with rfl | rfl | rfl | rfl
    · obtain ⟨s',e,q⟩:=M_take P hd (B_below v h0) (B_cut v h0)
      exact .inr ⟨_,_,s', "take", (next_12 v h0 (.inl rfl)).trans (by rw [if_pos rfl]),cutB_ok v h0,sh_gone v i0,rfl,(told1 P).2 ((MX_take P).2 _ x2 (B_below v h0) x3) e,q⟩
    · obtain ⟨s',e,q⟩:=M_lift P hd (B_raised v h0)
      exact .inr ⟨_,_,s', "lift", (next_12 v h0 (.inr rfl)).trans (by rw [if_neg (by decide)]),raiB_ok v h0,sh_none,rfl,(told2 P).2 (MX_lift P x4) e,q⟩
    · obtain ⟨s',e,q⟩:=M_mark P hd (B_box v h0) (B_marked v h0 mk)
      exact .inr ⟨_,_,s', "mark", next_3 v h0,chgB_ok v h0 fun b _=>⟨rfl,rfl,g.okm⟩,shaped_str (v.one b0 hb).2.2,rfl,(told3 P).2 ((MX_mark P).2 _ x1 (B_box v h0) x5) e,q⟩
    · obtain ⟨s',e,q⟩:=M_lay P hd (B_box v h0) (B_put v h0 l t)
      exact .inr ⟨_,_,s', "lay", next_4 v h0,chgB_ok v h0 fun b hb=>⟨rfl,rfl,(v.one b hb).2.2⟩,by simp [SeqAt.shaped,PyData.canLay0,PyData.canLayAll0,PyData.depth,PyData.depthAll],rfl,(told4 P).2 ((MX_lay P).2 _ x1 (B_box v h0) x6) e,q⟩
  · exact trn_bad v g P hd (by omega) hw hn
end
end K53
namespace K53
open PySem L2 L2.PU
theorem lch_of {f g h:En→Option PyData} {η:En} {i j k:Int} (hf:f η=some (.int i)) (hg:g η=some (.int j)) (hh:h η=some (.int k)):lch pLe pLt f g h η=some (.bool (decide (i≤j)&&decide (j < k))):=by
  have e1:pLe (.int i) (.int j)=some (.bool (decide (i≤j))):=rfl
  have e2:pLt (.int j) (.int k)=some (.bool (decide (j < k))):=rfl
  unfold lch
  rw [hf,Option.bind_some,hg,Option.bind_some,e1,Option.bind_some]
  show (if decide (i≤j)=true then (h η).bind fun w=>pLt (.int j) w else some (.bool false))=_
  cases decide (i≤j) with
  | false=>rfl
  | true=>rw [if_pos rfl,hh,Option.bind_some,e2]; rfl
theorem pMax_of (i j:Int):pMax [.int i,.int j]=some (.int (max i j)):=by
  show some (PyData.int (if j > i then j else i))=_
  have:(if j > i then j else i)=max i j:=by split <;> omega
  rw [this]
theorem pMin_of (i j:Int):pMin [.int i,.int j]=some (.int (min i j)):=by
  show some (PyData.int (if j < i then j else i))=_
  have:(if j < i then j else i)=min i j:=by split <;> omega
  rw [this]
def stD (W:Nat→Str) (S:Nat→PyData) (i:Nat):PyData:=.tuple [.str (W i),S i]
def statesD (W:Nat→Str) (S:Nat→PyData) (M:Nat):PyData:=.list ((List.range (M+1)).map (stD W S))
theorem st_at (W:Nat→Str) (S:Nat→PyData) {M k:Nat} (h:k≤M):pIx (statesD W S M) (.int (k:Int))=some (stD W S k):=by
  show atI ((List.range (M+1)).map (stD W S)) (k:Int)=_
  exact atI_nat (by rw [List.getElem?_map,List.getElem?_range (by omega)]; rfl)
theorem st_len (W:Nat→Str) (S:Nat→PyData) (M:Nat):pLen [statesD W S M]=some (.int ((M+1:Nat):Int)):=by
  show some (PyData.int (((List.range (M+1)).map (stD W S)).length:Int))=_
  rw [List.length_map,List.length_range]
structure Sx (s:Sto) (a:Ad) (W:Nat→Str) (S:Nat→PyData) (M k:Nat):Prop where
  at_:At s a W S M k
  kM:k≤M
  sc:∀ i,∃ bs,S i=SD bs∧VB bs
  ok:∀ i,PyData.strOk (W i)=true
abbrev lE (ns:List Int) (sc0:PyData) (p:Nat) (st:PyData) (k:Nat) (x5 x6:Option D) (way:Nat) (sm:PyData) (x9 x10 x11:Option D):MEn:=[some (.d (Sd ns)),some (.d sc0),some (.r p),some (.d st),some (.d (.int (k:Int))),x5,x6,some (.d (.int (way:Int))),some (.d sm),x9,x10,x11]
section
variable {ns:List Int} {sc0:PyData} {s:Sto} {a:Ad} {W:Nat→Str} {S:Nat→PyData} {M k:Nat} (X:Sx s a W S M k) (hM:M≤50) {way:Nat} {nm:Str} {b:Bx} {mk:Str} {l t:Int} (g:Some nm b mk) {x5 x6 x9 x10 x11:Option D}
include X hM
def Res (ns:List Int) (sc0:PyData) (s:Sto) (a:Ad) (W:Nat→Str) (S:Nat→PyData) (M k way:Nat) (sm:PyData) (x5 x6 x9 x10 x11:Option D):Prop :=
  ∃ W' S' M' k' due s' a' y9 y11,lwI ⟨lE ns sc0 a.p (statesD W S M) k x5 x6 way sm x9 x10 x11,s⟩=some (.nx ⟨lE ns sc0 a.p (statesD W' S' M') k' x5 x6 way sm y9 (some (.d due)) y11,s⟩) ∧
    F_qtold [.r a.p,.d (.int (way:Int)),.d sm] s=some (.d due,s')∧SeqAt.shaped due=true∧a'.p=a.p∧Sx s' a' W' S' M' k'∧M'≤M+1
theorem gt4 (w:Wd) (h:eV 7 (vw w)=some (.int (way:Int))):tPv (bT (l2 pGt (eV 7) (eC (.int 4)))) w=some (decide (4 < way),w.s):=by
  refine tPv_of (bT_of (l2_of h rfl ?_))
  show some (PyData.bool (decide ((way:Int) > 4)))=_
  congr 2
  rw [decide_eq_decide]
  omega
theorem goI (h5:way=5∨way=6) {th:Int} (hth:th=if way=5 then (k:Int) - 1 else (k:Int)+1) {k':Nat} {due:PyData} (hin:(0≤th∧th < ((M+1:Nat):Int))→th=(k':Int)∧due=.str (W (max k k'))) (hout:¬ (0≤th∧th < ((M+1:Nat):Int))→k'=k∧due=refD 3) {sm:PyData} :
    ∃ y9,lwI ⟨lE ns sc0 a.p (statesD W S M) k x5 x6 way sm x9 x10 x11,s⟩=some (.nx ⟨lE ns sc0 a.p (statesD W S M) k' x5 x6 way sm y9 (some (.d due)) x11,s⟩):=by
  refine ⟨some (.d (.int th)),?_⟩
  have c5:∀ x9 x10,bT (l2 pEq (eV 7) (eC (.int 5))) (vw ⟨lE ns sc0 a.p (statesD W S M) k x5 x6 way sm x9 x10 x11,s⟩)=some (decide (way=5)):=fun x9 x10=>by
    refine bT_of (l2_of rfl rfl ((pEq_int _ _).trans ?_))
    congr 2
    rw [Bool.eq_iff_iff,beq_iff_eq,decide_eq_true_eq]
    omega
  have cc:∀ x10,bT (lch pLe pLt (eC (.int 0)) (eV 9) (lA pLen (aC (eV 3) aN))) (vw ⟨lE ns sc0 a.p (statesD W S M) k x5 x6 way sm (some (.d (.int th))) x10 x11,s⟩)=some (decide (0≤th)&&decide (th < ((M+1:Nat):Int))):=fun x10=>bT_of (lch_of rfl rfl (lA_of (aC_of rfl rfl) (st_len W S M)))
  have g4:=gt4 X hM ⟨lE ns sc0 a.p (statesD W S M) k x5 x6 way sm x9 x10 x11,s⟩ (way:=way) rfl
  rw [decide_eq_true (show 4 < way by omega)] at g4
  have kM:=X.kM
  refine mIfT g4 (mSeq_of (w1:=⟨lE ns sc0 a.p (statesD W S M) k x5 x6 way sm (some (.d (.int th))) x10 x11,s⟩) (mSet_of (d:=.d (.int th)) (mP_of ?_)) (mSeq_of (w1:=⟨lE ns sc0 a.p (statesD W S M) k x5 x6 way sm (some (.d (.int th))) (some (.d due)) x11,s⟩) (mSet_of (d:=.d due) (mP_of ?_)) (mSet_of (d:=.d (.int (k':Int))) (mP_of ?_))))
  · rw [vIf_of (c5 x9 x10),hth]
    rcases h5 with rfl | rfl
    · exact l2_of rfl rfl rfl
    · exact l2_of rfl rfl rfl
  · rw [vIf_of (cc x10)]
    by_cases h:0≤th∧th < ((M+1:Nat):Int)
    · obtain ⟨e1,e2⟩:=hin h
      rw [decide_eq_true h.1,decide_eq_true h.2,Bool.and_self,if_pos rfl,e2]
      refine l2_of (x:=stD W S (max k k')) (l2_of rfl (lA_of (aC_of rfl (aC_of rfl rfl)) (pMax_of _ _)) ?_) rfl rfl
      rw [e1,show max (k:Int) (k':Int)=((max k k':Nat):Int) by omega]
      exact st_at W S (by have:=h.2; omega)
    · obtain ⟨e1,e2⟩:=hout h
      have:(decide (0≤th)&&decide (th < ((M+1:Nat):Int)))=false:=by
        rw [← Bool.decide_and,decide_eq_false h]
      rw [this,if_neg Bool.false_ne_true,e2]
      exact lA_of (aC_of rfl (aC_of rfl rfl)) (tup1_ok (by simp))
  · rw [vIf_of (cc (some (.d due)))]
    by_cases h:0≤th∧th < ((M+1:Nat):Int)
    · obtain ⟨e1,e2⟩:=hin h
      rw [decide_eq_true h.1,decide_eq_true h.2,Bool.and_self,if_pos rfl,← e1]; rfl
    · obtain ⟨e1,e2⟩:=hout h
      have:(decide (0≤th)&&decide (th < ((M+1:Nat):Int)))=false:=by
        rw [← Bool.decide_and,decide_eq_false h]
      rw [this,if_neg Bool.false_ne_true,e1]; rfl
theorem res5:Res ns sc0 s a W S M k 5 (someD nm b mk l t) x5 x6 x9 x10 x11:=by
  have kM:=X.kM
  have hb:=MX_back X.at_
  cases k with
  | zero =>
    obtain ⟨y9,e⟩:=goI X hM (ns:=ns) (sc0:=sc0) (way:=5) (x5:=x5) (x6:=x6) (x9:=x9) (x10:=x10) (x11:=x11) (sm:=someD nm b mk l t) (.inl rfl) (th:=-1) rfl (k':=0) (due:=refD 3) (fun h=>absurd h.1 (by decide)) (fun _=>⟨rfl,rfl⟩)
    rw [if_pos (show dnL W S 0=[] from rfl)] at hb
    exact ⟨W,S,M,0,refD 3,s,a,y9,x11,e,(told5 (d:=.d .none) (s':=s) X.at_).1 3 (by decide) hb,sh_ref 3,rfl,X,by omega⟩
  | succ k =>
    obtain ⟨y9,e⟩:=goI X hM (ns:=ns) (sc0:=sc0) (way:=5) (x5:=x5) (x6:=x6) (x9:=x9) (x10:=x10) (x11:=x11) (sm:=someD nm b mk l t) (.inl rfl) (th:=(k:Int)) (by rw [if_pos rfl]; omega) (k':=k) (due:=.str (W (k+1))) (fun _=>⟨rfl,by rw [show max (k+1) k=k+1 by omega]⟩) (fun h=>absurd ⟨by omega,by omega⟩ h)
    obtain ⟨s',e1,A,m1⟩:=At.back X.at_ (by omega) (by omega)
    rw [if_neg (by rw [dnL_succ]; simp)] at hb
    exact ⟨W,S,M,k,.str (W (k+1)),s',a,y9,x11,e,(told5 X.at_).2 hb e1,shaped_str (X.ok _),rfl,⟨A,by omega,X.sc,X.ok⟩,by omega⟩
theorem res6:Res ns sc0 s a W S M k 6 (someD nm b mk l t) x5 x6 x9 x10 x11:=by
  have kM:=X.kM
  have hb:=MX_forth X.at_
  by_cases h:k < M
  · obtain ⟨y9,e⟩:=goI X hM (ns:=ns) (sc0:=sc0) (way:=6) (x5:=x5) (x6:=x6) (x9:=x9) (x10:=x10) (x11:=x11) (sm:=someD nm b mk l t) (.inr rfl) (th:=(k:Int)+1) (by rw [if_neg (by decide)]) (k':=k+1) (due:=.str (W (k+1))) (fun _=>⟨by omega,by rw [show max k (k+1)=k+1 by omega]⟩) (fun q=>absurd ⟨by omega,by omega⟩ q)
    obtain ⟨s',e1,A,m1⟩:=At.forth X.at_ h (by omega)
    rw [if_neg (by rw [unL_succ W S h]; simp)] at hb
    exact ⟨W,S,M,k+1,.str (W (k+1)),s',a,y9,x11,e,(told6 X.at_).2 hb e1,shaped_str (X.ok _),rfl,⟨A,by omega,X.sc,X.ok⟩,by omega⟩
  · obtain ⟨y9,e⟩:=goI X hM (ns:=ns) (sc0:=sc0) (way:=6) (x5:=x5) (x6:=x6) (x9:=x9) (x10:=x10) (x11:=x11) (sm:=someD nm b mk l t) (.inr rfl) (th:=(k:Int)+1) (by rw [if_neg (by decide)]) (k':=k) (due:=refD 3) (fun q=>absurd q.2 (by omega)) (fun _=>⟨rfl,rfl⟩)
    rw [if_pos (show unL W S M k=[] by rw [show k=M by omega]; exact unL_self W S M)] at hb
    exact ⟨W,S,M,k,refD 3,s,a,y9,x11,e,(told6 (d:=.d .none) (s':=s) X.at_).1 3 (by decide) hb,sh_ref 3,rfl,X,by omega⟩
include g
theorem res_lo (hw:way < 5):Res ns sc0 s a W S M k way (someD nm b mk l t) x5 x6 x9 x10 x11:=by
  have kM:=X.kM
  obtain ⟨bs,eS,v⟩:=X.sc k
  have P:Pl s a (SD bs) (dnL W S k) (unL W S M k):=by rw [← eS]; exact X.at_
  have g4:=gt4 X hM ⟨lE ns sc0 a.p (statesD W S M) k x5 x6 way (someD nm b mk l t) x9 x10 x11,s⟩ (way:=way) rfl
  rw [decide_eq_false (show ¬ 4 < way by omega)] at g4
  have eN:∀ {r},F_qnext [SD bs,.int (way:Int),someD nm b mk l t]=some r→lA F_qnext (aC (l2 pIx (l2 pIx (eV 3) (eV 4)) (eC (.int 1))) (aC (eV 7) (aC (eV 8) aN))) (vw ⟨lE ns sc0 a.p (statesD W S M) k x5 x6 way (someD nm b mk l t) x9 x10 x11,s⟩)=some r:=fun h=>lA_of (aC_of (l2_of (l2_of rfl rfl (st_at W S kM)) rfl (show _=some (SD bs) by rw [← eS]; rfl)) (aC_of rfl (aC_of rfl rfl))) h
  rcases trn_ok (way:=way) (l:=l) (t:=t) v g P (by rw [dnL_len]; omega) hw with ⟨c,e1,e2⟩ | ⟨due,bs',s',w,e1,v',sh,hw5,e2,q1,q2⟩
  · refine ⟨W,S,M,k,refD c,s,a,x9,some (.d .none),?_,e2,sh_ref c,rfl,X,by omega⟩
    refine mIfF g4 (mSeq_of (w1:=⟨lE ns sc0 a.p (statesD W S M) k x5 x6 way (someD nm b mk l t) x9 (some (.d (refD c))) (some (.d .none)),s⟩) ?_ (mIfN (tPv_of (bT_of (l2_of rfl rfl rfl)))))
    unfold mUnp
    rw [mP_of (eN e1)]; rfl
  · have W':∃ W':Nat→Str,W'=fun i=>if i≤k then W i else w:=⟨_,rfl⟩
    obtain ⟨W',eW'⟩:=W'
    have S':∃ S':Nat→PyData,S'=fun i=>if i≤k then S i else SD bs':=⟨_,rfl⟩
    obtain ⟨S',eS'⟩:=S'
    have hWk:∀ i,i≤k→W i=W' i:=fun i hi=>by rw [eW']; dsimp only; rw [if_pos hi]
    have hSk:∀ i,i≤k→S i=S' i:=fun i hi=>by rw [eS']; dsimp only; rw [if_pos hi]
    have hW1:W' (k+1)=w:=by rw [eW']; dsimp only; rw [if_neg (by omega)]
    have hS1:S' (k+1)=SD bs':=by rw [eS']; dsimp only; rw [if_neg (by omega)]
    have okw:PyData.strOk w=true:=by
      have hm:=List.mem_of_getElem? hw5
      exact (show ∀ x∈w5,PyData.strOk x=true by decide +kernel) w hm
    have A':At s' ⟨a.p,a.n,s.length⟩ W' S' (k+1) (k+1):=by
      unfold At
      rw [unL_self,dnL_succ,hS1,hW1,← dnL_congr hWk hSk,← hSk k (Nat.le_refl k),eS]
      exact q1
    have hst:pAdd (.list ((List.range (k+1)).map (stD W S))) (.list [.tuple [.str w,SD bs']])=some (statesD W' S' (k+1)):=by
      rw [addL (by rw [List.length_map,List.length_range]; show k+1+1≤_; omega)]
      unfold statesD
      rw [List.range_succ (n:=k+1),List.map_append]
      show some (PyData.list _)=some (.list (_++[stD W' S' (k+1)]))
      unfold stD
      rw [hW1,hS1]
      congr 3
      refine List.map_congr_left fun i hi=>?_
      have:=List.mem_range.mp hi
      rw [hWk i (by omega),hSk i (by omega)]
    refine ⟨W',S',k+1,k+1,due,s',⟨a.p,a.n,s.length⟩,x9,some (.d (SD bs')),?_,e2,sh,rfl,⟨A',Nat.le_refl _,fun i=>?_,fun i=>?_⟩,by omega⟩
    · refine mIfF g4 (mSeq_of (w1:=⟨lE ns sc0 a.p (statesD W S M) k x5 x6 way (someD nm b mk l t) x9 (some (.d due)) (some (.d (SD bs'))),s⟩) ?_ (mIfT (tPv_of (bT_of (l2_of rfl rfl rfl))) (mSeq_of (w1:=⟨lE ns sc0 a.p (statesD W' S' (k+1)) k x5 x6 way (someD nm b mk l t) x9 (some (.d due)) (some (.d (SD bs'))),s⟩) (mSet_of (d:=.d (statesD W' S' (k+1))) (mP_of ?_)) ?_)))
      · unfold mUnp
        rw [mP_of (eN e1)]; rfl
      · refine l2_of (x:=.list ((List.range (k+1)).map (stD W S))) (eSl_of rfl rfl (pS_of (l2_of rfl rfl rfl)) ?_) (oE_of (bind_of (aC_of (lA_of (aC_of (d:=.str w) (l2_of (oE_of (bind_of (aC_of rfl (aC_of rfl (aC_of rfl (aC_of rfl (aC_of rfl rfl))))) (gL_ok (by simp)))) rfl ?_) (aC_of rfl rfl)) (tup1_ok (by simp))) rfl) (gL_ok (by simp)))) hst
        · show some (PyData.list (cutL ((List.range (M+1)).map (stD W S)) none (some ((k:Int)+1))))=_
          rw [show (k:Int)+1=((k+1:Nat):Int) by omega,cut_to,← List.map_take,List.take_range,show min (k+1) (M+1)=k+1 by omega]
        · show atI (w5.map PyData.str) (way:Int)=_
          exact atI_nat (by rw [List.getElem?_map,hw5]; rfl)
      · exact mSet_of (d:=.d (.int ((k+1:Nat):Int))) (mP_of (l2_of rfl rfl rfl))
    · rw [eS']
      dsimp only
      split
      · exact X.sc i
      · exact ⟨bs',rfl,v'⟩
    · rw [eW']
      dsimp only
      split
      · exact X.ok i
      · exact okw
end
end K53
namespace K53
open PySem L2 L2.PU
def Dr.bs (c:Dr):List Bx:=(List.range c.ps.length).map fun i=>⟨c.nm (i+1),c.nm (c.ps.getD i 0),c.L i,c.T i,c.W i,c.H i,c.mr i⟩
theorem Dr.bs_at {c:Dr} {i:Nat} {b:Bx} (h:c.bs[i]?=some b):i < c.ps.length∧b=⟨c.nm (i+1),c.nm (c.ps.getD i 0),c.L i,c.T i,c.W i,c.H i,c.mr i⟩:=by
  have hl:=(List.getElem?_eq_some_iff.mp h).1
  unfold Dr.bs at hl h
  rw [List.length_map,List.length_range] at hl
  rw [List.getElem?_map,List.getElem?_range hl] at h
  exact ⟨hl,(Option.some.inj h).symm⟩
theorem Dr.bs_ok {c:Dr} (h:c.Ok) {tn:Nat} (en:c.nm=nmT tn) (h7:c.ps.length≤7):VB c.bs:=by
  refine ⟨by unfold Dr.bs; rw [List.length_map,List.length_range]; omega,?_,fun b hb=>?_,fun i b hb=>?_⟩
  · unfold Dr.bs
    rw [List.map_map,List.nodup_iff_pairwise_ne,List.pairwise_map]
    refine List.Pairwise.imp_of_mem (R:=(· < ·)) (fun {x y} _ _ hxy e=>?_) List.pairwise_lt_range
    have:=h.inj _ _ e
    omega
  · obtain ⟨i,hi⟩:=List.mem_iff_getElem?.mp hb
    obtain ⟨hl,rfl⟩:=Dr.bs_at hi
    refine ⟨?_,h.ok _,h.okm _⟩
    dsimp only
    rw [en,nmT_lo (by omega)]
    exact ⟨Nat.le_refl 1,by show 1≤3; decide⟩
  · obtain ⟨hl,rfl⟩:=Dr.bs_at hb
    dsimp only
    by_cases e:c.ps.getD i 0=0
    · rw [e,h.top]; exact .inl rfl
    · have hp:=h.par i
      refine .inr ⟨c.ps.getD i 0 - 1,⟨c.nm (c.ps.getD i 0 - 1+1),c.nm (c.ps.getD (c.ps.getD i 0 - 1) 0),c.L (c.ps.getD i 0 - 1),c.T (c.ps.getD i 0 - 1),c.W (c.ps.getD i 0 - 1),c.H (c.ps.getD i 0 - 1),c.mr (c.ps.getD i 0 - 1)⟩,by omega,?_,?_⟩
      · unfold Dr.bs
        rw [List.getElem?_map,List.getElem?_range (by omega)]; rfl
      · dsimp only
        rw [show c.ps.getD i 0 - 1+1=c.ps.getD i 0 by omega]
theorem Dr.bs_d (c:Dr):c.d=SD c.bs:=by
  unfold Dr.d SD Dr.bs
  rw [List.map_map]; rfl
theorem abcL:("abcdefghijkl" : Str).cps.toList=(List.range 12).map (97+·):=by decide +kernel
theorem abc_len:("abcdefghijkl" : Str).length≤sizeLine:=by decide +kernel
theorem kk (x:Nat):(("k" : Str)++⟨#[x]⟩:Str)=⟨#[107,x]⟩:=by
  show Str.mk (("k" : Str).cps++#[x])=_
  rw [show ("k" : Str).cps=#[107] by decide +kernel]
  rfl
theorem kname (k:Nat) (hk:k < 12) (s:Sl):l2 pAdd (eC (.str "k")) (l2 pIx (eC (.str "abcdefghijkl")) (eV 0)) [.val (.int (0+(k:Nat)))]=some (.str ⟨#[107,97+k]⟩):=by
  have e:pIx (.str "abcdefghijkl") (.int (0+(k:Nat)))=some (.str ⟨#[97+k]⟩):=by
    show (if ("abcdefghijkl" : Str).length≤sizeLine then (atI ("abcdefghijkl" : Str).cps.toList (0+(k:Nat))).bind _ else none)=_
    rw [if_pos abc_len,abcL,Int.zero_add,atI_nat (v:=97+k) (by rw [List.getElem?_map,List.getElem?_range hk]; rfl)]
    rfl
  refine l2_of rfl (l2_of rfl rfl e) ?_
  have hl:("k" : Str).length+(⟨#[97+k]⟩:Str).length≤sizeLine:=Nat.le_trans (show ("k" : Str).length+1≤10 by decide +kernel) (by show 10≤2 ^ 24; decide)
  show (if ("k" : Str).length+(⟨#[97+k]⟩:Str).length≤sizeLine then some (PyData.str (("k" : Str)++(⟨#[97+k]⟩:Str))) else none)=_
  rw [if_pos hl,kk]
def kb (k:Nat):Bx:=⟨⟨#[107,97+k]⟩, "", (k:Int),0,1,(k:Int), ""⟩
def more (bs:List Bx):List Bx:=bs++(List.range (12 - bs.length)).map kb
theorem up_top:∀ {l:List Bx} {seen:List Str},(∀ b∈l,b.ar = "")→up seen l
  | [],_,_=>trivial
  | b::r,seen,h=>⟨.inl (h b List.mem_cons_self),up_top fun x hx=>h x (List.mem_cons_of_mem _ hx)⟩
theorem ok_kb (k:Nat) (hk:k < 12):PyData.strOk (⟨#[107,97+k]⟩:Str)=true:=by
  unfold PyData.strOk
  simp
  omega
theorem more_ok {bs:List Bx} (v:VB bs) (h1:∀ b∈bs,b.nm.length=1):VB (more bs):=by
  have hl:=v.len
  refine VB.of (by unfold more; rw [List.length_append,List.length_map,List.length_range]; omega) ?_ (fun b hb=>?_) (up_app v.up (up_top fun b hb=>?_))
  · unfold more
    rw [List.map_append,List.nodup_append]
    refine ⟨v.nd,?_,fun x hx y hy e=>?_⟩
    · rw [List.map_map,List.nodup_iff_pairwise_ne,List.pairwise_map]
      refine List.Pairwise.imp_of_mem (R:=(· < ·)) (fun {x y} _ _ hxy e=>?_) List.pairwise_lt_range
      have e:(⟨#[107,97+x]⟩:Str)=⟨#[107,97+y]⟩:=e
      injection e with e
      simp at e
      omega
    · obtain ⟨b,hb,rfl⟩:=List.mem_map.mp hx
      obtain ⟨c,hc,rfl⟩:=List.mem_map.mp hy
      obtain ⟨k,_,rfl⟩:=List.mem_map.mp hc
      have:=h1 b hb
      rw [e] at this
      exact absurd this (by show ¬ 2=1; decide)
  · rcases List.mem_append.mp hb with z | z
    · exact v.one b z
    · obtain ⟨k,hk,rfl⟩:=List.mem_map.mp z
      have:=List.mem_range.mp hk
      exact ⟨⟨by show 1≤2; decide,by show 2≤3; decide⟩,ok_kb k (by omega),by show PyData.strOk ("" : Str)=true; decide +kernel⟩
  · obtain ⟨k,_,rfl⟩:=List.mem_map.mp hb
    rfl
section
variable {ns:List Int} (hn:ns.length≤63)
include hn
theorem start_ok:∃ bs,VB bs∧∀ w:Wd,w=⟨[some (.d (Sd ns)),none,none,none,none,none,none,none,none,none,none,none],[]⟩→∃ bs1,mSet 1 (mP (lA F_qscene (aC (eV 0) (aC (eC (.int 0)) aN)))) w=some (.nx ⟨[some (.d (Sd ns)),some (.d (SD bs1)),none,none,none,none,none,none,none,none,none,none],[]⟩) ∧
    (mIf (tPv (bT (l2 pEq (lA F_qdrawn (aC (eV 0) (aC (eC (.int 100)) (aC (eC (.int 4)) aN)))) (eC (.int 0))))) (mSet 1 (mP (l2 pAdd (eV 1) (lA pTup (aC (oE (sComp [none] (fun η=>((aC (l2 pSub (eC (.int 12)) (lA pLen (aC (eV 1) aN))) aN) η).bind rng1) (tgN 0) tTrue (lA (fun ds=>if ds.length≤sizeLine then some (.tuple ds) else none) (aC (l2 pAdd (eC (.str "k")) (l2 pIx (eC (.str "abcdefghijkl")) (eV 0))) (aC (eC (.str "")) (aC (eV 0) (aC (eC (.int 0)) (aC (eC (.int 1)) (aC (eV 0) (aC (eC (.str "")) aN)))))))))) aN))))) mNx) ⟨[some (.d (Sd ns)),some (.d (SD bs1)),none,none,none,none,none,none,none,none,none,none],[]⟩=some (.nx ⟨[some (.d (Sd ns)),some (.d (SD bs)),none,none,none,none,none,none,none,none,none,none],[]⟩):=by
  obtain ⟨c,tn,ok,en,h7,es⟩:=scene_ok hn
  rw [Dr.bs_d] at es
  have v:=Dr.bs_ok ok en h7
  have h1:∀ b∈c.bs,b.nm.length=1:=fun b hb=>by
    obtain ⟨i,hi⟩:=List.mem_iff_getElem?.mp hb
    obtain ⟨hl,rfl⟩:=Dr.bs_at hi
    dsimp only
    rw [en,nmT_lo (by omega)]; rfl
  have hbl:c.bs.length≤7:=by unfold Dr.bs; rw [List.length_map,List.length_range]; exact h7
  obtain ⟨r,hr,dr⟩:=drawn_ok hn (k:=100) (m:=4) (by decide) (by decide)
  have ct:tPv (bT (l2 pEq (lA F_qdrawn (aC (eV 0) (aC (eC (.int 100)) (aC (eC (.int 4)) aN)))) (eC (.int 0)))) ⟨[some (.d (Sd ns)),some (.d (SD c.bs)),none,none,none,none,none,none,none,none,none,none],[]⟩=some (decide (r=0),[]):=by
    refine tPv_of (bT_of (l2_of (lA_of (aC_of rfl (aC_of rfl (aC_of rfl rfl))) dr) rfl ((pEq_int _ _).trans ?_)))
    congr 2
    rw [Bool.eq_iff_iff,beq_iff_eq,decide_eq_true_eq]
    omega
  by_cases h0:r=0
  · refine ⟨more c.bs,more_ok v h1,fun w hw=>⟨c.bs,?_,mIfT (ct.trans (by rw [decide_eq_true h0])) (mSet_of (d:=.d (SD (more c.bs))) (mP_of ?_))⟩⟩
    · subst hw; exact mSet_of (mP_of (lA_of (aC_of rfl (aC_of rfl rfl)) es))
    · have hr1:rng1 [.int (12 - ((c.bs.map Bx.d).length:Int))]=some ((List.range (12 - c.bs.length)).map fun (k:Nat)=>PyData.int (0+(k:Int))):=by
        rw [asBx,rng1_ok (by omega) (by omega),show (12 - (c.bs.length:Int)).toNat=12 - c.bs.length by omega]; rfl
      refine l2_of rfl (lA_of (aC_of (oE_of (comp_eq (ds:=(List.range (12 - c.bs.length)).map fun (k:Nat)=>PyData.int (0+(k:Int))) (bind_of (aC_of (l2_of rfl (lA_of (aC_of rfl rfl) rfl) rfl) rfl) hr1) (by rw [List.length_map,List.length_range]; omega) (cGo_mapT (η:=[.un]) (fun (k:Nat)=>PyData.int (0+(k:Int))) (fun k=>(kb k).d) (List.range (12 - c.bs.length)) fun k hk=>⟨[.val (.int (0+(k:Int)))],rfl,?_⟩))) rfl) rfl) ?_
      · have:=List.mem_range.mp hk
        have e:=kname k (by omega) .un
        refine lA_of (aC_of e (aC_of rfl (aC_of rfl (aC_of rfl (aC_of rfl (aC_of rfl (aC_of rfl rfl))))))) ((tup1_ok (by simp)).trans ?_)
        unfold Bx.d kb
        rw [Int.zero_add]
      · show pAdd (.tuple (c.bs.map Bx.d)) (.tuple ((List.range (12 - c.bs.length)).map fun k=>(kb k).d))=_
        rw [addT (by rw [asBx,List.length_map,List.length_range]; omega)]
        unfold SD more
        rw [List.map_append,List.map_map]; rfl
  · refine ⟨c.bs,v,fun w hw=>⟨c.bs,?_,mIfN (ct.trans (by rw [decide_eq_false h0]))⟩⟩
    subst hw; exact mSet_of (mP_of (lA_of (aC_of rfl (aC_of rfl rfl)) es))
def ways9:List Nat:=[0,0,0,1,2,3,4,5,6]
omit hn in
theorem ways_le:∀ x∈ways9,x≤6:=by decide
theorem turn_ok {sc0:PyData} {s:Sto} {a:Ad} {W:Nat→Str} {S:Nat→PyData} {M k j:Nat} (X:Sx s a W S M k) (hM:M≤50) {x6 x7 x8 x9 x10 x11:Option D} :
    ∃ (s':Sto) (a':Ad) (W':Nat→Str) (S':Nat→PyData) (M' k':Nat) (y6 y7 y8 y9 y10 y11:Option D),lwB ⟨[some (.d (Sd ns)),some (.d sc0),some (.r a.p),some (.d (statesD W S M)),some (.d (.int (k:Int))),some (.d (.int (0+(j:Int)))),x6,x7,x8,x9,x10,x11],s⟩ =
      some (.nx ⟨[some (.d (Sd ns)),some (.d sc0),some (.r a.p),some (.d (statesD W' S' M')),some (.d (.int (k':Int))),some (.d (.int (0+(j:Int)))),y6,y7,y8,y9,y10,y11],s'⟩)∧a'.p=a.p∧Sx s' a' W' S' M' k'∧M'≤M+1:=by
  obtain ⟨here,eh⟩:∃ here:Int,here=110+8*(0+(j:Int)):=⟨_,rfl⟩
  have h0:0≤here:=by omega
  obtain ⟨r,hr,dr⟩:=drawn_ok hn (k:=here) (m:=9) h0 (by decide)
  have hr9:r < ways9.length:=by show r < 9; omega
  obtain ⟨way,hway⟩:∃ way,ways9[r]?=some way:=⟨ways9[r],List.getElem?_eq_getElem hr9⟩
  have hw6:=ways_le way (List.mem_of_getElem? hway)
  obtain ⟨nm,b,mk,l,t,es,g⟩:=some_ok hn h0
  have R:Res ns sc0 s a W S M k way (someD nm b mk l t) (some (.d (.int (0+(j:Int))))) (some (.d (.int here))) x9 x10 x11:=by
    by_cases h5:way < 5
    · exact res_lo X hM g h5
    · have:way=5∨way=6:=by omega
      rcases this with rfl | rfl
      · exact res5 X hM
      · exact res6 X hM
  obtain ⟨W',S',M',k',due,s',a',y9,y11,e1,e2,sh,pa,X',hM'⟩:=R
  refine ⟨s',a',W',S',M',k',some (.d (.int here)),some (.d (.int (way:Int))),some (.d (someD nm b mk l t)),y9,some (.d due),y11,?_,pa,X',hM'⟩
  have em:pMul (.int 8) (.int (0+(j:Int)))=some (.int (8*(0+(j:Int)))):=pMul_ok (mulL (by decide) (by decide))
  refine mSeq_of (w1:=⟨[some (.d (Sd ns)),some (.d sc0),some (.r a.p),some (.d (statesD W S M)),some (.d (.int (k:Int))),some (.d (.int (0+(j:Int)))),some (.d (.int here)),x7,x8,x9,x10,x11],s⟩) (mSet_of (d:=.d (.int here)) (mP_of (l2_of rfl (l2_of rfl rfl em) (by rw [eh]; rfl)))) ?_
  refine mSeq_of (w1:=⟨[some (.d (Sd ns)),some (.d sc0),some (.r a.p),some (.d (statesD W S M)),some (.d (.int (k:Int))),some (.d (.int (0+(j:Int)))),some (.d (.int here)),some (.d (.int (way:Int))),x8,x9,x10,x11],s⟩) (mSet_of (d:=.d (.int (way:Int))) (mP_of (l2_of (x:=.list (ways9.map fun (n:Nat)=>PyData.int (n:Int))) rfl (lA_of (aC_of rfl (aC_of rfl (aC_of rfl rfl))) dr) (atI_nat (by rw [List.getElem?_map,hway]; rfl))))) ?_
  refine mSeq_of (w1:=⟨lE ns sc0 a.p (statesD W S M) k (some (.d (.int (0+(j:Int))))) (some (.d (.int here))) way (someD nm b mk l t) x9 x10 x11,s⟩) (mSet_of (mP_of (lA_of (aC_of rfl (aC_of rfl rfl)) es))) (mSeq_of e1 ?_)
  obtain ⟨bs,eS,v⟩:=X'.sc k'
  have shS:SeqAt.shaped (S' k')=true:=by rw [eS]; exact shaped_S v
  have ep:∀ w:Wd,w.η=lE ns sc0 a.p (statesD W' S' M') k' (some (.d (.int (0+(j:Int))))) (some (.d (.int here))) way (someD nm b mk l t) y9 (some (.d due)) y11→mV 2 w=some (.r a'.p,w.s):=fun w hw=>by
    unfold mV
    rw [hw,pa]; rfl
  refine mSeq_of (w1:=⟨lE ns sc0 a.p (statesD W' S' M') k' (some (.d (.int (0+(j:Int))))) (some (.d (.int here))) way (someD nm b mk l t) y9 (some (.d due)) y11,s'⟩) (mIfN (tmOrS (ne_same (mCall_of (s1:=s) (maC_of (s1:=s) rfl (maC_of (s1:=s) (mP_of rfl) (maC_of (s1:=s) (mP_of rfl) maN_of))) e2) (mP_of rfl) sh) (ne_same (c_now X'.at_ (ep _ rfl)) (mP_of (l2_of (l2_of rfl rfl (st_at W' S' X'.kM)) rfl rfl)) shS))) ?_
  refine mIfN (ne_same (c_sizes X'.at_ X'.kM (ep _ rfl)) (mP_of (lA_of (aC_of rfl (aC_of (l2_of (l2_of (lA_of (aC_of rfl rfl) (st_len W' S' M')) rfl rfl) rfl rfl) rfl)) ((tup1_ok (by simp)).trans ?_))) (shaped_sz _ _))
  show some (PyData.tuple [.int (k':Int),.int (((M'+1:Nat):Int) - 1 - (k':Int))])=some (szK M' k')
  unfold szK
  rw [show ((M'+1:Nat):Int) - 1 - (k':Int)=(M':Int) - (k':Int) by omega]
end
theorem main (ns:List Int) (hn:ns.length≤63):∃ s',F_law [.d (.list (ns.map PyData.int))] []=some (.d (.bool true),s'):=by
  obtain ⟨bs,v,hst⟩:=start_ok hn
  obtain ⟨bs1,i1,i2⟩:=hst _ rfl
  have s0:∃ s0:Sto,s0=[Cell.obj 0 (pf (SD bs) 1 2),.lst [],.lst []]:=⟨_,rfl⟩
  obtain ⟨s0,e0⟩:=s0
  have X0:Sx s0 ⟨0,1,2⟩ (fun _ => "") (fun _=>SD bs) 0 0:=by
    refine ⟨?_,Nat.le_refl _,fun _=>⟨bs,rfl,v⟩,fun _=>by show PyData.strOk ("" : Str)=true; decide +kernel⟩
    rw [e0]; exact ⟨rfl,rfl,rfl,by decide⟩
  obtain ⟨N,eN⟩:∃ N:Nat,N=max 1 (min 10 ns.length):=⟨_,rfl⟩
  obtain ⟨w1,g1,s1,a1,W,S,M,k,z5,z6,z7,z8,z9,z10,z11,rfl,pa,X1,hM⟩:=rng_go (ks:=[5]) (t:=tgN 5) (body:=lwB) (fun (k:Nat)=>PyData.int (0+(k:Int))) (fun j w=>∃ (s':Sto) (a':Ad) (W:Nat→Str) (S:Nat→PyData) (M k:Nat) (z5 z6 z7 z8 z9 z10 z11:Option D),w=⟨[some (.d (Sd ns)),some (.d (SD bs)),some (.r 0),some (.d (statesD W S M)),some (.d (.int (k:Int))),z5,z6,z7,z8,z9,z10,z11],s'⟩∧a'.p=0∧Sx s' a' W S M k∧M≤j) N
    (fun j w hj ⟨s',a',W,S,M,k,z5,z6,z7,z8,z9,z10,z11,e,q1,q2,q3⟩=>by
      subst e
      obtain ⟨s2,a2,W',S',M',k',y6,y7,y8,y9,y10,y11,t1,t2,t3,t4⟩:=turn_ok hn (j:=j) (sc0:=SD bs) (x6:=z6) (x7:=z7) (x8:=z8) (x9:=z9) (x10:=z10) (x11:=z11) q2 (by omega)
      rw [q1] at t1 t2
      exact ⟨_,_,mTg_name (show 5 < 12 by decide),t1,s2,a2,W',S',M',k',_,y6,y7,y8,y9,y10,y11,rfl,t2,t3,by omega⟩)
    (w:=⟨[some (.d (Sd ns)),some (.d (SD bs)),some (.r 0),some (.d (statesD (fun _ => "") (fun _=>SD bs) 0)),some (.d (.int ((0:Nat):Int))),none,none,none,none,none,none,none],s0⟩) ⟨s0,⟨0,1,2⟩,fun _ => "", fun _=>SD bs,0,0,none,none,none,none,none,none,none,rfl,rfl,X0,Nat.le_refl _⟩
  refine ⟨s1,mRun_of rfl (show g_law F_qscene F_qdrawn F_X___init__ F_qsome F_qnext F_X_now F_qtold F_X_sizes ⟨[some (.d (Sd ns)),none,none,none,none,none,none,none,none,none,none,none],[]⟩=_ from ?_)⟩
  refine mSeq_of i1 (mSeq_of i2 ?_)
  have hi:=F_init [] (SD bs)
  refine mSeq_of (w1:=⟨[some (.d (Sd ns)),some (.d (SD bs)),some (.r 0),none,none,none,none,none,none,none,none,none],s0⟩) (mSet_of (d:=.r 0) (mMake_of (s:=[]) (maC_of (d:=.d (SD bs)) (s1:=[]) (mP_of rfl) maN_of) ?_)) ?_
  · rw [e0]; exact hi
  refine mSeq_of (w1:=⟨[some (.d (Sd ns)),some (.d (SD bs)),some (.r 0),some (.d (statesD (fun _ => "") (fun _=>SD bs) 0)),none,none,none,none,none,none,none,none],s0⟩) (mSet_of (d:=.d (statesD (fun _ => "") (fun _=>SD bs) 0)) (mP_of (oE_of (bind_of (aC_of (lA_of (aC_of rfl (aC_of rfl rfl)) (tup1_ok (by simp))) rfl) (gL_ok (by simp)))))) ?_
  refine mSeq_of (w1:=⟨[some (.d (Sd ns)),some (.d (SD bs)),some (.r 0),some (.d (statesD (fun _ => "") (fun _=>SD bs) 0)),some (.d (.int ((0:Nat):Int))),none,none,none,none,none,none,none],s0⟩) (mSet_of (mP_of rfl)) ?_
  refine mSeq_of (mFor_of (s:=s0) (xs:=(List.range N).map fun (k:Nat)=>PyData.int (0+(k:Int))) (iPu_of (bind_of (aC_of (d:=.int (N:Int)) (lA_of (aC_of rfl (aC_of (lA_of (aC_of rfl (aC_of (lA_of (aC_of rfl rfl) rfl) rfl)) (pMin_of _ _)) rfl)) ((pMax_of _ _).trans ?_)) rfl) ?_)) g1) (mRet_of (mP_of rfl))
  · show some (PyData.int (max 1 (min 10 ((ns.map PyData.int).length:Int))))=_
    rw [List.length_map]
    congr 2
    omega
  · rw [rng1_ok (by omega) (by omega),show ((N:Int)).toNat=N by omega]; rfl
end K53
namespace K53
open PySem L2 L2.PU
set_option maxHeartbeats 4000000 in
theorem all_mk (main:∀ ns:List Int,ns.length≤63→∃ s',F_law [.d (.list (ns.map PyData.int))] []=some (.d (.bool true),s')) {l:PySem.W.OpenLaw} {w:World} {K:PySem.W.Frag} {h:Heap} {mg:Str→Option Value} {fa:Addr} (X:K.In h) (G:h.Ns mainGlobals mg) (hfa:mg "law" = some (.ref fa))
    {C_Plan:Addr}
    {f_qcell:Addr} {od_qcell an_qcell:Option Addr} {sl_qcell:Array (Option Value)} {oc_qcell kV_qcell dc_qcell pm_qcell cd_qcell ct_qcell:Value}
    {f_qdrawn:Addr} {od_qdrawn an_qdrawn:Option Addr} {sl_qdrawn:Array (Option Value)} {oc_qdrawn kV_qdrawn dc_qdrawn pm_qdrawn cd_qdrawn ct_qdrawn:Value}
    {f_qscene:Addr} {od_qscene an_qscene:Option Addr} {sl_qscene:Array (Option Value)} {oc_qscene kV_qscene dc_qscene pm_qscene cd_qscene ct_qscene:Value}
    {f_X___init__:Addr} {od_X___init__ an_X___init__:Option Addr} {sl_X___init__:Array (Option Value)} {oc_X___init__ kV_X___init__ dc_X___init__ pm_X___init__ cd_X___init__ ct_X___init__:Value}
    {f_qsome:Addr} {od_qsome an_qsome:Option Addr} {sl_qsome:Array (Option Value)} {oc_qsome kV_qsome dc_qsome pm_qsome cd_qsome ct_qsome:Value}
    {f_qput:Addr} {od_qput an_qput:Option Addr} {sl_qput:Array (Option Value)} {oc_qput kV_qput dc_qput pm_qput cd_qput ct_qput:Value}
    {f_qbox:Addr} {od_qbox an_qbox:Option Addr} {sl_qbox:Array (Option Value)} {oc_qbox kV_qbox dc_qbox pm_qbox cd_qbox ct_qbox:Value}
    {f_qpainted:Addr} {od_qpainted an_qpainted:Option Addr} {sl_qpainted:Array (Option Value)} {oc_qpainted kV_qpainted dc_qpainted pm_qpainted cd_qpainted ct_qpainted:Value}
    {f_qpath:Addr} {od_qpath an_qpath:Option Addr} {sl_qpath:Array (Option Value)} {oc_qpath kV_qpath dc_qpath pm_qpath cd_qpath ct_qpath:Value}
    {f_qnext:Addr} {od_qnext an_qnext:Option Addr} {sl_qnext:Array (Option Value)} {oc_qnext kV_qnext dc_qnext pm_qnext cd_qnext ct_qnext:Value}
    {f_X_now:Addr} {od_X_now an_X_now:Option Addr} {sl_X_now:Array (Option Value)} {oc_X_now kV_X_now dc_X_now pm_X_now cd_X_now ct_X_now:Value}
    {f_X_step_to:Addr} {od_X_step_to an_X_step_to:Option Addr} {sl_X_step_to:Array (Option Value)} {oc_X_step_to kV_X_step_to dc_X_step_to pm_X_step_to cd_X_step_to ct_X_step_to:Value}
    {f_has_box:Addr} {od_has_box an_has_box:Option Addr} {sl_has_box:Array (Option Value)} {oc_has_box kV_has_box dc_has_box pm_has_box cd_has_box ct_has_box:Value}
    {f_with_box:Addr} {od_with_box an_with_box:Option Addr} {sl_with_box:Array (Option Value)} {oc_with_box kV_with_box dc_with_box pm_with_box cd_with_box ct_with_box:Value}
    {f_X_put:Addr} {od_X_put an_X_put:Option Addr} {sl_X_put:Array (Option Value)} {oc_X_put kV_X_put dc_X_put pm_X_put cd_X_put ct_X_put:Value}
    {f_box_of:Addr} {od_box_of an_box_of:Option Addr} {sl_box_of:Array (Option Value)} {oc_box_of kV_box_of dc_box_of pm_box_of cd_box_of ct_box_of:Value}
    {f_children:Addr} {od_children an_children:Option Addr} {sl_children:Array (Option Value)} {oc_children kV_children dc_children pm_children cd_children ct_children:Value}
    {f_below:Addr} {od_below an_below:Option Addr} {sl_below:Array (Option Value)} {oc_below kV_below dc_below pm_below cd_below ct_below:Value}
    {f_cut:Addr} {od_cut an_cut:Option Addr} {sl_cut:Array (Option Value)} {oc_cut kV_cut dc_cut pm_cut cd_cut ct_cut:Value}
    {f_X_take:Addr} {od_X_take an_X_take:Option Addr} {sl_X_take:Array (Option Value)} {oc_X_take kV_X_take dc_X_take pm_X_take cd_X_take ct_X_take:Value}
    {f_raised:Addr} {od_raised an_raised:Option Addr} {sl_raised:Array (Option Value)} {oc_raised kV_raised dc_raised pm_raised cd_raised ct_raised:Value}
    {f_X_lift:Addr} {od_X_lift an_X_lift:Option Addr} {sl_X_lift:Array (Option Value)} {oc_X_lift kV_X_lift dc_X_lift pm_X_lift cd_X_lift ct_X_lift:Value}
    {f_with_other:Addr} {od_with_other an_with_other:Option Addr} {sl_with_other:Array (Option Value)} {oc_with_other kV_with_other dc_with_other pm_with_other cd_with_other ct_with_other:Value}
    {f_marked:Addr} {od_marked an_marked:Option Addr} {sl_marked:Array (Option Value)} {oc_marked kV_marked dc_marked pm_marked cd_marked ct_marked:Value}
    {f_X_mark:Addr} {od_X_mark an_X_mark:Option Addr} {sl_X_mark:Array (Option Value)} {oc_X_mark kV_X_mark dc_X_mark pm_X_mark cd_X_mark ct_X_mark:Value}
    {f_put_at:Addr} {od_put_at an_put_at:Option Addr} {sl_put_at:Array (Option Value)} {oc_put_at kV_put_at dc_put_at pm_put_at cd_put_at ct_put_at:Value}
    {f_X_lay:Addr} {od_X_lay an_X_lay:Option Addr} {sl_X_lay:Array (Option Value)} {oc_X_lay kV_X_lay dc_X_lay pm_X_lay cd_X_lay ct_X_lay:Value}
    {f_X_back:Addr} {od_X_back an_X_back:Option Addr} {sl_X_back:Array (Option Value)} {oc_X_back kV_X_back dc_X_back pm_X_back cd_X_back ct_X_back:Value}
    {f_X_forth:Addr} {od_X_forth an_X_forth:Option Addr} {sl_X_forth:Array (Option Value)} {oc_X_forth kV_X_forth dc_X_forth pm_X_forth cd_X_forth ct_X_forth:Value}
    {f_qtold:Addr} {od_qtold an_qtold:Option Addr} {sl_qtold:Array (Option Value)} {oc_qtold kV_qtold dc_qtold pm_qtold cd_qtold ct_qtold:Value}
    {f_X_sizes:Addr} {od_X_sizes an_X_sizes:Option Addr} {sl_X_sizes:Array (Option Value)} {oc_X_sizes kV_X_sizes dc_X_sizes pm_X_sizes cd_X_sizes ct_X_sizes:Value}
    {f_law:Addr} {od_law an_law:Option Addr} {sl_law:Array (Option Value)} {oc_law kV_law dc_law pm_law cd_law ct_law:Value}
    {f_qrefused:Addr} {od_qrefused an_qrefused:Option Addr} {sl_qrefused:Array (Option Value)} {oc_qrefused kV_qrefused dc_qrefused pm_qrefused cd_qrefused ct_qrefused:Value}
    {t_AROUND:Tok}
    {t_LEFT:Tok}
    {t_MARKS:Tok}
    {t_MOST_BOXES:Tok}
    {t_NAME:Tok}
    {t_SCENE:Tok}
    {t_WIDTH:Tok}
    {t_WORD:Tok}
    {f_NoBox:Addr}
    {f_Taken:Addr}
    {f_TooMany:Addr}
    {f_NoNumber:Addr}
    {f_TouchError:Addr}
    (aC_Plan:PySem.W.nsIn K mainGlobals "Plan" = some (some (.ref C_Plan)))
    (pg_Plan:PySem.W.plainGet K C_Plan Str.empty=true)
    (hd_Plan:PySem.W.hasDictIn K C_Plan=true)
    (po_Plan:PySem.W.plainOver K C_Plan=true)
    (sa_Plan:PySem.W.findIn K (.ref C_Plan) "__setattr__" = some (some (.builtin "object.__setattr__")))
    (mk_Plan:PySem.W.makesIn K C_Plan=true)
    (kc_Plan:PySem.W.keepIn K (.ref C_Plan)=true)
    (na_Plan_done:PySem.W.findIn K (.ref C_Plan) "done" = some none)
    (na_Plan_scene:PySem.W.findIn K (.ref C_Plan) "scene" = some none)
    (na_Plan_undone:PySem.W.findIn K (.ref C_Plan) "undone" = some none)
    (a_qcell:PySem.W.nsIn K mainGlobals "_law_cell" = some (some (.ref f_qcell)))
    (l_qcell:K.lookup f_qcell=some ⟨oc_qcell,od_qcell,.func (PySem.W.fnOf "_law_cell" "_law_cell" (defArgs s_qcell) (defBody s_qcell) (defScope s_qcell) .none kV_qcell dc_qcell pm_qcell an_qcell cd_qcell ct_qcell),sl_qcell⟩)
    (c_qcell:PySem.W.codeIn K cd_qcell "_law_cell" = true)
    (k_qcell:PySem.W.keepIn K (.ref f_qcell)=true)
    (a_qdrawn:PySem.W.nsIn K mainGlobals "_law_drawn" = some (some (.ref f_qdrawn)))
    (l_qdrawn:K.lookup f_qdrawn=some ⟨oc_qdrawn,od_qdrawn,.func (PySem.W.fnOf "_law_drawn" "_law_drawn" (defArgs s_qdrawn) (defBody s_qdrawn) (defScope s_qdrawn) .none kV_qdrawn dc_qdrawn pm_qdrawn an_qdrawn cd_qdrawn ct_qdrawn),sl_qdrawn⟩)
    (c_qdrawn:PySem.W.codeIn K cd_qdrawn "_law_drawn" = true)
    (k_qdrawn:PySem.W.keepIn K (.ref f_qdrawn)=true)
    (a_qscene:PySem.W.nsIn K mainGlobals "_law_scene" = some (some (.ref f_qscene)))
    (l_qscene:K.lookup f_qscene=some ⟨oc_qscene,od_qscene,.func (PySem.W.fnOf "_law_scene" "_law_scene" (defArgs s_qscene) (defBody s_qscene) (defScope s_qscene) .none kV_qscene dc_qscene pm_qscene an_qscene cd_qscene ct_qscene),sl_qscene⟩)
    (c_qscene:PySem.W.codeIn K cd_qscene "_law_scene" = true)
    (k_qscene:PySem.W.keepIn K (.ref f_qscene)=true)
    (a_X___init__:PySem.W.findIn K (.ref C_Plan) "__init__" = some (some (.ref f_X___init__)))
    (i_X___init__:PySem.W.isFn K (.ref f_X___init__)=true)
    (l_X___init__:K.lookup f_X___init__=some ⟨oc_X___init__,od_X___init__,.func (PySem.W.fnOf "__init__" "Plan.__init__" (defArgs s_X___init__) (defBody s_X___init__) (defScope s_X___init__) .none kV_X___init__ dc_X___init__ pm_X___init__ an_X___init__ cd_X___init__ ct_X___init__),sl_X___init__⟩)
    (c_X___init__:PySem.W.codeIn K cd_X___init__ "Plan.__init__" = true)
    (k_X___init__:PySem.W.keepIn K (.ref f_X___init__)=true)
    (a_qsome:PySem.W.nsIn K mainGlobals "_law_some" = some (some (.ref f_qsome)))
    (l_qsome:K.lookup f_qsome=some ⟨oc_qsome,od_qsome,.func (PySem.W.fnOf "_law_some" "_law_some" (defArgs s_qsome) (defBody s_qsome) (defScope s_qsome) .none kV_qsome dc_qsome pm_qsome an_qsome cd_qsome ct_qsome),sl_qsome⟩)
    (c_qsome:PySem.W.codeIn K cd_qsome "_law_some" = true)
    (k_qsome:PySem.W.keepIn K (.ref f_qsome)=true)
    (a_qput:PySem.W.nsIn K mainGlobals "_law_put" = some (some (.ref f_qput)))
    (l_qput:K.lookup f_qput=some ⟨oc_qput,od_qput,.func (PySem.W.fnOf "_law_put" "_law_put" (defArgs s_qput) (defBody s_qput) (defScope s_qput) .none kV_qput dc_qput pm_qput an_qput cd_qput ct_qput),sl_qput⟩)
    (c_qput:PySem.W.codeIn K cd_qput "_law_put" = true)
    (k_qput:PySem.W.keepIn K (.ref f_qput)=true)
    (a_qbox:PySem.W.nsIn K mainGlobals "_law_box" = some (some (.ref f_qbox)))
    (l_qbox:K.lookup f_qbox=some ⟨oc_qbox,od_qbox,.func (PySem.W.fnOf "_law_box" "_law_box" (defArgs s_qbox) (defBody s_qbox) (defScope s_qbox) .none kV_qbox dc_qbox pm_qbox an_qbox cd_qbox ct_qbox),sl_qbox⟩)
    (c_qbox:PySem.W.codeIn K cd_qbox "_law_box" = true)
    (k_qbox:PySem.W.keepIn K (.ref f_qbox)=true)
    (a_qpainted:PySem.W.nsIn K mainGlobals "_law_painted" = some (some (.ref f_qpainted)))
    (l_qpainted:K.lookup f_qpainted=some ⟨oc_qpainted,od_qpainted,.func (PySem.W.fnOf "_law_painted" "_law_painted" (defArgs s_qpainted) (defBody s_qpainted) (defScope s_qpainted) .none kV_qpainted dc_qpainted pm_qpainted an_qpainted cd_qpainted ct_qpainted),sl_qpainted⟩)
    (c_qpainted:PySem.W.codeIn K cd_qpainted "_law_painted" = true)
    (k_qpainted:PySem.W.keepIn K (.ref f_qpainted)=true)
    (a_qpath:PySem.W.nsIn K mainGlobals "_law_path" = some (some (.ref f_qpath)))
    (l_qpath:K.lookup f_qpath=some ⟨oc_qpath,od_qpath,.func (PySem.W.fnOf "_law_path" "_law_path" (defArgs s_qpath) (defBody s_qpath) (defScope s_qpath) .none kV_qpath dc_qpath pm_qpath an_qpath cd_qpath ct_qpath),sl_qpath⟩)
    (c_qpath:PySem.W.codeIn K cd_qpath "_law_path" = true)
    (k_qpath:PySem.W.keepIn K (.ref f_qpath)=true)
    (a_qnext:PySem.W.nsIn K mainGlobals "_law_next" = some (some (.ref f_qnext)))
    (l_qnext:K.lookup f_qnext=some ⟨oc_qnext,od_qnext,.func (PySem.W.fnOf "_law_next" "_law_next" (defArgs s_qnext) (defBody s_qnext) (defScope s_qnext) .none kV_qnext dc_qnext pm_qnext an_qnext cd_qnext ct_qnext),sl_qnext⟩)
    (c_qnext:PySem.W.codeIn K cd_qnext "_law_next" = true)
    (k_qnext:PySem.W.keepIn K (.ref f_qnext)=true)
    (a_X_now:PySem.W.findIn K (.ref C_Plan) "now" = some (some (.ref f_X_now)))
    (i_X_now:PySem.W.isFn K (.ref f_X_now)=true)
    (l_X_now:K.lookup f_X_now=some ⟨oc_X_now,od_X_now,.func (PySem.W.fnOf "now" "Plan.now" (defArgs s_X_now) (defBody s_X_now) (defScope s_X_now) .none kV_X_now dc_X_now pm_X_now an_X_now cd_X_now ct_X_now),sl_X_now⟩)
    (c_X_now:PySem.W.codeIn K cd_X_now "Plan.now" = true)
    (k_X_now:PySem.W.keepIn K (.ref f_X_now)=true)
    (a_X_step_to:PySem.W.findIn K (.ref C_Plan) "step_to" = some (some (.ref f_X_step_to)))
    (i_X_step_to:PySem.W.isFn K (.ref f_X_step_to)=true)
    (l_X_step_to:K.lookup f_X_step_to=some ⟨oc_X_step_to,od_X_step_to,.func (PySem.W.fnOf "step_to" "Plan.step_to" (defArgs s_X_step_to) (defBody s_X_step_to) (defScope s_X_step_to) .none kV_X_step_to dc_X_step_to pm_X_step_to an_X_step_to cd_X_step_to ct_X_step_to),sl_X_step_to⟩)
    (c_X_step_to:PySem.W.codeIn K cd_X_step_to "Plan.step_to" = true)
    (k_X_step_to:PySem.W.keepIn K (.ref f_X_step_to)=true)
    (a_has_box:PySem.W.nsIn K mainGlobals "has_box" = some (some (.ref f_has_box)))
    (l_has_box:K.lookup f_has_box=some ⟨oc_has_box,od_has_box,.func (PySem.W.fnOf "has_box" "has_box" (defArgs s_has_box) (defBody s_has_box) (defScope s_has_box) .none kV_has_box dc_has_box pm_has_box an_has_box cd_has_box ct_has_box),sl_has_box⟩)
    (c_has_box:PySem.W.codeIn K cd_has_box "has_box" = true)
    (k_has_box:PySem.W.keepIn K (.ref f_has_box)=true)
    (a_with_box:PySem.W.nsIn K mainGlobals "with_box" = some (some (.ref f_with_box)))
    (l_with_box:K.lookup f_with_box=some ⟨oc_with_box,od_with_box,.func (PySem.W.fnOf "with_box" "with_box" (defArgs s_with_box) (defBody s_with_box) (defScope s_with_box) .none kV_with_box dc_with_box pm_with_box an_with_box cd_with_box ct_with_box),sl_with_box⟩)
    (c_with_box:PySem.W.codeIn K cd_with_box "with_box" = true)
    (k_with_box:PySem.W.keepIn K (.ref f_with_box)=true)
    (a_X_put:PySem.W.findIn K (.ref C_Plan) "put" = some (some (.ref f_X_put)))
    (i_X_put:PySem.W.isFn K (.ref f_X_put)=true)
    (l_X_put:K.lookup f_X_put=some ⟨oc_X_put,od_X_put,.func (PySem.W.fnOf "put" "Plan.put" (defArgs s_X_put) (defBody s_X_put) (defScope s_X_put) .none kV_X_put dc_X_put pm_X_put an_X_put cd_X_put ct_X_put),sl_X_put⟩)
    (c_X_put:PySem.W.codeIn K cd_X_put "Plan.put" = true)
    (k_X_put:PySem.W.keepIn K (.ref f_X_put)=true)
    (a_box_of:PySem.W.nsIn K mainGlobals "box_of" = some (some (.ref f_box_of)))
    (l_box_of:K.lookup f_box_of=some ⟨oc_box_of,od_box_of,.func (PySem.W.fnOf "box_of" "box_of" (defArgs s_box_of) (defBody s_box_of) (defScope s_box_of) .none kV_box_of dc_box_of pm_box_of an_box_of cd_box_of ct_box_of),sl_box_of⟩)
    (c_box_of:PySem.W.codeIn K cd_box_of "box_of" = true)
    (k_box_of:PySem.W.keepIn K (.ref f_box_of)=true)
    (a_children:PySem.W.nsIn K mainGlobals "children" = some (some (.ref f_children)))
    (l_children:K.lookup f_children=some ⟨oc_children,od_children,.func (PySem.W.fnOf "children" "children" (defArgs s_children) (defBody s_children) (defScope s_children) .none kV_children dc_children pm_children an_children cd_children ct_children),sl_children⟩)
    (c_children:PySem.W.codeIn K cd_children "children" = true)
    (k_children:PySem.W.keepIn K (.ref f_children)=true)
    (a_below:PySem.W.nsIn K mainGlobals "below" = some (some (.ref f_below)))
    (l_below:K.lookup f_below=some ⟨oc_below,od_below,.func (PySem.W.fnOf "below" "below" (defArgs s_below) (defBody s_below) (defScope s_below) .none kV_below dc_below pm_below an_below cd_below ct_below),sl_below⟩)
    (c_below:PySem.W.codeIn K cd_below "below" = true)
    (k_below:PySem.W.keepIn K (.ref f_below)=true)
    (a_cut:PySem.W.nsIn K mainGlobals "cut" = some (some (.ref f_cut)))
    (l_cut:K.lookup f_cut=some ⟨oc_cut,od_cut,.func (PySem.W.fnOf "cut" "cut" (defArgs s_cut) (defBody s_cut) (defScope s_cut) .none kV_cut dc_cut pm_cut an_cut cd_cut ct_cut),sl_cut⟩)
    (c_cut:PySem.W.codeIn K cd_cut "cut" = true)
    (k_cut:PySem.W.keepIn K (.ref f_cut)=true)
    (a_X_take:PySem.W.findIn K (.ref C_Plan) "take" = some (some (.ref f_X_take)))
    (i_X_take:PySem.W.isFn K (.ref f_X_take)=true)
    (l_X_take:K.lookup f_X_take=some ⟨oc_X_take,od_X_take,.func (PySem.W.fnOf "take" "Plan.take" (defArgs s_X_take) (defBody s_X_take) (defScope s_X_take) .none kV_X_take dc_X_take pm_X_take an_X_take cd_X_take ct_X_take),sl_X_take⟩)
    (c_X_take:PySem.W.codeIn K cd_X_take "Plan.take" = true)
    (k_X_take:PySem.W.keepIn K (.ref f_X_take)=true)
    (a_raised:PySem.W.nsIn K mainGlobals "raised" = some (some (.ref f_raised)))
    (l_raised:K.lookup f_raised=some ⟨oc_raised,od_raised,.func (PySem.W.fnOf "raised" "raised" (defArgs s_raised) (defBody s_raised) (defScope s_raised) .none kV_raised dc_raised pm_raised an_raised cd_raised ct_raised),sl_raised⟩)
    (c_raised:PySem.W.codeIn K cd_raised "raised" = true)
    (k_raised:PySem.W.keepIn K (.ref f_raised)=true)
    (a_X_lift:PySem.W.findIn K (.ref C_Plan) "lift" = some (some (.ref f_X_lift)))
    (i_X_lift:PySem.W.isFn K (.ref f_X_lift)=true)
    (l_X_lift:K.lookup f_X_lift=some ⟨oc_X_lift,od_X_lift,.func (PySem.W.fnOf "lift" "Plan.lift" (defArgs s_X_lift) (defBody s_X_lift) (defScope s_X_lift) .none kV_X_lift dc_X_lift pm_X_lift an_X_lift cd_X_lift ct_X_lift),sl_X_lift⟩)
    (c_X_lift:PySem.W.codeIn K cd_X_lift "Plan.lift" = true)
    (k_X_lift:PySem.W.keepIn K (.ref f_X_lift)=true)
    (a_with_other:PySem.W.nsIn K mainGlobals "with_other" = some (some (.ref f_with_other)))
    (l_with_other:K.lookup f_with_other=some ⟨oc_with_other,od_with_other,.func (PySem.W.fnOf "with_other" "with_other" (defArgs s_with_other) (defBody s_with_other) (defScope s_with_other) .none kV_with_other dc_with_other pm_with_other an_with_other cd_with_other ct_with_other),sl_with_other⟩)
    (c_with_other:PySem.W.codeIn K cd_with_other "with_other" = true)
    (k_with_other:PySem.W.keepIn K (.ref f_with_other)=true)
    (a_marked:PySem.W.nsIn K mainGlobals "marked" = some (some (.ref f_marked)))
    (l_marked:K.lookup f_marked=some ⟨oc_marked,od_marked,.func (PySem.W.fnOf "marked" "marked" (defArgs s_marked) (defBody s_marked) (defScope s_marked) .none kV_marked dc_marked pm_marked an_marked cd_marked ct_marked),sl_marked⟩)
    (c_marked:PySem.W.codeIn K cd_marked "marked" = true)
    (k_marked:PySem.W.keepIn K (.ref f_marked)=true)
    (a_X_mark:PySem.W.findIn K (.ref C_Plan) "mark" = some (some (.ref f_X_mark)))
    (i_X_mark:PySem.W.isFn K (.ref f_X_mark)=true)
    (l_X_mark:K.lookup f_X_mark=some ⟨oc_X_mark,od_X_mark,.func (PySem.W.fnOf "mark" "Plan.mark" (defArgs s_X_mark) (defBody s_X_mark) (defScope s_X_mark) .none kV_X_mark dc_X_mark pm_X_mark an_X_mark cd_X_mark ct_X_mark),sl_X_mark⟩)
    (c_X_mark:PySem.W.codeIn K cd_X_mark "Plan.mark" = true)
    (k_X_mark:PySem.W.keepIn K (.ref f_X_mark)=true)
    (a_put_at:PySem.W.nsIn K mainGlobals "put_at" = some (some (.ref f_put_at)))
    (l_put_at:K.lookup f_put_at=some ⟨oc_put_at,od_put_at,.func (PySem.W.fnOf "put_at" "put_at" (defArgs s_put_at) (defBody s_put_at) (defScope s_put_at) .none kV_put_at dc_put_at pm_put_at an_put_at cd_put_at ct_put_at),sl_put_at⟩)
    (c_put_at:PySem.W.codeIn K cd_put_at "put_at" = true)
    (k_put_at:PySem.W.keepIn K (.ref f_put_at)=true)
    (a_X_lay:PySem.W.findIn K (.ref C_Plan) "lay" = some (some (.ref f_X_lay)))
    (i_X_lay:PySem.W.isFn K (.ref f_X_lay)=true)
    (l_X_lay:K.lookup f_X_lay=some ⟨oc_X_lay,od_X_lay,.func (PySem.W.fnOf "lay" "Plan.lay" (defArgs s_X_lay) (defBody s_X_lay) (defScope s_X_lay) .none kV_X_lay dc_X_lay pm_X_lay an_X_lay cd_X_lay ct_X_lay),sl_X_lay⟩)
    (c_X_lay:PySem.W.codeIn K cd_X_lay "Plan.lay" = true)
    (k_X_lay:PySem.W.keepIn K (.ref f_X_lay)=true)
    (a_X_back:PySem.W.findIn K (.ref C_Plan) "back" = some (some (.ref f_X_back)))
    (i_X_back:PySem.W.isFn K (.ref f_X_back)=true)
    (l_X_back:K.lookup f_X_back=some ⟨oc_X_back,od_X_back,.func (PySem.W.fnOf "back" "Plan.back" (defArgs s_X_back) (defBody s_X_back) (defScope s_X_back) .none kV_X_back dc_X_back pm_X_back an_X_back cd_X_back ct_X_back),sl_X_back⟩)
    (c_X_back:PySem.W.codeIn K cd_X_back "Plan.back" = true)
    (k_X_back:PySem.W.keepIn K (.ref f_X_back)=true)
    (a_X_forth:PySem.W.findIn K (.ref C_Plan) "forth" = some (some (.ref f_X_forth)))
    (i_X_forth:PySem.W.isFn K (.ref f_X_forth)=true)
    (l_X_forth:K.lookup f_X_forth=some ⟨oc_X_forth,od_X_forth,.func (PySem.W.fnOf "forth" "Plan.forth" (defArgs s_X_forth) (defBody s_X_forth) (defScope s_X_forth) .none kV_X_forth dc_X_forth pm_X_forth an_X_forth cd_X_forth ct_X_forth),sl_X_forth⟩)
    (c_X_forth:PySem.W.codeIn K cd_X_forth "Plan.forth" = true)
    (k_X_forth:PySem.W.keepIn K (.ref f_X_forth)=true)
    (a_qtold:PySem.W.nsIn K mainGlobals "_law_told" = some (some (.ref f_qtold)))
    (l_qtold:K.lookup f_qtold=some ⟨oc_qtold,od_qtold,.func (PySem.W.fnOf "_law_told" "_law_told" (defArgs s_qtold) (defBody s_qtold) (defScope s_qtold) .none kV_qtold dc_qtold pm_qtold an_qtold cd_qtold ct_qtold),sl_qtold⟩)
    (c_qtold:PySem.W.codeIn K cd_qtold "_law_told" = true)
    (k_qtold:PySem.W.keepIn K (.ref f_qtold)=true)
    (a_X_sizes:PySem.W.findIn K (.ref C_Plan) "sizes" = some (some (.ref f_X_sizes)))
    (i_X_sizes:PySem.W.isFn K (.ref f_X_sizes)=true)
    (l_X_sizes:K.lookup f_X_sizes=some ⟨oc_X_sizes,od_X_sizes,.func (PySem.W.fnOf "sizes" "Plan.sizes" (defArgs s_X_sizes) (defBody s_X_sizes) (defScope s_X_sizes) .none kV_X_sizes dc_X_sizes pm_X_sizes an_X_sizes cd_X_sizes ct_X_sizes),sl_X_sizes⟩)
    (c_X_sizes:PySem.W.codeIn K cd_X_sizes "Plan.sizes" = true)
    (k_X_sizes:PySem.W.keepIn K (.ref f_X_sizes)=true)
    (a_law:PySem.W.nsIn K mainGlobals "law" = some (some (.ref f_law)))
    (l_law:K.lookup f_law=some ⟨oc_law,od_law,.func (PySem.W.fnOf "law" "law" (defArgs s_law) (defBody s_law) (defScope s_law) .none kV_law dc_law pm_law an_law cd_law ct_law),sl_law⟩)
    (c_law:PySem.W.codeIn K cd_law "law" = true)
    (k_law:PySem.W.keepIn K (.ref f_law)=true)
    (a_qrefused:PySem.W.nsIn K mainGlobals "_law_refused" = some (some (.ref f_qrefused)))
    (l_qrefused:K.lookup f_qrefused=some ⟨oc_qrefused,od_qrefused,.func (PySem.W.fnOf "_law_refused" "_law_refused" (defArgs s_qrefused) (defBody s_qrefused) (defScope s_qrefused) .none kV_qrefused dc_qrefused pm_qrefused an_qrefused cd_qrefused ct_qrefused),sl_qrefused⟩)
    (c_qrefused:PySem.W.codeIn K cd_qrefused "_law_refused" = true)
    (k_qrefused:PySem.W.keepIn K (.ref f_qrefused)=true)
    (c_AROUND:PySem.W.nsIn K mainGlobals "AROUND" = some (some (.int (1) t_AROUND)))
    (c_LEFT:PySem.W.nsIn K mainGlobals "LEFT" = some (some (.int (2) t_LEFT)))
    (c_MARKS:PySem.W.nsIn K mainGlobals "MARKS" = some (some (.int (6) t_MARKS)))
    (c_MOST_BOXES:PySem.W.nsIn K mainGlobals "MOST_BOXES" = some (some (.int (12) t_MOST_BOXES)))
    (c_NAME:PySem.W.nsIn K mainGlobals "NAME" = some (some (.int (0) t_NAME)))
    (c_SCENE:PySem.W.nsIn K mainGlobals "SCENE" = some (some (.int (1) t_SCENE)))
    (c_WIDTH:PySem.W.nsIn K mainGlobals "WIDTH" = some (some (.int (4) t_WIDTH)))
    (c_WORD:PySem.W.nsIn K mainGlobals "WORD" = some (some (.int (0) t_WORD)))
    (z_ValueError:PySem.W.nsIn K mainGlobals "ValueError" = some none)
    (z_any:PySem.W.nsIn K mainGlobals "any" = some none)
    (z_enumerate:PySem.W.nsIn K mainGlobals "enumerate" = some none)
    (z_isinstance:PySem.W.nsIn K mainGlobals "isinstance" = some none)
    (z_len:PySem.W.nsIn K mainGlobals "len" = some none)
    (z_max:PySem.W.nsIn K mainGlobals "max" = some none)
    (z_min:PySem.W.nsIn K mainGlobals "min" = some none)
    (z_range:PySem.W.nsIn K mainGlobals "range" = some none)
    (z_tuple:PySem.W.nsIn K mainGlobals "tuple" = some none)
    (a_NoBox:PySem.W.nsIn K mainGlobals "NoBox" = some (some (.ref f_NoBox)))
    (x_NoBox:PySem.W.excIn K f_NoBox bmVE "ValueError.__new__" = true)
    (a_Taken:PySem.W.nsIn K mainGlobals "Taken" = some (some (.ref f_Taken)))
    (x_Taken:PySem.W.excIn K f_Taken bmVE "ValueError.__new__" = true)
    (a_TooMany:PySem.W.nsIn K mainGlobals "TooMany" = some (some (.ref f_TooMany)))
    (x_TooMany:PySem.W.excIn K f_TooMany bmVE "ValueError.__new__" = true)
    (a_NoNumber:PySem.W.nsIn K mainGlobals "NoNumber" = some (some (.ref f_NoNumber)))
    (x_NoNumber:PySem.W.excIn K f_NoNumber bmVE "ValueError.__new__" = true)
    (a_TouchError:PySem.W.nsIn K mainGlobals "TouchError" = some (some (.ref f_TouchError)))
    (x_TouchError:PySem.W.excIn K f_TouchError bmVE "ValueError.__new__" = true)
    (ga_NoBox:PySem.W.findIn K (.ref f_NoBox) "__getattribute__" = some (some (.builtin "BaseException.__getattribute__")))
    (gt_NoBox:PySem.W.findIn K (.ref f_NoBox) "__getattr__" = some none)
    (cl_NoBox:PySem.W.findIn K (.ref f_NoBox) "__class__" = some (some (.builtin "object.__class__")))
    (mb_NoBox:PySem.W.mroIn K f_NoBox (.type "BaseException")=some true)
    (mo_NoBox:PySem.W.mroIn K f_NoBox (.type "object")=some true)
    (mt_NoBox:PySem.W.mroIn K f_NoBox (.ref f_TouchError)=some true)
    (kv_NoBox:PySem.W.kitOne K (.ref f_NoBox) (.type "ValueError")=some true)
    (kt_NoBox_NoBox:PySem.W.kitOne K (.ref f_NoBox) (.ref f_NoBox)=some true)
    (kt_NoBox_Taken:PySem.W.kitOne K (.ref f_NoBox) (.ref f_Taken)=some false)
    (kt_NoBox_TooMany:PySem.W.kitOne K (.ref f_NoBox) (.ref f_TooMany)=some false)
    (kt_NoBox_NoNumber:PySem.W.kitOne K (.ref f_NoBox) (.ref f_NoNumber)=some false)
    (ga_Taken:PySem.W.findIn K (.ref f_Taken) "__getattribute__" = some (some (.builtin "BaseException.__getattribute__")))
    (gt_Taken:PySem.W.findIn K (.ref f_Taken) "__getattr__" = some none)
    (cl_Taken:PySem.W.findIn K (.ref f_Taken) "__class__" = some (some (.builtin "object.__class__")))
    (mb_Taken:PySem.W.mroIn K f_Taken (.type "BaseException")=some true)
    (mo_Taken:PySem.W.mroIn K f_Taken (.type "object")=some true)
    (mt_Taken:PySem.W.mroIn K f_Taken (.ref f_TouchError)=some true)
    (kv_Taken:PySem.W.kitOne K (.ref f_Taken) (.type "ValueError")=some true)
    (kt_Taken_NoBox:PySem.W.kitOne K (.ref f_Taken) (.ref f_NoBox)=some false)
    (kt_Taken_Taken:PySem.W.kitOne K (.ref f_Taken) (.ref f_Taken)=some true)
    (kt_Taken_TooMany:PySem.W.kitOne K (.ref f_Taken) (.ref f_TooMany)=some false)
    (kt_Taken_NoNumber:PySem.W.kitOne K (.ref f_Taken) (.ref f_NoNumber)=some false)
    (ga_TooMany:PySem.W.findIn K (.ref f_TooMany) "__getattribute__" = some (some (.builtin "BaseException.__getattribute__")))
    (gt_TooMany:PySem.W.findIn K (.ref f_TooMany) "__getattr__" = some none)
    (cl_TooMany:PySem.W.findIn K (.ref f_TooMany) "__class__" = some (some (.builtin "object.__class__")))
    (mb_TooMany:PySem.W.mroIn K f_TooMany (.type "BaseException")=some true)
    (mo_TooMany:PySem.W.mroIn K f_TooMany (.type "object")=some true)
    (mt_TooMany:PySem.W.mroIn K f_TooMany (.ref f_TouchError)=some true)
    (kv_TooMany:PySem.W.kitOne K (.ref f_TooMany) (.type "ValueError")=some true)
    (kt_TooMany_NoBox:PySem.W.kitOne K (.ref f_TooMany) (.ref f_NoBox)=some false)
    (kt_TooMany_Taken:PySem.W.kitOne K (.ref f_TooMany) (.ref f_Taken)=some false)
    (kt_TooMany_TooMany:PySem.W.kitOne K (.ref f_TooMany) (.ref f_TooMany)=some true)
    (kt_TooMany_NoNumber:PySem.W.kitOne K (.ref f_TooMany) (.ref f_NoNumber)=some false)
    (ga_NoNumber:PySem.W.findIn K (.ref f_NoNumber) "__getattribute__" = some (some (.builtin "BaseException.__getattribute__")))
    (gt_NoNumber:PySem.W.findIn K (.ref f_NoNumber) "__getattr__" = some none)
    (cl_NoNumber:PySem.W.findIn K (.ref f_NoNumber) "__class__" = some (some (.builtin "object.__class__")))
    (mb_NoNumber:PySem.W.mroIn K f_NoNumber (.type "BaseException")=some true)
    (mo_NoNumber:PySem.W.mroIn K f_NoNumber (.type "object")=some true)
    (mt_NoNumber:PySem.W.mroIn K f_NoNumber (.ref f_TouchError)=some true)
    (kv_NoNumber:PySem.W.kitOne K (.ref f_NoNumber) (.type "ValueError")=some true)
    (kt_NoNumber_NoBox:PySem.W.kitOne K (.ref f_NoNumber) (.ref f_NoBox)=some false)
    (kt_NoNumber_Taken:PySem.W.kitOne K (.ref f_NoNumber) (.ref f_Taken)=some false)
    (kt_NoNumber_TooMany:PySem.W.kitOne K (.ref f_NoNumber) (.ref f_TooMany)=some false)
    (kt_NoNumber_NoNumber:PySem.W.kitOne K (.ref f_NoNumber) (.ref f_NoNumber)=some true)
    (gg:PySem.W.specialIn K (.builtin "object.__class__") "__get__" = some (some (.builtin "getset_descriptor.__get__")))
    (tk:PySem.W.takesIn K (.builtin "object.__class__")=some true)
    : ∃ fd:FuncData,(∀ (s:Shared) (v:Value),BindsTo s fd ⟨[v],[]⟩ [("_law_script", v)])∧∀ base:Heap,K.In base→base.Ns mainGlobals mg→FnOk l.prog w K mg base CX0 19 fa fd ["_law_script"] (spL K):=by
  have e:=hfa.symm.trans (PySem.W.mg_of X G a_law)
  cases e
  have F_qcell:=fun_mk (st:=s_qcell) l_qcell c_qcell k_qcell
  have F_qdrawn:=fun_mk (st:=s_qdrawn) l_qdrawn c_qdrawn k_qdrawn
  have F_qscene:=fun_mk (st:=s_qscene) l_qscene c_qscene k_qscene
  have F_X___init__:=fun_mk (st:=s_X___init__) l_X___init__ c_X___init__ k_X___init__
  have F_qsome:=fun_mk (st:=s_qsome) l_qsome c_qsome k_qsome
  have F_qput:=fun_mk (st:=s_qput) l_qput c_qput k_qput
  have F_qbox:=fun_mk (st:=s_qbox) l_qbox c_qbox k_qbox
  have F_qpainted:=fun_mk (st:=s_qpainted) l_qpainted c_qpainted k_qpainted
  have F_qpath:=fun_mk (st:=s_qpath) l_qpath c_qpath k_qpath
  have F_qnext:=fun_mk (st:=s_qnext) l_qnext c_qnext k_qnext
  have F_X_now:=fun_mk (st:=s_X_now) l_X_now c_X_now k_X_now
  have F_X_step_to:=fun_mk (st:=s_X_step_to) l_X_step_to c_X_step_to k_X_step_to
  have F_has_box:=fun_mk (st:=s_has_box) l_has_box c_has_box k_has_box
  have F_with_box:=fun_mk (st:=s_with_box) l_with_box c_with_box k_with_box
  have F_X_put:=fun_mk (st:=s_X_put) l_X_put c_X_put k_X_put
  have F_box_of:=fun_mk (st:=s_box_of) l_box_of c_box_of k_box_of
  have F_children:=fun_mk (st:=s_children) l_children c_children k_children
  have F_below:=fun_mk (st:=s_below) l_below c_below k_below
  have F_cut:=fun_mk (st:=s_cut) l_cut c_cut k_cut
  have F_X_take:=fun_mk (st:=s_X_take) l_X_take c_X_take k_X_take
  have F_raised:=fun_mk (st:=s_raised) l_raised c_raised k_raised
  have F_X_lift:=fun_mk (st:=s_X_lift) l_X_lift c_X_lift k_X_lift
  have F_with_other:=fun_mk (st:=s_with_other) l_with_other c_with_other k_with_other
  have F_marked:=fun_mk (st:=s_marked) l_marked c_marked k_marked
  have F_X_mark:=fun_mk (st:=s_X_mark) l_X_mark c_X_mark k_X_mark
  have F_put_at:=fun_mk (st:=s_put_at) l_put_at c_put_at k_put_at
  have F_X_lay:=fun_mk (st:=s_X_lay) l_X_lay c_X_lay k_X_lay
  have F_X_back:=fun_mk (st:=s_X_back) l_X_back c_X_back k_X_back
  have F_X_forth:=fun_mk (st:=s_X_forth) l_X_forth c_X_forth k_X_forth
  have F_qtold:=fun_mk (st:=s_qtold) l_qtold c_qtold k_qtold
  have F_X_sizes:=fun_mk (st:=s_X_sizes) l_X_sizes c_X_sizes k_X_sizes
  have F_law:=fun_mk (st:=s_law) l_law c_law k_law
  have F_qrefused:=fun_mk (st:=s_qrefused) l_qrefused c_qrefused k_qrefused
  have b_qcell:=F_qcell.binds (ps:=["_law_script", "_law_k"]) fun _ _ _ _ _ _ us hl=>match us,hl with | [_,_],_=>rfl
  have b_qdrawn:=F_qdrawn.binds (ps:=["_law_script", "_law_k", "_law_many"]) fun _ _ _ _ _ _ us hl=>match us,hl with | [_,_,_],_=>rfl
  have b_qscene:=F_qscene.binds (ps:=["_law_script", "_law_at"]) fun _ _ _ _ _ _ us hl=>match us,hl with | [_,_],_=>rfl
  have b_X___init__:=F_X___init__.binds (ps:=["self", "scene"]) fun _ _ _ _ _ _ us hl=>match us,hl with | [_,_],_=>rfl
  have b_qsome:=F_qsome.binds (ps:=["_law_script", "_law_here"]) fun _ _ _ _ _ _ us hl=>match us,hl with | [_,_],_=>rfl
  have b_qput:=F_qput.binds (ps:=["_law_scene_here", "_law_names", "_law_box_here"]) fun _ _ _ _ _ _ us hl=>match us,hl with | [_,_,_],_=>rfl
  have b_qbox:=F_qbox.binds (ps:=["_law_scene_here", "_law_name"]) fun _ _ _ _ _ _ us hl=>match us,hl with | [_,_],_=>rfl
  have b_qpainted:=F_qpainted.binds (ps:=["_law_scene_here", "_law_around"]) fun _ _ _ _ _ _ us hl=>match us,hl with | [_,_],_=>rfl
  have b_qpath:=F_qpath.binds (ps:=["_law_scene_here", "_law_name"]) fun _ _ _ _ _ _ us hl=>match us,hl with | [_,_],_=>rfl
  have b_qnext:=F_qnext.binds (ps:=["_law_scene_here", "_law_way", "_law_some_here"]) fun _ _ _ _ _ _ us hl=>match us,hl with | [_,_,_],_=>rfl
  have b_X_now:=F_X_now.binds (ps:=["self"]) fun _ _ _ _ _ _ us hl=>match us,hl with | [_],_=>rfl
  have b_X_step_to:=F_X_step_to.binds (ps:=["self", "word", "scene"]) fun _ _ _ _ _ _ us hl=>match us,hl with | [_,_,_],_=>rfl
  have b_has_box:=F_has_box.binds (ps:=["scene", "name"]) fun _ _ _ _ _ _ us hl=>match us,hl with | [_,_],_=>rfl
  have b_with_box:=F_with_box.binds (ps:=["scene", "box"]) fun _ _ _ _ _ _ us hl=>match us,hl with | [_,_],_=>rfl
  have b_X_put:=F_X_put.binds (ps:=["self", "box"]) fun _ _ _ _ _ _ us hl=>match us,hl with | [_,_],_=>rfl
  have b_box_of:=F_box_of.binds (ps:=["scene", "name"]) fun _ _ _ _ _ _ us hl=>match us,hl with | [_,_],_=>rfl
  have b_children:=F_children.binds (ps:=["scene", "name"]) fun _ _ _ _ _ _ us hl=>match us,hl with | [_,_],_=>rfl
  have b_below:=F_below.binds (ps:=["scene", "name"]) fun _ _ _ _ _ _ us hl=>match us,hl with | [_,_],_=>rfl
  have b_cut:=F_cut.binds (ps:=["scene", "name"]) fun _ _ _ _ _ _ us hl=>match us,hl with | [_,_],_=>rfl
  have b_X_take:=F_X_take.binds (ps:=["self", "name"]) fun _ _ _ _ _ _ us hl=>match us,hl with | [_,_],_=>rfl
  have b_raised:=F_raised.binds (ps:=["scene", "name"]) fun _ _ _ _ _ _ us hl=>match us,hl with | [_,_],_=>rfl
  have b_X_lift:=F_X_lift.binds (ps:=["self", "name"]) fun _ _ _ _ _ _ us hl=>match us,hl with | [_,_],_=>rfl
  have b_with_other:=F_with_other.binds (ps:=["scene", "other"]) fun _ _ _ _ _ _ us hl=>match us,hl with | [_,_],_=>rfl
  have b_marked:=F_marked.binds (ps:=["scene", "name", "marks"]) fun _ _ _ _ _ _ us hl=>match us,hl with | [_,_,_],_=>rfl
  have b_X_mark:=F_X_mark.binds (ps:=["self", "name", "marks"]) fun _ _ _ _ _ _ us hl=>match us,hl with | [_,_,_],_=>rfl
  have b_put_at:=F_put_at.binds (ps:=["scene", "name", "left", "top"]) fun _ _ _ _ _ _ us hl=>match us,hl with | [_,_,_,_],_=>rfl
  have b_X_lay:=F_X_lay.binds (ps:=["self", "name", "left", "top"]) fun _ _ _ _ _ _ us hl=>match us,hl with | [_,_,_,_],_=>rfl
  have b_X_back:=F_X_back.binds (ps:=["self"]) fun _ _ _ _ _ _ us hl=>match us,hl with | [_],_=>rfl
  have b_X_forth:=F_X_forth.binds (ps:=["self"]) fun _ _ _ _ _ _ us hl=>match us,hl with | [_],_=>rfl
  have b_qtold:=F_qtold.binds (ps:=["_law_plan", "_law_way", "_law_some_here"]) fun _ _ _ _ _ _ us hl=>match us,hl with | [_,_,_],_=>rfl
  have b_X_sizes:=F_X_sizes.binds (ps:=["self"]) fun _ _ _ _ _ _ us hl=>match us,hl with | [_],_=>rfl
  have b_law:=F_law.binds (ps:=["_law_script"]) fun _ _ _ _ _ _ us hl=>match us,hl with | [_],_=>rfl
  have b_qrefused:=F_qrefused.binds (ps:=["_law_e"]) fun _ _ _ _ _ _ us hl=>match us,hl with | [_],_=>rfl
  have X_NoBox:XCls K f_NoBox:=⟨x_NoBox,ga_NoBox,gt_NoBox,cl_NoBox,gg,tk,mb_NoBox,mo_NoBox⟩
  have X_Taken:XCls K f_Taken:=⟨x_Taken,ga_Taken,gt_Taken,cl_Taken,gg,tk,mb_Taken,mo_Taken⟩
  have X_TooMany:XCls K f_TooMany:=⟨x_TooMany,ga_TooMany,gt_TooMany,cl_TooMany,gg,tk,mb_TooMany,mo_TooMany⟩
  have X_NoNumber:XCls K f_NoNumber:=⟨x_NoNumber,ga_NoNumber,gt_NoNumber,cl_NoNumber,gg,tk,mb_NoNumber,mo_NoNumber⟩
  refine ⟨_,fun s v=>.of_eq rfl,fun base _ _=>(G_law (t:=⟨C_Plan,f_qcell,_,f_qdrawn,_,f_qscene,_,f_X___init__,_,f_qsome,_,f_qput,_,f_qbox,_,f_qpainted,_,f_qpath,_,f_qnext,_,f_X_now,_,f_X_step_to,_,f_has_box,_,f_with_box,_,f_X_put,_,f_box_of,_,f_children,_,f_below,_,f_cut,_,f_X_take,_,f_raised,_,f_X_lift,_,f_with_other,_,f_marked,_,f_X_mark,_,f_put_at,_,f_X_lay,_,f_X_back,_,f_X_forth,_,f_qtold,_,f_X_sizes,_,_,_,f_qrefused,_,t_AROUND,t_LEFT,t_MARKS,t_MOST_BOXES,t_NAME,t_SCENE,t_WIDTH,t_WORD,f_NoBox,f_Taken,f_TooMany,f_NoNumber,f_TouchError⟩) ⟨⟨pg_Plan,hd_Plan,po_Plan,sa_Plan⟩,⟨mk_Plan,a_X___init__,i_X___init__,kc_Plan⟩,PySem.W.mg_of X G aC_Plan,na_Plan_done,na_Plan_scene,na_Plan_undone,F_qcell,PySem.W.mg_of X G a_qcell,b_qcell,F_qdrawn,PySem.W.mg_of X G a_qdrawn,b_qdrawn,F_qscene,PySem.W.mg_of X G a_qscene,b_qscene,F_X___init__,b_X___init__,F_qsome,PySem.W.mg_of X G a_qsome,b_qsome,F_qput,PySem.W.mg_of X G a_qput,b_qput,F_qbox,PySem.W.mg_of X G a_qbox,b_qbox,F_qpainted,PySem.W.mg_of X G a_qpainted,b_qpainted,F_qpath,PySem.W.mg_of X G a_qpath,b_qpath,F_qnext,PySem.W.mg_of X G a_qnext,b_qnext,F_X_now,⟨a_X_now,i_X_now,k_X_now⟩,b_X_now,F_X_step_to,⟨a_X_step_to,i_X_step_to,k_X_step_to⟩,b_X_step_to,F_has_box,PySem.W.mg_of X G a_has_box,b_has_box,F_with_box,PySem.W.mg_of X G a_with_box,b_with_box,F_X_put,⟨a_X_put,i_X_put,k_X_put⟩,b_X_put,F_box_of,PySem.W.mg_of X G a_box_of,b_box_of,F_children,PySem.W.mg_of X G a_children,b_children,F_below,PySem.W.mg_of X G a_below,b_below,F_cut,PySem.W.mg_of X G a_cut,b_cut,F_X_take,⟨a_X_take,i_X_take,k_X_take⟩,b_X_take,F_raised,PySem.W.mg_of X G a_raised,b_raised,F_X_lift,⟨a_X_lift,i_X_lift,k_X_lift⟩,b_X_lift,F_with_other,PySem.W.mg_of X G a_with_other,b_with_other,F_marked,PySem.W.mg_of X G a_marked,b_marked,F_X_mark,⟨a_X_mark,i_X_mark,k_X_mark⟩,b_X_mark,F_put_at,PySem.W.mg_of X G a_put_at,b_put_at,F_X_lay,⟨a_X_lay,i_X_lay,k_X_lay⟩,b_X_lay,F_X_back,⟨a_X_back,i_X_back,k_X_back⟩,b_X_back,F_X_forth,⟨a_X_forth,i_X_forth,k_X_forth⟩,b_X_forth,F_qtold,PySem.W.mg_of X G a_qtold,b_qtold,F_X_sizes,⟨a_X_sizes,i_X_sizes,k_X_sizes⟩,b_X_sizes,F_law,PySem.W.mg_of X G a_law,b_law,F_qrefused,PySem.W.mg_of X G a_qrefused,b_qrefused,PySem.W.mg_of X G c_AROUND,PySem.W.mg_of X G c_LEFT,PySem.W.mg_of X G c_MARKS,PySem.W.mg_of X G c_MOST_BOXES,PySem.W.mg_of X G c_NAME,PySem.W.mg_of X G c_SCENE,PySem.W.mg_of X G c_WIDTH,PySem.W.mg_of X G c_WORD,PySem.W.mg_none_of X G z_ValueError,PySem.W.mg_none_of X G z_any,PySem.W.mg_none_of X G z_enumerate,PySem.W.mg_none_of X G z_isinstance,PySem.W.mg_none_of X G z_len,PySem.W.mg_none_of X G z_max,PySem.W.mg_none_of X G z_min,PySem.W.mg_none_of X G z_range,PySem.W.mg_none_of X G z_tuple,PySem.W.mg_of X G a_NoBox,PySem.W.mg_of X G a_Taken,PySem.W.mg_of X G a_TooMany,PySem.W.mg_of X G a_NoNumber,PySem.W.mg_of X G a_TouchError,⟨fun c hc=>?rx,fun c i hc hi=>?rk,fun c hc=>?rv⟩,x_TouchError,fun c hc=>?rm⟩).imp (spM_law main)⟩
  case rx =>
    have q:c=0∨c=1∨c=2∨c=3:=by omega
    rcases q with rfl | rfl | rfl | rfl
    · exact X_NoBox
    · exact X_Taken
    · exact X_TooMany
    · exact X_NoNumber
  case rk =>
    have q:c=0∨c=1∨c=2∨c=3:=by omega
    rcases q with rfl | rfl | rfl | rfl
    · have q:i=0∨i=1∨i=2∨i=3:=by omega
      rcases q with rfl | rfl | rfl | rfl
      · exact kt_NoBox_NoBox
      · exact kt_NoBox_Taken
      · exact kt_NoBox_TooMany
      · exact kt_NoBox_NoNumber
    · have q:i=0∨i=1∨i=2∨i=3:=by omega
      rcases q with rfl | rfl | rfl | rfl
      · exact kt_Taken_NoBox
      · exact kt_Taken_Taken
      · exact kt_Taken_TooMany
      · exact kt_Taken_NoNumber
    · have q:i=0∨i=1∨i=2∨i=3:=by omega
      rcases q with rfl | rfl | rfl | rfl
      · exact kt_TooMany_NoBox
      · exact kt_TooMany_Taken
      · exact kt_TooMany_TooMany
      · exact kt_TooMany_NoNumber
    · have q:i=0∨i=1∨i=2∨i=3:=by omega
      rcases q with rfl | rfl | rfl | rfl
      · exact kt_NoNumber_NoBox
      · exact kt_NoNumber_Taken
      · exact kt_NoNumber_TooMany
      · exact kt_NoNumber_NoNumber
  case rv =>
    have q:c=0∨c=1∨c=2∨c=3:=by omega
    rcases q with rfl | rfl | rfl | rfl
    · exact kv_NoBox
    · exact kv_Taken
    · exact kv_TooMany
    · exact kv_NoNumber
  case rm =>
    have q:c=0∨c=1∨c=2∨c=3:=by omega
    rcases q with rfl | rfl | rfl | rfl
    · exact mt_NoBox
    · exact mt_Taken
    · exact mt_TooMany
    · exact mt_NoNumber
theorem walk {l:PySem.W.OpenLaw} {q:Program} {loose:List Str} {XP:(Str→Option Value)→Heap→Prop} {YP:World→Heap→Prop} {d:DefRec} {K:Params→PySem.W.Frag} (hn:l.most=some 63) (hdf:d.params.defaults=[])
    (hY:∀ (w:World) (h:Heap),YP w h→(K w.params).In h)
    (F:∀ (w:World) (mg:Str→Option Value) (fa:Addr) (h:Heap),(K w.params).In h→h.Ns mainGlobals mg→mg d.name=some (.ref fa) →
      ∃ fd:FuncData,(∀ (s:Shared) (u:Value),BindsTo s fd ⟨[u],[]⟩ [("_law_script", u)])∧∀ base:Heap,(K w.params).In base→base.Ns mainGlobals mg→FnOk l.prog w (K w.params) mg base CX0 19 fa fd ["_law_script"] (spL (K w.params))) :
    PySem.W.WalkO q loose XP YP l.row.toRowW d [] (fun f vs=>PySem.call f vs) :=
  L2.walk_of (n:=63) (k:=19) (x := "_law_script") (CX:=fun _=>CX0) (sp:=fun w=>spL (K w.params)) hn (by decide) hdf ⟨rfl,by decide,by decide⟩ hY F (fun _ _ a ns hl _ hS=>⟨a,ns,rfl,hS,hl,fun _=>rfl⟩) fun _ _ _ _ _ z=>z
end K53
open PySem PySem.W PyProof.Rows
def K53.view:Program:={ PySem.Challenge.pw_touchtree_k53_plans with main:={ PySem.Challenge.pw_touchtree_k53_plans.main with body:=[28,24,7,1].foldl (fun l i=>l.eraseIdx i) PySem.Challenge.pw_touchtree_k53_plans.main.body } }
set_option hygiene false in
local macro_rules
  | `(tactic| o_head $H)=>`(tactic| (
      refine holds_open (q:=K53.view) (loose:=[]) (Xt:=fun s=>xlAt K53.view [] s&&recOk (RowW.records (OpenRow.toRowW (OpenLaw.row PySem.Challenge.rw_touchtree_k53_plans))) s) (XP:=XL K53.view []) (Yf:=Hook.obs $H) (Ya:=Hook.val $H) (YP:=Hook.says $H) (N:=4940) ?hl (Hook.of $H) (Hook.keeps $H) (fun s e=>xl_of s (Bool.and_eq_true_iff.mp e).1) XL.keeps (by rfl) (by rfl) (by rfl) (fun s e=>recFacts_of (Bool.and_eq_true_iff.mp e).2) (by rfl) (by assumption) (by decide +kernel) ⟨rfl,rfl,rfl,rfl,rfl,by decide +kernel⟩ ?hw ?hc
      (case hl=>(intro w; unfold openEnds fencedOpening topFrom; rewrite [PySem.W.Fast.te10274390034422433532,PySem.W.Fast.te14082659384304107361,PySem.W.Fast.te14364793385576792824,PySem.W.Fast.te14289696077712309145,PySem.W.Fast.te1435165496053646825,PySem.W.Fast.te4187177175401517315,PySem.W.Fast.te7125740433890913297]; kernel_rfl))))
set_option maxRecDepth 100000 in
set_option maxHeartbeats 0 in
theorem PySem.Challenge.cw_touchtree_k53_plans_holds : PySem.Challenge.rw_touchtree_k53_plans.Holds := by
  w_on; o_law; k_head; (case hw=>w_witness2)
  k_fill
  refine K53.walk (l := PySem.Challenge.rw_touchtree_k53_plans) rfl rfl (fun w h Y=>PySem.W.kIn_of Y) ?F
  case F =>
    intro w mg fa h KX G hmg
    refine' K53.all_mk K53.main KX G hmg ?aC_Plan ?pg_Plan ?hd_Plan ?po_Plan ?sa_Plan ?mk_Plan ?kc_Plan ?na_Plan_done ?na_Plan_scene ?na_Plan_undone ?a_qcell ?l_qcell ?c_qcell ?k_qcell ?a_qdrawn ?l_qdrawn ?c_qdrawn ?k_qdrawn ?a_qscene ?l_qscene ?c_qscene ?k_qscene ?a_X___init__ ?i_X___init__ ?l_X___init__ ?c_X___init__ ?k_X___init__ ?a_qsome ?l_qsome ?c_qsome ?k_qsome ?a_qput ?l_qput ?c_qput ?k_qput ?a_qbox ?l_qbox ?c_qbox ?k_qbox ?a_qpainted ?l_qpainted ?c_qpainted ?k_qpainted ?a_qpath ?l_qpath ?c_qpath ?k_qpath ?a_qnext ?l_qnext ?c_qnext ?k_qnext ?a_X_now ?i_X_now ?l_X_now ?c_X_now ?k_X_now ?a_X_step_to ?i_X_step_to ?l_X_step_to ?c_X_step_to ?k_X_step_to ?a_has_box ?l_has_box ?c_has_box ?k_has_box ?a_with_box ?l_with_box ?c_with_box ?k_with_box ?a_X_put ?i_X_put ?l_X_put ?c_X_put ?k_X_put ?a_box_of ?l_box_of ?c_box_of ?k_box_of ?a_children ?l_children ?c_children ?k_children ?a_below ?l_below ?c_below ?k_below ?a_cut ?l_cut ?c_cut ?k_cut ?a_X_take ?i_X_take ?l_X_take ?c_X_take ?k_X_take ?a_raised ?l_raised ?c_raised ?k_raised ?a_X_lift ?i_X_lift ?l_X_lift ?c_X_lift ?k_X_lift ?a_with_other ?l_with_other ?c_with_other ?k_with_other ?a_marked ?l_marked ?c_marked ?k_marked ?a_X_mark ?i_X_mark ?l_X_mark ?c_X_mark ?k_X_mark ?a_put_at ?l_put_at ?c_put_at ?k_put_at ?a_X_lay ?i_X_lay ?l_X_lay ?c_X_lay ?k_X_lay ?a_X_back ?i_X_back ?l_X_back ?c_X_back ?k_X_back ?a_X_forth ?i_X_forth ?l_X_forth ?c_X_forth ?k_X_forth ?a_qtold ?l_qtold ?c_qtold ?k_qtold ?a_X_sizes ?i_X_sizes ?l_X_sizes ?c_X_sizes ?k_X_sizes ?a_law ?l_law ?c_law ?k_law ?a_qrefused ?l_qrefused ?c_qrefused ?k_qrefused ?c_AROUND ?c_LEFT ?c_MARKS ?c_MOST_BOXES ?c_NAME ?c_SCENE ?c_WIDTH ?c_WORD ?z_ValueError ?z_any ?z_enumerate ?z_isinstance ?z_len ?z_max ?z_min ?z_range ?z_tuple ?a_NoBox ?x_NoBox ?a_Taken ?x_Taken ?a_TooMany ?x_TooMany ?a_NoNumber ?x_NoNumber ?a_TouchError ?x_TouchError ?ga_NoBox ?gt_NoBox ?cl_NoBox ?mb_NoBox ?mo_NoBox ?mt_NoBox ?kv_NoBox ?kt_NoBox_NoBox ?kt_NoBox_Taken ?kt_NoBox_TooMany ?kt_NoBox_NoNumber ?ga_Taken ?gt_Taken ?cl_Taken ?mb_Taken ?mo_Taken ?mt_Taken ?kv_Taken ?kt_Taken_NoBox ?kt_Taken_Taken ?kt_Taken_TooMany ?kt_Taken_NoNumber ?ga_TooMany ?gt_TooMany ?cl_TooMany ?mb_TooMany ?mo_TooMany ?mt_TooMany ?kv_TooMany ?kt_TooMany_NoBox ?kt_TooMany_Taken ?kt_TooMany_TooMany ?kt_TooMany_NoNumber ?ga_NoNumber ?gt_NoNumber ?cl_NoNumber ?mb_NoNumber ?mo_NoNumber ?mt_NoNumber ?kv_NoNumber ?kt_NoNumber_NoBox ?kt_NoNumber_Taken ?kt_NoNumber_TooMany ?kt_NoNumber_NoNumber ?gg ?tk
    (case aC_Plan=>k_is)
    (case pg_Plan=>k_is)
    (case hd_Plan=>k_is)
    (case po_Plan=>k_is)
    (case sa_Plan=>k_is)
    (case mk_Plan=>k_is)
    (case kc_Plan=>k_is)
    (case na_Plan_done=>k_is)
    (case na_Plan_scene=>k_is)
    (case na_Plan_undone=>k_is)
    (case a_qcell=>k_is)
    (case l_qcell=>k_is)
    (case c_qcell=>k_is)
    (case k_qcell=>k_is)
    (case a_qdrawn=>k_is)
    (case l_qdrawn=>k_is)
    (case c_qdrawn=>k_is)
    (case k_qdrawn=>k_is)
    (case a_qscene=>k_is)
    (case l_qscene=>k_is)
    (case c_qscene=>k_is)
    (case k_qscene=>k_is)
    (case a_X___init__=>k_is)
    (case i_X___init__=>k_is)
    (case l_X___init__=>k_is)
    (case c_X___init__=>k_is)
    (case k_X___init__=>k_is)
    (case a_qsome=>k_is)
    (case l_qsome=>k_is)
    (case c_qsome=>k_is)
    (case k_qsome=>k_is)
    (case a_qput=>k_is)
    (case l_qput=>k_is)
    (case c_qput=>k_is)
    (case k_qput=>k_is)
    (case a_qbox=>k_is)
    (case l_qbox=>k_is)
    (case c_qbox=>k_is)
    (case k_qbox=>k_is)
    (case a_qpainted=>k_is)
    (case l_qpainted=>k_is)
    (case c_qpainted=>k_is)
    (case k_qpainted=>k_is)
    (case a_qpath=>k_is)
    (case l_qpath=>k_is)
    (case c_qpath=>k_is)
    (case k_qpath=>k_is)
    (case a_qnext=>k_is)
    (case l_qnext=>k_is)
    (case c_qnext=>k_is)
    (case k_qnext=>k_is)
    (case a_X_now=>k_is)
    (case i_X_now=>k_is)
    (case l_X_now=>k_is)
    (case c_X_now=>k_is)
    (case k_X_now=>k_is)
    (case a_X_step_to=>k_is)
    (case i_X_step_to=>k_is)
    (case l_X_step_to=>k_is)
    (case c_X_step_to=>k_is)
    (case k_X_step_to=>k_is)
    (case a_has_box=>k_is)
    (case l_has_box=>k_is)
    (case c_has_box=>k_is)
    (case k_has_box=>k_is)
    (case a_with_box=>k_is)
    (case l_with_box=>k_is)
    (case c_with_box=>k_is)
    (case k_with_box=>k_is)
    (case a_X_put=>k_is)
    (case i_X_put=>k_is)
    (case l_X_put=>k_is)
    (case c_X_put=>k_is)
    (case k_X_put=>k_is)
    (case a_box_of=>k_is)
    (case l_box_of=>k_is)
    (case c_box_of=>k_is)
    (case k_box_of=>k_is)
    (case a_children=>k_is)
    (case l_children=>k_is)
    (case c_children=>k_is)
    (case k_children=>k_is)
    (case a_below=>k_is)
    (case l_below=>k_is)
    (case c_below=>k_is)
    (case k_below=>k_is)
    (case a_cut=>k_is)
    (case l_cut=>k_is)
    (case c_cut=>k_is)
    (case k_cut=>k_is)
    (case a_X_take=>k_is)
    (case i_X_take=>k_is)
    (case l_X_take=>k_is)
    (case c_X_take=>k_is)
    (case k_X_take=>k_is)
    (case a_raised=>k_is)
    (case l_raised=>k_is)
    (case c_raised=>k_is)
    (case k_raised=>k_is)
    (case a_X_lift=>k_is)
    (case i_X_lift=>k_is)
    (case l_X_lift=>k_is)
    (case c_X_lift=>k_is)
    (case k_X_lift=>k_is)
    (case a_with_other=>k_is)
    (case l_with_other=>k_is)
    (case c_with_other=>k_is)
    (case k_with_other=>k_is)
    (case a_marked=>k_is)
    (case l_marked=>k_is)
    (case c_marked=>k_is)
    (case k_marked=>k_is)
    (case a_X_mark=>k_is)
    (case i_X_mark=>k_is)
    (case l_X_mark=>k_is)
    (case c_X_mark=>k_is)
    (case k_X_mark=>k_is)
    (case a_put_at=>k_is)
    (case l_put_at=>k_is)
    (case c_put_at=>k_is)
    (case k_put_at=>k_is)
    (case a_X_lay=>k_is)
    (case i_X_lay=>k_is)
    (case l_X_lay=>k_is)
    (case c_X_lay=>k_is)
    (case k_X_lay=>k_is)
    (case a_X_back=>k_is)
    (case i_X_back=>k_is)
    (case l_X_back=>k_is)
    (case c_X_back=>k_is)
    (case k_X_back=>k_is)
    (case a_X_forth=>k_is)
    (case i_X_forth=>k_is)
    (case l_X_forth=>k_is)
    (case c_X_forth=>k_is)
    (case k_X_forth=>k_is)
    (case a_qtold=>k_is)
    (case l_qtold=>k_is)
    (case c_qtold=>k_is)
    (case k_qtold=>k_is)
    (case a_X_sizes=>k_is)
    (case i_X_sizes=>k_is)
    (case l_X_sizes=>k_is)
    (case c_X_sizes=>k_is)
    (case k_X_sizes=>k_is)
    (case a_law=>k_is)
    (case l_law=>k_is)
    (case c_law=>k_is)
    (case k_law=>k_is)
    (case a_qrefused=>k_is)
    (case l_qrefused=>k_is)
    (case c_qrefused=>k_is)
    (case k_qrefused=>k_is)
    (case c_AROUND=>k_is)
    (case c_LEFT=>k_is)
    (case c_MARKS=>k_is)
    (case c_MOST_BOXES=>k_is)
    (case c_NAME=>k_is)
    (case c_SCENE=>k_is)
    (case c_WIDTH=>k_is)
    (case c_WORD=>k_is)
    (case z_ValueError=>k_is)
    (case z_any=>k_is)
    (case z_enumerate=>k_is)
    (case z_isinstance=>k_is)
    (case z_len=>k_is)
    (case z_max=>k_is)
    (case z_min=>k_is)
    (case z_range=>k_is)
    (case z_tuple=>k_is)
    (case a_NoBox=>k_is)
    (case x_NoBox=>kernel_rfl)
    (case a_Taken=>k_is)
    (case x_Taken=>kernel_rfl)
    (case a_TooMany=>k_is)
    (case x_TooMany=>kernel_rfl)
    (case a_NoNumber=>k_is)
    (case x_NoNumber=>kernel_rfl)
    (case a_TouchError=>k_is)
    (case x_TouchError=>kernel_rfl)
    (case ga_NoBox=>k_is)
    (case gt_NoBox=>k_is)
    (case cl_NoBox=>k_is)
    (case mb_NoBox=>k_is)
    (case mo_NoBox=>k_is)
    (case mt_NoBox=>k_is)
    (case kv_NoBox=>kernel_rfl)
    (case kt_NoBox_NoBox=>kernel_rfl)
    (case kt_NoBox_Taken=>kernel_rfl)
    (case kt_NoBox_TooMany=>kernel_rfl)
    (case kt_NoBox_NoNumber=>kernel_rfl)
    (case ga_Taken=>k_is)
    (case gt_Taken=>k_is)
    (case cl_Taken=>k_is)
    (case mb_Taken=>k_is)
    (case mo_Taken=>k_is)
    (case mt_Taken=>k_is)
    (case kv_Taken=>kernel_rfl)
    (case kt_Taken_NoBox=>kernel_rfl)
    (case kt_Taken_Taken=>kernel_rfl)
    (case kt_Taken_TooMany=>kernel_rfl)
    (case kt_Taken_NoNumber=>kernel_rfl)
    (case ga_TooMany=>k_is)
    (case gt_TooMany=>k_is)
    (case cl_TooMany=>k_is)
    (case mb_TooMany=>k_is)
    (case mo_TooMany=>k_is)
    (case mt_TooMany=>k_is)
    (case kv_TooMany=>kernel_rfl)
    (case kt_TooMany_NoBox=>kernel_rfl)
    (case kt_TooMany_Taken=>kernel_rfl)
    (case kt_TooMany_TooMany=>kernel_rfl)
    (case kt_TooMany_NoNumber=>kernel_rfl)
    (case ga_NoNumber=>k_is)
    (case gt_NoNumber=>k_is)
    (case cl_NoNumber=>k_is)
    (case mb_NoNumber=>k_is)
    (case mo_NoNumber=>k_is)
    (case mt_NoNumber=>k_is)
    (case kv_NoNumber=>kernel_rfl)
    (case kt_NoNumber_NoBox=>kernel_rfl)
    (case kt_NoNumber_Taken=>kernel_rfl)
    (case kt_NoNumber_TooMany=>kernel_rfl)
    (case kt_NoNumber_NoNumber=>kernel_rfl)
    (case gg=>k_is)
    (case tk=>k_is)
#print axioms PySem.Challenge.cw_touchtree_k53_plans_holds
