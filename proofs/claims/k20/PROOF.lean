import PyProof.Rows.All
import Wide.All
import OpenK.AllK
import Wide.FinOn
import PyProof.EqAt
import PyProof.EqKinds
import PyProof.TupleCall
import PyProof.CompFree
import PyProof.Cells
import KE.KDictList
import KE.KDictLaws
import Lean
import PySem.Challenge.RW_touchtree_k20_hands
open Option renaming bind_some → PC, bind → P7
open PySem renaming PyData → PD, Value → PP, Shared → PQ, starEach → PX, wpAny_bind → P1, sizeLine → P4, Addr → Qd, wpAny_pure → Qe, Program → Ql, model → Qq, wpAny → Qs, compareOp → QD, behindInMarks → QH, Around → QI, FuncData → QX
open PySem.W renaming Frag → PH, findIn → QL, keepIn → QQ, emptyDict → QT, kitOne → QW, mroIn → Q2, instObj → Q5, excIn → Rb, looks_findIn → Rm, callWith_K → Rv, fnOf → Ry, openEnds → RF, plainGet → RG, cellsFrom_some → RJ, OpenLaw → RL, hideAll → RM, lookIn → RQ, kitCls → RU, hideAll_get → RV, plainGet_of → RW, WalkO → RZ
open List renaming length_map → PJ, getElem?_set_ne → PK, length_append → PL, getElem?_append_left → PM, getElem?_eq_some_iff → PR, getElem?_set_self → PY, getElem?_append_right → P0, map_cons → P2, mem_cons_of_mem → P3, size_toArray → P6, length_cons → P8, getElem?_map → P9, length_set → Qa, mem_cons_self → Qc, replicate → Qf, mem_cons → Qh, prefix_refl → Qi, getElem?_eq_getElem → Qk, length_drop → Qo, append_nil → Qr, mem_singleton → Qt, getElem?_eq_none → Qw, getD_eq_getElem?_getD → Qy, mem_append_right → QB, map_map → QC, map_append → QG, length_reverse → QJ, prefix_append → QM, mem_range → QN, replicate_succ → QO, append_assoc → QP, mem_filter → QR, filter_cons → QS, flatMap_cons → QU, any_cons → QV, flatten_cons → QZ, find?_cons → Q0, length_filter_le → Q4, mem_append → Q6, length_range → Q7, getElem?_replicate → Q8, all_cons → Q9, lookup_cons → Ra, length_replicate → Re, mem_map → Rf, drop_eq_getElem_cons → Rh, all_eq_true → Ri, not_mem_nil → Rj, mergeSort_perm → Rk, lookup → Rl, map_nil → Rn, set_set → Ro, set_append_right → Rp, eq_nil_of_length_eq_zero → Rr, getLast?_eq_some_getLast → Rs, zipIdx_cons → Rt, mem_append_left → Ru, nodup_cons → Rx, take_succ_cons → Rz, reverse_cons → RH, nodup_append → RI, filter_cons_of_pos → RK, drop_length → RN, map_reverse → RO, take_of_length_le → RP, of_mem_zip → RS, length_singleton → RT, mem_of_getElem? → RX, getElem?_of_mem → RY, filterMap_cons → R0, getElem?_range → R1, drop_succ_cons → R3
open Bool renaming false_ne_true → PN, and_eq_true → Qp, eq_iff_iff → Rc, and_eq_true_iff → Rg
open Nat renaming le_refl → PV, lt_of_lt_of_le → P5, le_trans → Qg, ne_of_lt → Qm, sub_self → QE, lt_irrefl → QY, zero_le → Q1, lt_succ_self → Q3, ne_of_gt → Rq, le_succ → RA, le_of_lt → RC, lt_of_le_of_lt → RD
open PySem.Heap renaming get?_push_of_some → PZ, lt_size → Qb, get?_push_size → Qn
open PySem.PyData renaming strOk → Qj, int → Qx, canLay0 → Qz, canLayAll0 → QA, depthAll → QF, eqv → QK
open PySem.SeqAt renaming shaped → Qu
open PySem.PassesOwn renaming never → Qv
open Int renaming emod_nonneg → RB, emod_lt_of_pos → RE
set_option Elab.async false
noncomputable section
set_option linter.all false
set_option maxRecDepth 100000
set_option maxHeartbeats 4000000
abbrev PySem.Nd (x:PySem.Str):Prop:=(x==("__debug__" : PySem.Str))=false
namespace L2.PU
open PySem PySem.W PySem.Spec PyProof.Rows
def HLf (p q:Ql) (loose:List Str) (Xt:PQ->Bool) (N:Nat) (H:PySem.W.Hook):Prop:=∀ w,(RF treeTable p w N).map (λ s=>(PySem.W.openSeen q loose (importedModules p.main.body) Xt true s,H.obs s))=some (PySem.W.openGood q loose,H.val w)
structure HK (l:RL) (p q:Ql) (loose:List Str) (XP:(Str->Option PP)->Heap->Prop) (Xt:PQ->Bool) (N:Nat) where
 H:PySem.W.Hook
 d:DefRec
 dd:d.params.defaults=[]
 dn:d.name = "law"
 go:(∀ H',H'=H->HLf p q loose Xt N H'/\RZ q loose XP H'.says l.row.toRowW d [] (λ f vs=>PySem.call f vs))->l.Holds
def hk_mk {l:RL} {p q:Ql} {loose:List Str} {XP:(Str->Option PP)->Heap->Prop} {Xt:PQ->Bool} {N:Nat} {H:PySem.W.Hook} {d:DefRec} (dd:d.params.defaults=[]) (dn:d.name = "law")
  (go:(∀ H',H'=H->HLf p q loose Xt N H'/\RZ q loose XP H'.says l.row.toRowW d [] (λ f vs=>PySem.call f vs))->l.Holds):HK l p q loose XP Xt N:=⟨H,d,dd,dn,go⟩
theorem Os {l:RL} {p q:Ql} {loose:List Str} {XP:(Str->Option PP)->Heap->Prop} {Xt:PQ->Bool} {N:Nat} (k:HK l p q loose XP Xt N) (h1:∀ w,(RF treeTable p w N).map (λ s=>PySem.W.openSeen q loose (importedModules p.main.body) Xt true s)=some (PySem.W.openGood q loose))
  (h2:∀ w,(RF treeTable p w N).map (λ s=>k.H.obs s)=some (k.H.val w)) (h3:RZ q loose XP k.H.says l.row.toRowW k.d [] (λ f vs=>PySem.call f vs)):l.Holds :=
 k.go λ H' e=>by
  subst e;refine ⟨λ w=>?_,h3⟩;have a:=h1 w;have b:=h2 w;cases o:RF treeTable p w N with
  | none=>rw [o] at a; cases a
  | some s =>
   rw [o] at a b;have a':=Option.some.inj a;have b':=Option.some.inj b;show some (_,_)=some (_,_);dsimp only at a' b';rw [a',b']
theorem tx_mk {H:PySem.W.Hook} {K:Params->PH} {T:PH->(Str->Option PP)->Prop} (hY:∀ w h,H.says w h->(K w.params).In h) (tx:∀ (P:Params) (mg:Str->Option PP) (h:Heap),(K P).In h->h.Ns mainGlobals mg->T (K P) mg) :
  ∃ K:Params->PH,(∀ w h,H.says w h->(K w.params).In h)/\∀ (P:Params) (mg:Str->Option PP) (h:Heap),(K P).In h->h.Ns mainGlobals mg->T (K P) mg:=⟨K,hY,tx⟩
end L2.PU
section
open PySem PySem.W PyProof.Rows
def K20.view:Ql:={ PySem.Challenge.pw_touchtree_k20_hands with main:={ PySem.Challenge.pw_touchtree_k20_hands.main with body:=[40,34,21,6,0].foldl (λ l i=>l.eraseIdx i) PySem.Challenge.pw_touchtree_k20_hands.main.body } }
set_option hygiene false in
local macro_rules
 | `(tactic| o_head $H)=>`(tactic| (
   refine holds_open (q:=K20.view) (loose:=[]) (Xt:=(λ s=>xlAt K20.view [] s&&recOk (RowW.records (OpenRow.toRowW (OpenLaw.row PySem.Challenge.rw_touchtree_k20_hands))) s)) (XP:=XL K20.view []) (Yf:=Hook.obs $H) (Ya:=Hook.val $H) (YP:=Hook.says $H) (N:=6516) (k $H rfl).1 (Hook.of $H) (Hook.keeps $H) (λ s e=>xl_of s (Rg.mp e).1) XL.keeps (by rfl) (by rfl) (by rfl) (λ s e=>recFacts_of (Rg.mp e).2) (by rfl) (by assumption) (by decide +kernel) ⟨rfl,rfl,rfl,rfl,rfl,by decide +kernel⟩ ?hw (k $H rfl).2))
set_option maxHeartbeats 0 in
noncomputable def K20.hk:L2.PU.HK PySem.Challenge.rw_touchtree_k20_hands PySem.Challenge.pw_touchtree_k20_hands K20.view [] (XL K20.view []) (λ s=>xlAt K20.view [] s&&recOk (RowW.records (OpenRow.toRowW (OpenLaw.row PySem.Challenge.rw_touchtree_k20_hands))) s) 6516:=by
 refine' L2.PU.hk_mk ?dd ?dn (λ k=>?go)
 (case go =>
  w_on; o_law; k_head; (case hw=>w_witness2))
 (case dd=>rfl)
 (case dn=>rfl)
set_option maxHeartbeats 0 in
theorem K20.hlA (w:World):(openEnds treeTable PySem.Challenge.pw_touchtree_k20_hands w 6516).map (λ s=>openSeen K20.view [] (importedModules PySem.Challenge.pw_touchtree_k20_hands.main.body) (λ s=>xlAt K20.view [] s&&recOk (RowW.records (OpenRow.toRowW (OpenLaw.row PySem.Challenge.rw_touchtree_k20_hands))) s) true s)=some (openGood K20.view []):=by
 unfold openEnds fencedOpening topFrom; rewrite [PySem.W.Fast.te10274390034422433532,PySem.W.Fast.te14082659384304107361,PySem.W.Fast.te14364793385576792824,PySem.W.Fast.te14289696077712309145,PySem.W.Fast.te1435165496053646825,PySem.W.Fast.te4187177175401517315]; kernel_rfl
set_option maxHeartbeats 0 in
theorem K20.hlB (w:World):(openEnds treeTable PySem.Challenge.pw_touchtree_k20_hands w 6516).map (λ s=>K20.hk.H.obs s)=some (K20.hk.H.val w):=by
 unfold openEnds fencedOpening topFrom; rewrite [PySem.W.Fast.te10274390034422433532,PySem.W.Fast.te14082659384304107361,PySem.W.Fast.te14364793385576792824,PySem.W.Fast.te14289696077712309145,PySem.W.Fast.te1435165496053646825]; kernel_rfl
end
namespace L2
open PySem PySem.Spec PyProof.Rows
variable {us:List PP} {a b C:Qd} {u:PP} {w:World} {h base:Heap} {t' i j k:Nat} {x:Str} {e c tg:Expr} {M:Model} {Q:Unit->PQ->Prop} {pos:Pos} {pz:List (Qd×Obj)} {K:PH} {f:PP->PP->Sem PP} {body:List Stmt} {fp:List Qd} {pl:Sem Bool} {kw:List (Str×PP)} {mg:Str->Option PP} {fd:QX} {ps:List Str}
abbrev Key:=Sum Int Str
def yy:Key->PP->Bool
 | .inl k,v=>Value.isInt k v
 | .inr x,v=>Value.isStrOf x v
def Pi (w:World):Key->Int
 | .inl k=>hashInt k
 | .inr x=>hashStr w x
theorem fY:∀ {k:Key} {v:PP},yy k v=true->(∃ i t,k=Sum.inl i/\v=Value.int i t)\/(∃ x t,k=Sum.inr x/\v=Value.str x t)
 | .inl i,v,h=>by
  obtain ⟨t,e⟩:=Value.isInt_shape (k:=i) (v:=v) h;exact .inl ⟨i,t,rfl,e⟩
 | .inr x,v,h=>by
  obtain ⟨t,e⟩:=Value.isStrOf_shape (x:=x) (v:=v) h;exact .inr ⟨x,t,rfl,e⟩
theorem GN (i:Int) (t:Tok):yy (.inl i) (.int i t)=true:=by simp [yy,Value.isInt]
theorem GM (x:Str) (t:Tok):yy (.inr x) (.str x t)=true:=by simp [yy,Value.isStrOf]
theorem MN (a b:Int):decide ((Sum.inl a:Key)=Sum.inl b)=(a==b):=by
 by_cases e:a=b
 ·subst e; simp
 ·have h:¬ (Sum.inl a:Key)=Sum.inl b:=λ q=>e (Sum.inl.inj q);rw [decide_eq_false h];exact (beq_eq_false_iff_ne.mpr e).symm
theorem MK (a b:Str):decide ((Sum.inr a:Key)=Sum.inr b)=decide (a=b):=by
 by_cases e:a=b
 ·subst e; simp
 ·have h:¬ (Sum.inr a:Key)=Sum.inr b:=λ q=>e (Sum.inr.inj q);rw [decide_eq_false h,decide_eq_false e]
theorem MM (a:Int) (b:Str):decide ((Sum.inl a:Key)=Sum.inr b)=false:=decide_eq_false (λ q=>nomatch q)
theorem ML (a:Str) (b:Int):decide ((Sum.inr a:Key)=Sum.inl b)=false:=decide_eq_false (λ q=>nomatch q)
def fV (prog:Ql) (w:World):PySem.KeyKind prog w Key where
 is:=yy
 hash:=Pi w
 inj:=λ v a b ha hb=>by
  rcases fY ha with ⟨i,t,rfl,rfl⟩ | ⟨x,t,rfl,rfl⟩
  ·rcases fY hb with ⟨j,u,rfl,e⟩ | ⟨y,u,rfl,e⟩
   ·injection e with e1 _; rw [e1]
   ·exact nomatch e
  ·rcases fY hb with ⟨j,u,rfl,e⟩ | ⟨y,u,rfl,e⟩
   ·exact nomatch e
   ·injection e with e1 _; rw [e1]
 byValue:=λ k v h=>by
  rcases fY h with ⟨i,t,rfl,rfl⟩ | ⟨x,t,rfl,rfl⟩ <;> rfl
 pyHash:=λ hv h=>by
  rcases fY hv with ⟨i,t,rfl,rfl⟩ | ⟨x,t,rfl,rfl⟩
  ·exact wpAny_pyHash_int h
  ·exact wpAny_pyHash_str h
 eqBool:=λ hu hv h=>by
  rcases fY hu with ⟨i,t,rfl,rfl⟩ | ⟨x,t,rfl,rfl⟩
  ·rcases fY hv with ⟨j,u,rfl,rfl⟩ | ⟨y,u,rfl,rfl⟩
   ·rw [MN] at h; exact wpAny_eqBool_int h
   ·rw [MM] at h; exact SeqAt.EqAt.int_str i t y u _ _ _ _ h
  ·rcases fY hv with ⟨j,u,rfl,rfl⟩ | ⟨y,u,rfl,rfl⟩
   ·rw [ML] at h; exact SeqAt.EqAt.str_int x t j u _ _ _ _ h
   ·rw [MK] at h; exact wpAny_eqBool_str h
 «strs»:=λ k x t v h=>by
  rcases fY h with ⟨i,u,rfl,e⟩ | ⟨y,u,rfl,e⟩
  ·exact nomatch e
  ·injection e with e1 _
   subst e1;cases v <;> rfl
theorem Do (prog:Ql) (w:World) (i:Int) (t:Tok):(fV prog w).is (.inl i) (.int i t)=true:=GN i t
theorem Dn (prog:Ql) (w:World) (x:Str) (t:Tok):(fV prog w).is (.inr x) (.str x t)=true:=GM x t
inductive V where
 | non | bl (b:Bool) | int (i:Int) | str (x:Str) | byt (b:Array UInt8) | flt (b:UInt64) | ref (a:Qd) | ty (n:String)
 deriving DecidableEq
variable {y:V} {vs:List V}
def RelV:V->PP->Prop
 | .non,u=>u=Value.none
 | .bl b,u=>u=Value.bool b
 | .int i,u=>∃ t,u=Value.int i t
 | .str x,u=>∃ t,u=Value.str x t
 | .byt b,u=>∃ t,u=Value.bytes b t
 | .flt b,u=>∃ t,u=Value.float b t
 | .ref a,u=>u=Value.ref a
 | .ty n,u=>u=Value.type n
abbrev Vals:List V->List PP->Prop:=Paired RelV
theorem Vals.length {xs:List V} (r:Vals xs us):xs.length=us.length:=Paired.length r
theorem Vals.get:∀ {xs:List V} {us:List PP} {i:Nat} {x:V},Vals xs us->xs[i]?=some x->∃ u,us[i]?=some u/\RelV x u
 | _,_,_,_,.nil,e=>by simp at e
 | _,_,0,_,.cons r _,e=>by simp at e; subst e; exact ⟨_,rfl,r⟩
 | _,_,i+1,x,.cons _ t,e=>by
  obtain ⟨u,h1,h2⟩:=Vals.get (i:=i) (x:=x) t (by simpa using e);exact ⟨u,by simpa using h1,h2⟩
theorem Vals.append:∀ {xs ys:List V} {us ws:List PP},Vals xs us->Vals ys ws->Vals (xs++ys) (us++ws)
 | _,_,_,_,.nil,s=>s
 | _,_,_,_,.cons r t,s=>.cons r (Vals.append t s)
theorem Vals.take:∀ {xs:List V} {us:List PP} (n:Nat),Vals xs us->Vals (xs.take n) (us.take n)
 | _,_,0,_=>.nil
 | _,_,_+1,.nil=>.nil
 | _,_,n+1,.cons r t=>.cons r (Vals.take n t)
theorem Vals.drop:∀ {xs:List V} {us:List PP} (n:Nat),Vals xs us->Vals (xs.drop n) (us.drop n)
 | _,_,0,r=>r
 | _,_,_+1,.nil=>.nil
 | _,_,n+1,.cons _ t=>Vals.drop n t
def RelO:Option V->Option PP->Prop
 | some v,some u=>RelV v u
 | none,none=>True
 | _,_=>False
def KV {κ:Type}:List (κ×V)->List (κ×PP)->Prop:=Paired λ (p:κ×V) (q:κ×PP)=>p.1=q.1/\RelV p.2 q.2
def kV:Key->V
 | .inl i=>.int i
 | .inr x=>.str x
inductive HO where
 | lst (xs:List V)
 | tup (xs:List V)
 | dK (kvs:List (Key×V)) | dT (kvs:List (List Key×V))
 | set (S:Int->Bool) (n:Nat)
 | ins (C dx:Qd) (fs:List (Str×V))
 | own (x:Qd)
 | xd (fs:List (Str×V))
 | met (f x:Qd)
 | rng (lo hi:Int)
 | frz (o:Obj) (u:HO)
 | tbl (ps:Array PP)
 | ext (φ:Heap->Prop)
variable {o:HO}
abbrev Hp:=Qd->Option HO
variable {H:Hp}
def upd (H:Hp) (a:Qd) (o:HO):Hp:=λ b=>if b=a then some o else H b
theorem aA:upd H a o a=some o:=by unfold upd; rw [if_pos rfl]
theorem aD (h:b≠a):upd H a o b=H b:=by unfold upd; rw [if_neg h]
theorem Oe {u:HO} (h:H a=some o) (h':H b=some u) (d:o≠u):a≠b:=by
 intro e; subst e; rw [h] at h'; exact d (Option.some.inj h')
theorem aU (h:H a=some o) (h':H b=none):a≠b:=by
 intro e; subst e; rw [h] at h'; cases h'
section
variable (P:Ql) (w:World)
def ObjOk (H:Hp) (h:Heap) (a:Qd):HO->Prop
 | .lst xs=>xs.length<=P4/\∃ (its:List PP) (n:Nat),Vals xs its/\h.get? a=some { cls:=.type "list", data:=.seq its.toArray n }
 | .tup xs=>xs.length<=P4/\∃ its:List PP,Vals xs its/\IsTup h a its.toArray
 | .dK kvs=>kvs.length<=P4/\(a==sysModules)=false/\∃ vs,KV kvs vs/\h.DictOf (fV P w) a vs
 | .dT kvs=>kvs.length<=P4/\(a==sysModules)=false/\∃ xs:List (List Key×Qd×PP),Paired (λ (p:List Key×V) (q:List Key×Qd×PP)=>p.1=q.1/\H q.2.1=some (.tup (p.1.map kV))/\RelV p.2 q.2.2) kvs xs /\
   ∃ o es ep,h.get? a=some o/\o.ExactDict/\o.data=.dict es ep/\es.toList=xs.map (entryOfKey (tupleKind (fV P w)))/\(xs.map (·.1)).Nodup
 | .set S n=>h.SetOf (intKind P w) a S n
 | .ins C dx fs=>H dx=some (.own a)/\fs.length<=1000/\dx≠a/\h.get? a=some (Q5 C dx) /\
   ∃ mA,h.Ns1 dx mA/\(∀ f,RelO (fs.lookup f) (mA f))/\PySem.Within mA (fs.map (·.1))
 | .own _=>∃ o,h.get? a=some o
 | .xd fs=>∃ mA,h.Ns1 a mA/\∀ f,RelO (fs.lookup f) (mA f)
 | .rng lo hi=>∃ t u v,h.get? a=some { cls:=.type "range", data:=.fields #[.int lo t,.int hi u,.int 1 v] }
 | .frz o u=>h.get? a=some o/\ObjOk H h a u
 | .tbl ps=>h.get? a=some { cls:=.none,data:=.fields ps }
 | .met f x=>h.get? a=some (PySem.W.methodObj (.ref f) (.ref x))
 | .ext φ=>φ h/\(∃ o,h.get? a=some o)/\∀ h1 h2:Heap,φ h1->(∀ o,h1.get? a=some o->h2.get? a=some o)->φ h2
def HOk (H:Hp) (h:Heap):Prop:=∀ a o,H a=some o->ObjOk P w H h a o
end
section
variable {P:Ql} {w:World} {H H':Hp} {h h':Heap} {a:Qd} {o:HO}
theorem ObjOk.lt (x:ObjOk P w H h a o):a < h.objs.size:=by
 cases o with
 | lst xs=>obtain ⟨_,_,_,_,e⟩:=x; exact Qb e
 | tup xs=>obtain ⟨_,_,_,p⟩:=x; exact p.lt
 | dK kvs=>obtain ⟨_,_,_,_,o,_,_,e,_⟩:=x; exact Qb e
 | dT kvs=>obtain ⟨_,_,_,_,o,_,_,e,_⟩:=x; exact Qb e
 | set S n=>obtain ⟨o,_,_,_,e,_⟩:=x; exact Qb e
 | ins C dx fs=>obtain ⟨_,_,_,e,_⟩:=x; exact Qb e
 | own y=>obtain ⟨_,e⟩:=x; exact Qb e
 | xd fs=>obtain ⟨_,⟨_,_,_,e,_⟩,_⟩:=x; exact Qb e
 | rng lo hi=>obtain ⟨_,_,_,e⟩:=x; exact Qb e
 | frz ob u=>obtain ⟨e,_⟩:=x; exact Qb e
 | tbl ps=>exact Qb (show h.get? a=some _ from x)
 | met f y=>exact Qb (show h.get? a=some _ from x)
 | ext φ=>obtain ⟨_,⟨_,e⟩,_⟩:=x; exact Qb e
theorem Paired.mapP {α β:Type} {F G:α->β->Prop}:∀ {l₁:List α} {l₂:List β},Paired F l₁ l₂->(∀ a b,F a b->G a b)->Paired G l₁ l₂
 | _,_,.nil,_=>.nil
 | _,_,.cons r t,f=>.cons (f _ _ r) (Paired.mapP t f)
theorem ObjOk.stay (x:ObjOk P w H h a o) (k:∀ b u,(b=a\/H b=some (.own a))->h.get? b=some u->h'.get? b=some u)
  (ho:∀ b,H b=some (.own a)->H' b=some (.own a)) (ht:∀ b xs,H b=some (.tup xs)->H' b=some (.tup xs)):ObjOk P w H' h' a o:=by
 induction o with
 | lst xs=>obtain ⟨z,its,n,r,e⟩:=x; exact ⟨z,its,n,r,k _ _ (.inl rfl) e⟩
 | tup xs=>obtain ⟨z,its,r,ob,e,c⟩:=x; exact ⟨z,its,r,ob,k _ _ (.inl rfl) e,c⟩
 | dK kvs=>obtain ⟨z,y,vs,r,ob,es,ep,e,c⟩:=x; exact ⟨z,y,vs,r,ob,es,ep,k _ _ (.inl rfl) e,c⟩
 | dT kvs =>
  obtain ⟨z,y,xs,r,ob,es,ep,e,c⟩:=x;exact ⟨z,y,xs,Paired.mapP r λ p q z=>⟨z.1,ht _ _ z.2.1,z.2.2⟩,ob,es,ep,k _ _ (.inl rfl) e,c⟩
 | set S n=>obtain ⟨ob,es,ep,t,e,c⟩:=x; exact ⟨ob,es,ep,t,k _ _ (.inl rfl) e,c⟩
 | ins C dx fs =>
  obtain ⟨d,z,ne,e,mA,⟨od,es,ep,e2,c⟩,r⟩:=x;exact ⟨ho _ d,z,ne,k _ _ (.inl rfl) e,mA,⟨od,es,ep,k _ _ (.inr d) e2,c⟩,r⟩
 | own y=>obtain ⟨ob,e⟩:=x; exact ⟨ob,k _ _ (.inl rfl) e⟩
 | xd fs=>obtain ⟨mA,⟨od,es,ep,e,c⟩,r⟩:=x; exact ⟨mA,⟨od,es,ep,k _ _ (.inl rfl) e,c⟩,r⟩
 | rng lo hi=>obtain ⟨t,u,v,e⟩:=x; exact ⟨t,u,v,k _ _ (.inl rfl) e⟩
 | frz ob u ih=>obtain ⟨e,q⟩:=x; exact ⟨k _ _ (.inl rfl) e,ih q⟩
 | tbl ps =>
  have e:h.get? a=some { cls:=.none,data:=.fields ps }:=x;show h'.get? a=some { cls:=.none,data:=.fields ps };exact k a _ (.inl rfl) e
 | met f y =>
  have e:h.get? a=some (PySem.W.methodObj (.ref f) (.ref y)):=x;show h'.get? a=some (PySem.W.methodObj (.ref f) (.ref y));exact k a _ (.inl rfl) e
 | ext φ=>obtain ⟨p,⟨o,e⟩,st⟩:=x; exact ⟨st _ _ p λ o q=>k _ _ (.inl rfl) q,⟨o,k _ _ (.inl rfl) e⟩,st⟩
theorem HOk.lt (x:HOk P w H h) (e:H a=some o):a < h.objs.size:=(x a o e).lt
theorem HOk.fresh (x:HOk P w H h) (e:h.objs.size<=a):H a=none:=by
 cases q:H a with
 | none=>rfl
 | some u=>exact absurd (P5 (x.lt q) e) (QY _)
theorem HOk.kept (x:HOk P w H h) (k:∀ b u,h.get? b=some u->h'.get? b=some u):HOk P w H h':=λ a o e =>
 (x a o e).stay (λ b u _ q=>k b u q) (λ _ q=>q) λ _ _ q=>q
theorem HOk.laid (x:HOk P w H h) (k:∀ b u,h.get? b=some u->h'.get? b=some u) (hp:h.objs.size<=a) (new:ObjOk P w (upd H a o) h' a o):HOk P w (upd H a o) h':=λ b u e=>by
 have hn:=x.fresh hp;by_cases hb:b=a
 ·subst hb; rw [aA] at e; cases e; exact new
 ·rw [aD hb] at e;exact (x b u e).stay (λ c v _ q=>k c v q) (λ c q=>by rw [aD (aU q hn)]; exact q) λ c xs q=>by rw [aD (aU q hn)]; exact q
end
def Rd (H:Hp) (a:Qd) (u:HO):Prop:=H a=some u\/∃ o,H a=some (.frz o u)
theorem Rd.ok {P:Ql} {u:HO} (r:Rd H a u) (x:HOk P w H h):ObjOk P w H h a u:=by
 rcases r with r | ⟨o,r⟩
 ·exact x a u r
 ·obtain ⟨_,q⟩:=x a _ r;exact q
def Mut:Option HO->Prop
 | some (.lst _)=>True
 | some (.dK _)=>True
 | some (.dT _)=>True
 | some (.set _ _)=>True
 | some (.ins _ _ _)=>True
 | some (.ext _)=>True
 | _=>False
section
variable {P:Ql} {w:World} {H:Hp} {h h':Heap} {x e:Qd} {o':HO}
theorem HOk.write (ok:HOk P w H h) (mu:Mut (H x)) (he:e=x\/H e=some (.own x)) (k:∀ b u,b≠e->h.get? b=some u->h'.get? b=some u) (heo:∃ u,h'.get? e=some u)
  (new:ObjOk P w (upd H x o') h' x o'):HOk P w (upd H x o') h':=λ b u q=>by
 have nown:∀ c y,H c=some (.own y)->c≠x:=λ c y r z=>by subst z; rw [r] at mu; exact mu
 have ntup:∀ c xs,H c=some (.tup xs)->c≠x:=λ c xs r z=>by subst z; rw [r] at mu; exact mu
 by_cases hb:b=x
 ·subst hb; rw [aA] at q; cases q; exact new
 ·rw [aD hb] at q;by_cases hbe:b=e
  ·have q':H b=some (.own x):=by
    rcases he with z | z
    ·exact absurd (hbe.trans z) hb
    ·rw [hbe]; exact z
   rw [q] at q'; cases q';obtain ⟨v,hv⟩:=heo;exact ⟨v,by rw [hbe]; exact hv⟩
  ·refine (ok b u q).stay (λ c v hc r=>k c v ?_ r) (λ c r=>by rw [aD (nown c b r)]; exact r) λ c xs r=>by rw [aD (ntup c xs r)]; exact r
   rcases hc with rfl | hc
   ·exact hbe
   ·rintro rfl
    rcases he with z | z
    ·exact nown c b hc z
    ·rw [hc] at z; cases z; exact hb rfl
end
structure Un (fs ex:List Qd) (H H':Hp) (h h':Heap):Prop where
 keep:∀ b o,h.get? b=some o->H b=none->b∉fs->b∉ex->h'.get? b=some o
 slot:∀ b o,h.get? b=some o->H b=none->b∈fs->b∉ex->∃ sl,h'.get? b=some { o with slots:=sl }
 free:∀ b o,h.get? b=some o->H b=none->b∉ex->H' b=none
 there:∀ b o,h.get? b=some o->b∉ex->∃ o',h'.get? b=some o'
 tups:∀ b xs,H b=some (.tup xs)->H' b=some (.tup xs)
 frzs:∀ b o u,H b=some (.frz o u)->H' b=some (.frz o u)
 tbls:∀ b ps,H b=some (.tbl ps)->∃ more,H' b=some (.tbl (ps++more))
section
variable {fs fs' ex ex':List Qd} {H H1 H2:Hp} {h h1 h2 h':Heap} {a x e:Qd} {o:HO}
theorem Un.any (u:Un fs ex H H1 h h1) {ob:Obj} (q:h.get? b=some ob) (n:H b=none) (hx:b∉ex):∃ sl,h1.get? b=some { ob with slots:=sl }:=by
 by_cases hb:b∈fs
 ·exact u.slot b ob q n hb hx
 ·exact ⟨ob.slots,u.keep b ob q n hb hx⟩
theorem Un.kept (k:∀ b u,h.get? b=some u->h'.get? b=some u):Un fs ex H H h h' :=
 ⟨λ b ob q _ _ _=>k b ob q,λ b ob q _ _ _=>⟨ob.slots,k b ob q⟩,λ _ _ _ n _=>n,λ b ob q _=>⟨ob,k b ob q⟩,λ _ _ q=>q,λ _ _ _ q=>q,λ _ ps q=>⟨#[],by rw [q]; simp⟩⟩
theorem Un.refl:Un fs ex H H h h:=Un.kept λ _ _ q=>q
theorem Un.laid (k:∀ b u,h.get? b=some u->h'.get? b=some u) (hp:h.objs.size<=a) (hn:H a=none):Un fs ex H (upd H a o) h h' where
 keep:=λ b u q _ _ _=>k b u q
 slot:=λ b u q _ _ _=>⟨u.slots,k b u q⟩
 free:=λ b u q n _=>by rw [aD (Qm (P5 (Qb q) hp))]; exact n
 there:=λ b u q _=>⟨u,k b u q⟩
 tups:=λ b xs q=>by rw [aD (aU q hn)]; exact q
 frzs:=λ b u xs q=>by rw [aD (aU q hn)]; exact q
 tbls:=λ b ps q=>⟨#[],by rw [aD (aU q hn),q]; simp⟩
theorem Un.write (mu:Mut (H x)) (he:e=x\/H e=some (.own x)) (k:∀ b u,b≠e->h.get? b=some u->h'.get? b=some u) (heo:∃ u,h'.get? e=some u):Un fs ex H (upd H x o) h h':=by
 have hx:∀ b,H b=none->b≠x:=λ b n z=>by subst z; rw [n] at mu; exact mu
 have hb:∀ b,H b=none->b≠e:=λ b n z=>by
  subst z;rcases he with r | r
  ·exact hx b n r
  ·rw [n] at r; cases r
 have hm:∀ b u,H b=some u->¬ Mut (some u)->b≠x:=λ b u q nm z=>by subst z; rw [q] at mu; exact nm mu
 refine ⟨λ b u q n _ _=>k b u (hb b n) q,λ b u q n _ _=>⟨u.slots,k b u (hb b n) q⟩,λ b u q n _=>by rw [aD (hx b n)]; exact n,λ b u q _=>?_,λ b xs q=>by rw [aD (hm b _ q λ z=>z)]; exact q,λ b u xs q=>by rw [aD (hm b _ q λ z=>z)]; exact q,λ b ps q=>⟨#[],by rw [aD (hm b _ q λ z=>z),q]; simp⟩⟩;by_cases hbe:b=e
 ·subst hbe; exact heo
 ·exact ⟨u,k b u hbe q⟩
end
def trk (h:Heap) (H:Hp):List Qd:=(List.range h.objs.size).filter λ a=>(H a).isSome
def Ch (h:Heap) (H:Hp):Heap:=RM h (trk h H)
theorem GS (h:Heap) (H:Hp):(Ch h H).objs.size=h.objs.size:=PySem.W.hideAll_size _ _
theorem IE {o:Obj} (e:h.get? b=some o) (n:H b=none):(Ch h H).get? b=some o :=
 RV _ e λ hm=>by
  have q:(H b).isSome=true:=(QR.mp hm).2;rw [n] at q; simp at q
theorem Kc {o:Obj} (e:(Ch h H).get? b=some o):h.get? b=some o/\H b=none:=by
 have e':h.get? b=some o:=PySem.W.of_hideAll (trk h H) e;refine ⟨e',?_⟩;cases q:H b with
 | none=>rfl
 | some x =>
  have hm:b∈trk h H:=QR.mpr ⟨QN.mpr (Qb e'),by simp [q]⟩;have z:(Ch h H).get? b=none:=PySem.W.hideAll_none (trk h H) hm;rw [z] at e; cases e
def KW (g h:Heap) (L:Qd):List (Qd×Obj):=(List.range h.objs.size).filterMap λ a=>if a=L\/(g.get? a).isSome=true then none else (h.get? a).map λ o=>(a,o)
def rest (g h:Heap) (L d:Qd):List (Qd×Obj):=(KW g h L).filter λ p=>decide (p.1≠d)
structure Mod (K:PH) (mg:Str->Option PP) (base:Heap):Prop where
 kin:K.In base
 glob:base.Ns mainGlobals mg
 blt:∃ mb,base.Ns builtinsNs mb/\∀ x:Str,x ≠ "__name__" -> mb x=bootBuiltins x
 nolimit:base.NoLimit
structure Cx where
 prog:Ql
 w:World
 K:PH
 mg:Str->Option PP
 base:Heap
 A:QI
 N:List Str
 s₀:PQ
 H₀:Hp
 env:Env
 outer:List Env
 stack:List Env
 ex:List Qd
 fn:Str->Bool
 calm:Bool
 pn:List (Qd×Obj)
 xe:PP->PQ->Prop
variable {X:Cx}
def frs (l:List Env):List Qd:=l.filterMap (·.frame)
abbrev Cx.fs (X:Cx):List Qd:=frs X.outer
def Vis (sc:Scope) (x:Str):Prop:=sc.names.lookup x=some .local\/sc.names.lookup x=some .cell\/sc.names.lookup x=some .free
def Loc (sc:Scope) (x:Str):Prop:=sc.names.lookup x=some .local\/sc.names.lookup x=some .cell
def Look (env:Env) (h:Heap) (m:Str->Option PP) (x:Str) (u:PP):Prop :=
 (env.kindOf x=some .local/\m x=some u)\/((env.kindOf x=some .cell\/env.kindOf x=some .free)/\∃ c,env.cells.lookup x=some c/\h.IsCell c (some u))
structure Cx.Ok (X:Cx):Prop where
 mod:Mod X.K X.mg X.base
 kind:X.env.scope.kind=.function
 glob:X.env.globals=mainGlobals
 blt:X.env.builtins=builtinsNs
 above:X.s₀.heap.objs.size<=X.env.locals
 inj:∀ x y c,X.env.cells.lookup x=some c->X.env.cells.lookup y=some c->x=y
 has:∀ x,(X.env.kindOf x=some .cell\/X.env.kindOf x=some .free)->∃ c,X.env.cells.lookup x=some c
 cab:∀ x c,X.fn x=true->X.env.cells.lookup x=some c->X.s₀.heap.objs.size<=c
 hd:X.calm=true->X.A.handled=none
 frames:X.A.frames=some X.stack
 stk:X.stack=X.outer\/(X.stack=X.env::X.outer/\X.env.frame=some X.env.locals)
 exf:∀ b∈X.ex,b≠X.env.locals/\∀ x c,X.env.cells.lookup x=some c->c≠b
 bs:∀ b o,X.base.get? b=some o->X.s₀.heap.get? b=some o/\X.H₀ b=none
 bsz:X.base.objs.size<=X.s₀.heap.objs.size
 noex:∀ b o,X.base.get? b=some o->b∉X.ex
 exfs:∀ b∈X.ex,b∉X.fs
 funs:X.s₀.heap.FunFrames X.base X.outer
 frf:∀ b∈X.fs,X.H₀ b=none
structure Inv (X:Cx) (pz:List (Qd×Obj)) (σ:List (Option V)) (H:Hp) (s:PQ):Prop where
 ok:X.Ok
 os:s.os=X.s₀.os
 bare:AllBare s.gens
 base:Un X.fs X.ex X.H₀ H X.s₀.heap s.heap
 loc:∃ m,s.heap.Ns X.env.locals m/\∀ (i:Nat) (x:Str) (v:V),X.N[i]?=some x->σ[i]?=some (some v)->Vis X.env.scope x->∃ u,RelV v u/\Look X.env s.heap m x u
 cell:∀ x c,X.env.cells.lookup x=some c->∃ v,s.heap.IsCell c v
 free:H X.env.locals=none
 freeC:∀ x c,X.env.cells.lookup x=some c->H c=none
 pin:∀ p∈X.pn++pz,s.heap.get? p.1=some p.2/\H p.1=none/\p.1≠X.env.locals/\p.1∉X.fs/\∀ v,p.2.data≠.cell v
 hok:HOk X.prog X.w H s.heap
 len:σ.length=X.N.length
section
variable {X:Cx} {pz:List (Qd×Obj)} {σ:List (Option V)} {H H':Hp} {s:PQ} {h':Heap}
theorem Cx.Ok.nofr (ok:X.Ok) {o:Obj} (e:X.base.get? b=some o):b∉X.fs:=λ hb=>by
 have:=(ok.funs.mem hb).1
 rw [e] at this; cases this
theorem Inv.bs (I:Inv X pz σ H s):∀ b o,X.base.get? b=some o->s.heap.get? b=some o/\H b=none:=λ b o e =>
 ⟨I.base.keep b o (I.ok.bs b o e).1 (I.ok.bs b o e).2 (I.ok.nofr e) (I.ok.noex b o e),I.base.free b o (I.ok.bs b o e).1 (I.ok.bs b o e).2 (I.ok.noex b o e)⟩
theorem Inv.bk (I:Inv X pz σ H s):∀ b o,X.base.get? b=some o->s.heap.get? b=some o:=λ b o e=>(I.bs b o e).1
theorem Inv.mod (I:Inv X pz σ H s):Mod X.K X.mg X.base:=I.ok.mod
theorem Inv.kIn (I:Inv X pz σ H s):X.K.In s.heap:=I.ok.mod.kin.keeps I.bk
theorem Inv.lt (I:Inv X pz σ H s):X.env.locals < s.heap.objs.size:=let ⟨_,hn,_⟩:=I.loc; hn.lt
theorem Inv.sz (I:Inv X pz σ H s):X.s₀.heap.objs.size<=s.heap.objs.size:=Qg I.ok.above (RC I.lt)
theorem Inv.nofs (I:Inv X pz σ H s) (h:s.heap.objs.size<=a):a∉X.fs:=λ hb=>by
 obtain ⟨_,o,ho,_⟩:=I.ok.funs.mem hb;exact absurd (P5 (Qb ho) (Qg I.sz h)) (QY _)
theorem Inv.cne (I:Inv X pz σ H s):∀ x c,X.env.cells.lookup x=some c->c≠X.env.locals:=λ x c e z=>by
 obtain ⟨v,o,ho,hd⟩:=I.cell x c e;obtain ⟨m,⟨o',es,ep,ho',hd',_⟩,_⟩:=I.loc;rw [z,ho'] at ho; cases ho; rw [hd'] at hd; cases hd
theorem Inv.funs (I:Inv X pz σ H s):s.heap.FunFrames X.base X.outer:=by
 have all:∀ (l:List Env),(∀ b∈frs l,b∈X.fs)->X.s₀.heap.FunFrames X.base l->s.heap.FunFrames X.base l:=by
  intro l
  induction l with
  | nil=>intro _ _; trivial
  | cons env r ih =>
   intro hs hl;obtain ⟨hk,⟨L,o,hf,hn,ho,hd⟩,hr⟩:=hl;have hL:L∈X.fs:=hs L (by unfold frs; rw [R0,hf]; exact Qc);obtain ⟨sl,e⟩:=I.base.slot L o ho (I.ok.frf L hL) hL λ z=>I.ok.exfs L z hL;exact ⟨hk,⟨L,_,hf,hn,e,hd⟩,ih (λ b hb=>hs b (by unfold frs; rw [R0,hf]; exact P3 _ hb)) hr⟩
 exact all X.outer (λ _ hb=>hb) I.ok.funs
theorem Inv.stack (I:Inv X pz σ H s):s.heap.FunFrames X.base X.stack:=by
 rcases I.ok.stk with e | ⟨e,hf⟩
 ·rw [e]; exact I.funs
 ·rw [e];obtain ⟨m,hn,_⟩:=I.loc;refine .cons (by rw [I.ok.kind]; decide) hf hn ?_ I.funs;exact Heap.get?_none_of_le (Qg I.ok.bsz I.ok.above)
theorem Inv.stkSub (I:Inv X pz σ H s):∀ b∈frs X.stack,b∈X.env.locals::X.fs:=λ b hb=>by
 rcases I.ok.stk with e | ⟨e,hf⟩
 ·rw [e] at hb; exact P3 _ hb
 ·rw [e] at hb;unfold frs at hb;rw [R0,hf] at hb;exact hb
theorem Inv.stkFree (I:Inv X pz σ H s):∀ b∈frs X.stack,H b=none:=λ b hb=>by
 rcases Qh.mp (I.stkSub b hb) with e | hb
 ·rw [e]; exact I.free
 ·obtain ⟨_,o,ho,_⟩:=I.ok.funs.mem hb;exact I.base.free b o ho (I.ok.frf b hb) λ z=>I.ok.exfs b z hb
theorem Inv.step {g':Array GenState} {t':Nat} {d':Drawn} {ch:List Qd} (I:Inv X pz σ H s)
  (hch:∀ b∈ch,(b∈X.ex\/X.s₀.heap.objs.size<=b)/\b≠X.env.locals/\(∀ x c,X.env.cells.lookup x=some c->c≠b)/\∀ p∈X.pn++pz,p.1≠b)
  (keep:∀ b o,b≠X.env.locals->b∉X.fs->b∉ch->s.heap.get? b=some o->H b=none->h'.get? b=some o)
  (slot:∀ b o,b≠X.env.locals->b∈X.fs->b∉ch->s.heap.get? b=some o->H b=none->∃ sl,h'.get? b=some { o with slots:=sl }) (free:∀ b o,b∉ch->s.heap.get? b=some o->H b=none->H' b=none)
  (there:∀ b o,b∉ch->s.heap.get? b=some o->∃ o',h'.get? b=some o')
  (tups:∀ b xs,H b=some (.tup xs)->H' b=some (.tup xs)) (frzs:∀ b o u,H b=some (.frz o u)->H' b=some (.frz o u)) (tbls:∀ b ps,H b=some (.tbl ps)->∃ more,H' b=some (.tbl (ps++more)))
  (ns:∀ m,s.heap.Ns X.env.locals m->h'.Ns X.env.locals m) (hok:HOk X.prog X.w H' h') (hg:AllBare g') :
  Inv X pz σ H' { s with heap:=h',gens:=g',drawn:=d',toks:=t' }:=by
 have neL:∀ b o,X.s₀.heap.get? b=some o->b≠X.env.locals:=λ b o e=>Qm (P5 (Qb e) I.ok.above);have neC:∀ b o,X.s₀.heap.get? b=some o->b∉X.ex->b∉ch:=λ b o e hx hb=>by
  rcases (hch b hb).1 with z | z
  ·exact hx z
  ·exact absurd (P5 (Qb e) z) (QY _)
 have cellK:∀ x c,X.env.cells.lookup x=some c->∀ v,s.heap.IsCell c v->h'.IsCell c v:=λ x c e v ⟨o,ho,hd⟩=>by
  have nch:c∉ch:=λ z=>(hch c z).2.2.1 x c e rfl;by_cases hc:c∈X.fs
  ·obtain ⟨sl,q⟩:=slot c o (I.cne x c e) hc nch ho (I.freeC x c e);exact ⟨_,q,hd⟩
  ·exact ⟨o,keep c o (I.cne x c e) hc nch ho (I.freeC x c e),hd⟩
 refine ⟨I.ok,I.os,hg,⟨λ b o e n hb hx=>?_,λ b o e n hb hx=>?_,λ b o e n hx=>?_,λ b o e hx=>?_,λ b xs e=>tups b xs (I.base.tups b xs e),λ b o xs e=>frzs b o xs (I.base.frzs b o xs e),λ b ps e=>?_⟩,?_,λ x c e=>?_,?_,λ x c e=>?_,λ p hp=>?_,hok,I.len⟩
 ·exact keep b o (neL b o e) hb (neC b o e hx) (I.base.keep b o e n hb hx) (I.base.free b o e n hx)
 ·obtain ⟨sl,e1⟩:=I.base.slot b o e n hb hx;obtain ⟨sl',e2⟩:=slot b _ (neL b o e) hb (neC b o e hx) e1 (I.base.free b o e n hx);exact ⟨sl',e2⟩
 ·obtain ⟨o',e1⟩:=I.base.there b o e hx;exact free b o' (neC b o e hx) e1 (I.base.free b o e n hx)
 ·obtain ⟨o',e1⟩:=I.base.there b o e hx;exact there b o' (neC b o e hx) e1
 ·obtain ⟨m1,e1⟩:=I.base.tbls b ps e;obtain ⟨m2,e2⟩:=tbls b _ e1;exact ⟨m1++m2,by rw [e2,Array.append_assoc]⟩
 ·obtain ⟨m,hn,hl⟩:=I.loc;refine ⟨m,ns m hn,λ i x v e1 e2 e3=>?_⟩;obtain ⟨u,r,l⟩:=hl i x v e1 e2 e3;refine ⟨u,r,?_⟩;rcases l with l | ⟨k,c,e,z⟩
  ·exact .inl l
  ·exact .inr ⟨k,c,e,cellK x c e _ z⟩
 ·obtain ⟨v,z⟩:=I.cell x c e;exact ⟨v,cellK x c e v z⟩
 ·obtain ⟨m,⟨o,_,_,ho,_⟩,_⟩:=I.loc;exact free _ o (λ z=>(hch _ z).2.1 rfl) ho I.free
 ·obtain ⟨v,o,ho,hd⟩:=I.cell x c e;exact free c o (λ z=>(hch c z).2.2.1 x c e rfl) ho (I.freeC x c e)
 ·obtain ⟨e,n,ne,nf,d⟩:=I.pin p hp;have nch:p.1∉ch:=λ z=>(hch p.1 z).2.2.2 p hp rfl;exact ⟨keep p.1 p.2 ne nf nch e n,free p.1 p.2 nch e n,ne,nf,d⟩
theorem Inv.un {t':Nat} (I:Inv X pz σ H s) (u:Un X.fs [] H H' s.heap h') (hok:HOk X.prog X.w H' h'):Inv X pz σ H' { s with heap:=h',toks:=t' }:=by
 obtain ⟨m,⟨o,es,ep,ho,r⟩,_⟩:=id I.loc;obtain ⟨sl,hL⟩:=u.any ho I.free (by simp);exact I.step (g':=s.gens) (d':=s.drawn) (ch:=[]) (λ _ z=>nomatch z) (λ b o _ hb _ e n=>u.keep b o e n hb (by simp)) (λ b o _ hb _ e n=>u.slot b o e n hb (by simp)) (λ b o _ e n=>u.free b o e n (by simp)) (λ b o _ e=>u.there b o e (by simp)) u.tups u.frzs u.tbls (λ m' hm=>by
  obtain ⟨o',es',ep',ho',r'⟩:=hm;rw [ho] at ho'; cases ho';exact ⟨_,es',ep',hL,r'⟩) hok I.bare
theorem Inv.call {g':Array GenState} {t':Nat} {d':Drawn} {ch:List Qd} (I:Inv X pz σ H s) (u:Un (frs X.stack) ch H H' s.heap h') (hok:HOk X.prog X.w H' h') (hg:AllBare g')
  (hch:∀ b∈ch,(b∈X.ex\/X.s₀.heap.objs.size<=b)/\b≠X.env.locals/\(∀ x c,X.env.cells.lookup x=some c->c≠b)/\∀ p∈X.pn++pz,p.1≠b) :
  Inv X pz σ H' { s with heap:=h',gens:=g',drawn:=d',toks:=t' }:=by
 obtain ⟨m,⟨o,es,ep,ho,r⟩,_⟩:=id I.loc;obtain ⟨sl,hL⟩:=u.any ho I.free λ z=>(hch _ z).2.1 rfl;exact I.step (ch:=ch) hch (λ b o hL hb hc e n=>u.keep b o e n (λ z=>(Qh.mp (I.stkSub b z)).elim hL hb) hc) (λ b o _ _ hc e n=>u.any e n hc) (λ b o hc e n=>u.free b o e n hc) (λ b o hc e=>u.there b o e hc) u.tups u.frzs u.tbls (λ m' hm=>by
  obtain ⟨o',es',ep',ho',r'⟩:=hm;rw [ho] at ho'; cases ho';exact ⟨_,es',ep',hL,r'⟩) hok hg
theorem Inv.turned {t':Nat} {it:Qd} (I:Inv X pz σ H s) (k:∀ b o,b≠it->s.heap.get? b=some o->h'.get? b=some o) (hn:H it=none) (hL:it≠X.env.locals)
  (h1:it∈X.ex\/X.s₀.heap.objs.size<=it) (h2:∀ x c,X.env.cells.lookup x=some c->c≠it) (h3:∀ p∈X.pn++pz,p.1≠it):Inv X pz σ H { s with heap:=h',toks:=t' }:=by
 have nit:∀ b u,H b=some u->b≠it:=λ b u e z=>by rw [z,hn] at e; cases e
 refine I.step (g':=s.gens) (d':=s.drawn) (ch:=[it]) (λ b hb=>?_) (λ b o _ _ hc e _=>k b o (λ z=>hc (by simp [z])) e) (λ b o _ _ hc e _=>⟨o.slots,k b o (λ z=>hc (by simp [z])) e⟩) (λ _ _ _ _ n=>n)
  (λ b o hc e=>⟨o,k b o (λ z=>hc (by simp [z])) e⟩) (λ _ _ e=>e) (λ _ _ _ e=>e) (λ b ps e=>⟨#[],by rw [e]; simp⟩) (λ m hm=>?_) (λ b u e=>?_) I.bare
 ·have e:b=it:=by simpa using hb
  subst e;exact ⟨h1,hL,h2,h3⟩
 ·obtain ⟨o,es,ep,ho,r⟩:=hm;exact ⟨o,es,ep,k _ o (Ne.symm hL) ho,r⟩
 ·refine (I.hok b u e).stay (λ c v hc q=>k c v ?_ q) (λ _ q=>q) λ _ _ q=>q;rcases hc with z | z
  ·rw [z]; exact nit b u e
  ·exact nit c _ z
theorem Inv.tok (I:Inv X pz σ H s) (t:Nat):Inv X pz σ H { s with toks:=t }:=I.un (h':=s.heap) (t':=t) Un.refl I.hok
theorem Inv.kept {t':Nat} (I:Inv X pz σ H s) (k:∀ b u,s.heap.get? b=some u->h'.get? b=some u):Inv X pz σ H { s with heap:=h',toks:=t' }:=I.un (Un.kept k) (I.hok.kept k)
theorem Inv.laid {t':Nat} (I:Inv X pz σ H s) (k:∀ b u,s.heap.get? b=some u->h'.get? b=some u) (hp:s.heap.objs.size<=a) (new:ObjOk X.prog X.w (upd H a o) h' a o) :
  Inv X pz σ (upd H a o) { s with heap:=h',toks:=t' }:=I.un (Un.laid k hp (I.hok.fresh hp)) (I.hok.laid k hp new)
theorem Inv.write {x e:Qd} {o:HO} {t':Nat} (I:Inv X pz σ H s) (mu:Mut (H x)) (he:e=x\/H e=some (.own x)) (k:∀ b u,b≠e->s.heap.get? b=some u->h'.get? b=some u) (heo:∃ u,h'.get? e=some u)
  (new:ObjOk X.prog X.w (upd H x o) h' x o):Inv X pz σ (upd H x o) { s with heap:=h',toks:=t' }:=I.un (Un.write mu he k heo) (I.hok.write mu he k heo new)
theorem Inv.weak {σ':List (Option V)} (I:Inv X pz σ H s) (hl:σ'.length=σ.length) (w:∀ (i:Nat) v,σ'[i]?=some (some v)->σ[i]?=some (some v)):Inv X pz σ' H s :=
 ⟨I.ok,I.os,I.bare,I.base,let ⟨m,hn,hl'⟩:=I.loc; ⟨m,hn,λ i x v e1 e2 e3=>hl' i x v e1 (w i v e2) e3⟩,I.cell,I.free,I.freeC,I.pin,I.hok,hl.trans I.len⟩
theorem Inv.pins_of {pins':List (Qd×Obj)} (I:Inv X pz σ H s) (h:∀ p∈pins',s.heap.get? p.1=some p.2/\H p.1=none/\p.1≠X.env.locals/\p.1∉X.fs/\∀ v,p.2.data≠.cell v):Inv X pins' σ H s :=
 ⟨I.ok,I.os,I.bare,I.base,I.loc,I.cell,I.free,I.freeC,λ p hp=>(Q6.mp hp).elim (λ z=>I.pin p (Ru _ z)) (h p),I.hok,I.len⟩
theorem Dk {N:List Str} (hN:N.Nodup) (a:N[i]?=some x) (b:N[j]?=some x):i=j:=by
 obtain ⟨h1,e1⟩:=PR.mp a;obtain ⟨h2,e2⟩:=PR.mp b;exact (List.getElem_inj hN).mp (e1.trans e2.symm)
theorem Bg {M:Model} {A:QI} {E:PP->PQ->Prop} {v:V} {Q:Unit->PQ->Prop} (I:Inv X pz σ H s) (hN:X.N.Nodup) (hi:X.N[i]?=some x) (hx:Loc X.env.scope x) (r:RelV v u)
  (h:∀ s',Inv X pz (σ.set i (some v)) H s'->(∃ a,Heap.SameBut a s.heap s'.heap/\(a=X.env.locals\/X.env.cells.lookup x=some a))->Q () s') (hf:X.fn x=true\/X.env.scope.names.lookup x=some .local:=by first | exact .inl rfl | exact .inr rfl | assumption):Qs M A (storeName X.env x u) Q E s:=by
 obtain ⟨m,hn,hl⟩:=id I.loc;have hcls:(X.env.scope.kind==.class||(X.env.scope.kind==.module&&X.env.locals != X.env.globals))=false:=by rw [I.ok.kind]; rfl
 have hiσ:i < σ.length:=by rw [I.len]; exact (PR.mp hi).1
 have cne:=I.cne;have tracked:∀ {a:Qd} {h':Heap},(∃ o,s.heap.get? a=some o/\H a=none)->Heap.SameBut a s.heap h'->HOk X.prog X.w H h':=λ {a h'} ha hs b ob e=>by
  obtain ⟨_,_,hfree⟩:=ha;refine (I.hok b ob e).stay (λ c w' hc q=>(hs.2 c ?_).trans q) (λ _ q=>q) λ _ _ q=>q
  rintro rfl
  rcases hc with rfl | hc
  ·rw [hfree] at e; cases e
  ·rw [hfree] at hc; cases hc
 rcases hx with hk | hk
 ·refine wpAny_storeName_local hk hn (λ h' hn' hs=>?_) hcls;obtain ⟨oL,_,_,hoL,_⟩:=id hn;refine h _ ⟨I.ok,I.os,I.bare,⟨λ b o e n hb hx=>?_,λ b o e n hb hx=>?_,I.base.free,λ b o e hx=>?_,I.base.tups,I.base.frzs,I.base.tbls⟩,⟨_,hn',λ j y v' e1 e2 e3=>?_⟩,λ y c e=>?_,I.free,I.freeC,λ p hp=>?_,tracked ⟨oL,hoL,I.free⟩ hs,by simpa using I.len⟩ ⟨_,hs,.inl rfl⟩
  ·exact (hs.2 b (Qm (P5 (Qb e) I.ok.above))).trans (I.base.keep b o e n hb hx)
  ·obtain ⟨sl,e1⟩:=I.base.slot b o e n hb hx;exact ⟨sl,(hs.2 b (Qm (P5 (Qb e) I.ok.above))).trans e1⟩
  ·obtain ⟨o',e1⟩:=I.base.there b o e hx;exact ⟨o',(hs.2 b (Qm (P5 (Qb e) I.ok.above))).trans e1⟩
  ·by_cases hj:j=i
   ·subst hj;rw [hi] at e1; cases e1;rw [PY hiσ] at e2;cases e2;exact ⟨u,r,.inl ⟨hk,by simp⟩⟩
   ·rw [PK (Ne.symm hj)] at e2;obtain ⟨u',r',q⟩:=hl j y v' e1 e2 e3;refine ⟨u',r',?_⟩;rcases q with ⟨k,e⟩ | ⟨k,c,e,z⟩
    ·refine .inl ⟨k,?_⟩
     have:y≠x:=λ e=>hj (Dk hN e1 (e ▸ hi))
     simp [this,e]
    ·exact .inr ⟨k,c,e,z.sameBut hs (cne y c e)⟩
  ·obtain ⟨w',z⟩:=I.cell y c e;exact ⟨w',z.sameBut hs (cne y c e)⟩
  ·obtain ⟨e,n,ne,nf,d⟩:=I.pin p hp;exact ⟨(hs.2 p.1 ne).trans e,n,ne,nf,d⟩
 ·have hfn:X.fn x=true:=by
   rcases hf with z | z
   ·exact z
   ·rw [z] at hk; cases hk
  obtain ⟨c,hc⟩:=I.ok.has x (.inl hk);obtain ⟨w',z⟩:=I.cell x c hc;refine wpAny_storeName_cell I.ok.kind hk hc z (λ h' hc' hs=>?_);obtain ⟨oc,hoc,hocd⟩:=id z;refine h { s with heap:=h' } ⟨I.ok,I.os,I.bare,⟨λ b o e n hb hx=>?_,λ b o e n hb hx=>?_,I.base.free,λ b o e hx=>?_,I.base.tups,I.base.frzs,I.base.tbls⟩,⟨m,hn.sameBut hs (Ne.symm (cne x c hc)),λ j y v' e1 e2 e3=>?_⟩,λ y c' e=>?_,I.free,I.freeC,λ p hp=>?_,tracked ⟨oc,hoc,I.freeC x c hc⟩ hs,by simpa using I.len⟩ ⟨c,hs,.inr hc⟩
  ·exact (hs.2 b (Qm (P5 (Qb e) (I.ok.cab x c hfn hc)))).trans (I.base.keep b o e n hb hx)
  ·obtain ⟨sl,e1⟩:=I.base.slot b o e n hb hx;exact ⟨sl,(hs.2 b (Qm (P5 (Qb e) (I.ok.cab x c hfn hc)))).trans e1⟩
  ·obtain ⟨o',e1⟩:=I.base.there b o e hx;exact ⟨o',(hs.2 b (Qm (P5 (Qb e) (I.ok.cab x c hfn hc)))).trans e1⟩
  ·by_cases hj:j=i
   ·subst hj;rw [hi] at e1; cases e1;rw [PY hiσ] at e2;cases e2;exact ⟨u,r,.inr ⟨.inl hk,c,hc,hc'⟩⟩
   ·rw [PK (Ne.symm hj)] at e2;obtain ⟨u',r',q⟩:=hl j y v' e1 e2 e3;refine ⟨u',r',?_⟩;rcases q with q | ⟨k,c',e,z'⟩
    ·exact .inl q
    ·refine .inr ⟨k,c',e,z'.sameBut hs ?_⟩
     rintro rfl
     exact hj (Dk hN e1 (I.ok.inj _ _ _ e hc ▸ hi))
  ·by_cases hcc:c'=c
   ·subst hcc; exact ⟨_,hc'⟩
   ·obtain ⟨w2,z2⟩:=I.cell y c' e;exact ⟨w2,z2.sameBut hs hcc⟩
  ·obtain ⟨e,n,ne,nf,d⟩:=I.pin p hp;refine ⟨(hs.2 p.1 ?_).trans e,n,ne,nf,d⟩;intro q;rw [q,hoc] at e;have q':oc=p.2:=Option.some.inj e;exact d w' (by rw [<- q']; exact hocd)
theorem zt {M:Model} {A:QI} {E:PP->PQ->Prop} {v:V} {Q:Unit->PQ->Prop} (I:Inv X pz σ H s) (hN:X.N.Nodup) (hi:X.N[i]?=some x) (hx:Loc X.env.scope x) (r:RelV v u)
  (h:∀ s',Inv X pz (σ.set i (some v)) H s'->Q () s') (hf:X.fn x=true\/X.env.scope.names.lookup x=some .local:=by first | exact .inl rfl | exact .inr rfl | assumption):Qs M A (storeName X.env x u) Q E s :=
 Bg I hN hi hx r (λ s' I' _=>h s' I') hf
theorem Inv.call' {s':PQ} {ch:List Qd} (I:Inv X pz σ H s) (ho:s'.os=s.os) (u:Un (frs X.stack) ch H H' s.heap s'.heap) (hok:HOk X.prog X.w H' s'.heap) (hg:AllBare s'.gens)
  (hch:∀ b∈ch,(b∈X.ex\/X.s₀.heap.objs.size<=b)/\b≠X.env.locals/\(∀ x c,X.env.cells.lookup x=some c->c≠b)/\∀ p∈X.pn++pz,p.1≠b):Inv X pz σ H' s':=by
 obtain ⟨h',g',d',t',o'⟩:=s';have e:o'=s.os:=ho;subst e;exact I.call (g':=g') (t':=t') (d':=d') u hok hg hch
end
abbrev XK:=PP->Option Qd->Hp->Prop
abbrev St:=List (Option V)
variable {σ:St}
abbrev VK:=V->Hp->Prop
abbrev TE:=St->Hp->VK->Prop
abbrev TT:=St->Hp->(Bool->Hp->Prop)->Prop
abbrev TA:=St->Hp->(List V->Hp->Prop)->Prop
structure Ends where
 nx:St->Hp->Prop
 rt:VK
 bk:St->Hp->Prop:=λ _ _=>False
 ct:St->Hp->Prop:=λ _ _=>False
abbrev TS:=Ends->St->Hp->Prop
def EP (X:Cx) (pz:List (Qd×Obj)) (σ:St) (Q:VK) (u:PP) (s':PQ):Prop:=∃ v H',Inv X pz σ H' s'/\RelV v u/\Q v H'
def TP (X:Cx) (pz:List (Qd×Obj)) (σ:St) (Q:Bool->Hp->Prop) (b:Bool) (s':PQ):Prop:=∃ H',Inv X pz σ H' s'/\Q b H'
def AP (X:Cx) (pz:List (Qd×Obj)) (σ:St) (Q:List V->Hp->Prop) (us:List PP) (s':PQ):Prop:=∃ vs H',Inv X pz σ H' s'/\Vals vs us/\Q vs H'
def SP (X:Cx) (pz:List (Qd×Obj)) (D:Ends) (f:Flow) (s':PQ):Prop :=
 match f with
 | .next=>∃ σ' H',Inv X pz σ' H' s'/\D.nx σ' H'
 | .brk=>∃ σ' H',Inv X pz σ' H' s'/\D.bk σ' H'
 | .cont=>∃ σ' H',Inv X pz σ' H' s'/\D.ct σ' H'
 | .ret u=>∃ v σ' H',Inv X pz σ' H' s'/\RelV v u/\D.rt v H'
def PE (X:Cx) (e:Expr) (t:TE):Prop :=
 ∀ (pz:List (Qd×Obj)) (s:PQ) (σ:St) (H:Hp) (Q:VK),Inv X pz σ H s->t σ H Q->Qs (Qq X.prog X.w) X.A (eval e X.env) (EP X pz σ Q) X.xe s
def PT (X:Cx) (e:Expr) (t:TT):Prop :=
 ∀ (pz:List (Qd×Obj)) (s:PQ) (σ:St) (H:Hp) (Q:Bool->Hp->Prop),Inv X pz σ H s->t σ H Q->Qs (Qq X.prog X.w) X.A (isTrue e X.env (eval e X.env)) (TP X pz σ Q) X.xe s
def PW (X:Cx) (e:Expr) (t:TT):Prop :=
 ∀ (whole:Sem PP) (pz:List (Qd×Obj)) (s:PQ) (σ:St) (H:Hp) (Q:Bool->Hp->Prop),Inv X pz σ H s->t σ H Q->Qs (Qq X.prog X.w) X.A (isTrue e X.env whole) (TP X pz σ Q) X.xe s
theorem PW.pt {t:TT} (h:PW X e t):PT X e t:=h _
def PA (X:Cx) (es:List Expr) (t:TA):Prop :=
 ∀ (pos:Pos) (pz:List (Qd×Obj)) (s:PQ) (σ:St) (H:Hp) (Q:List V->Hp->Prop),Inv X pz σ H s->t σ H Q->Qs (Qq X.prog X.w) X.A (spliced (backTo pos (PX es X.env))) (AP X pz σ Q) X.xe s
def PS (X:Cx) (st:Stmt) (t:TS):Prop :=
 ∀ (pz:List (Qd×Obj)) (s:PQ) (σ:St) (H:Hp) (D:Ends),Inv X pz σ H s->t D σ H->Qs (Qq X.prog X.w) X.A (exec st X.env) (SP X pz D) X.xe s
def PSs (X:Cx) (st:List Stmt) (t:TS):Prop :=
 ∀ (pz:List (Qd×Obj)) (s:PQ) (σ:St) (H:Hp) (D:Ends),Inv X pz σ H s->t D σ H->Qs (Qq X.prog X.w) X.A (execs st X.env) (SP X pz D) X.xe s
theorem thn {α:Type} {t:Sem α} {Q Q':α->PQ->Prop} {A:QI} {E:PP->PQ->Prop} {s:PQ} (h:Qs M A t Q E s) (hQ:∀ a s,Q a s->Q' a s):Qs M A t Q' E s:=wpAny_mono h hQ λ _ _ x=>x
section
variable {X:Cx}
def Hh (i:Nat):TE:=λ σ H Q=>∃ v,σ[i]?=some (some v)/\Q v H
def tC (v:V):TE:=λ _ H Q=>Q v H
theorem qT {pos:Pos} (hN:X.N[i]?=some x) (hv:Vis X.env.scope x) (hd:Nd x:=by decide) (hcd:(x==("__classdict__" : Str))=false:=by decide):PE X (.Name x pos) (Hh i):=by
 intro pz s σ H Q I h;obtain ⟨v,e,h⟩:=h;obtain ⟨m,hn,hl⟩:=I.loc;obtain ⟨u,r,l⟩:=hl i x v hN e hv;have fin:EP X pz σ Q u s:=⟨v,H,I,r,h⟩;rcases l with ⟨hk,hm⟩ | ⟨hk,c,hc,hcell⟩
 ·exact wpAny_Name (wpAny_loadName_local I.ok.kind hk hn hm fin) hd
 ·rcases hk with hk | hk
  ·exact wpAny_Name (wpAny_loadName_cell I.ok.kind hk hc hcell fin) hd
  ·exact wpAny_Name (wpAny_loadName_free I.ok.kind hk hc hcell fin hcd) hd
theorem HL {i j pos}:PE X (.Constant (.int i) j pos) (tC (.int i)):=λ _ _ _ H _ I h=>wpAny_Constant_int ⟨.int i,H,I.tok _,⟨_,rfl⟩,h⟩
theorem HS {b j pos}:PE X (.Constant (.bool b) j pos) (tC (.bl b)):=λ _ _ _ H _ I h=>Constant_bool ⟨.bl b,H,I,rfl,h⟩
theorem Mm {j pos}:PE X (.Constant .none j pos) (tC .non):=λ _ _ _ H _ I h=>Constant_none ⟨.non,H,I,rfl,h⟩
theorem Er {x j pos}:PE X (.Constant (.str x) j pos) (tC (.str x)):=λ _ _ _ H _ I h=>Calls.Constant_str ⟨.str x,H,I.tok _,⟨_,rfl⟩,h⟩
def Gl (X:Cx) (x:Str):Prop:=X.env.kindOf x=some .globalImplicit
theorem qy {E:PP->PQ->Prop} {s:PQ} {pos:Pos} {Q:PP->PQ->Prop} (I:Inv X pz σ H s) (hg:Gl X x) (hm:X.mg x=some u) (h:Q u s)
  (hd:Nd x:=by decide):Qs (Qq X.prog X.w) X.A (eval (.Name x pos) X.env) Q E s :=
 Calls.Name_function_global I.ok.kind hg (Calls.loadGlobal_global (by rw [I.ok.glob]; exact I.mod.glob.keeps I.bk) hm h) hd
theorem uv {E:PP->PQ->Prop} {s:PQ} {pos:Pos} {Q:PP->PQ->Prop} (I:Inv X pz σ H s) (hg:Gl X x) (hm:X.mg x=none) (hv:bootBuiltins x=some u) (h:Q u s)
  (hn:x ≠ "__name__" := by decide) (hd:Nd x:=by decide):Qs (Qq X.prog X.w) X.A (eval (.Name x pos) X.env) Q E s:=by
 obtain ⟨mb,h1,h2⟩:=I.mod.blt;exact Calls.Name_function_global I.ok.kind hg (Calls.loadGlobal_builtin (by rw [I.ok.glob]; exact I.mod.glob.keeps I.bk) hm (by rw [I.ok.blt]; exact h1.keeps I.bk) ((h2 x hn).trans hv) h) hd
theorem FE {v:V} {pos:Pos} (hg:Gl X x) (hm:X.mg x=some u) (r:RelV v u) (hd:Nd x:=by decide):PE X (.Name x pos) (tC v) :=
 λ _ _ _ H _ I h=>qy I hg hm ⟨v,H,I,r,h⟩ hd
theorem J6 {v:V} {pos:Pos} (hg:Gl X x) (hm:X.mg x=none) (hv:bootBuiltins x=some u) (r:RelV v u) (hn:x ≠ "__name__" := by decide) (hd:Nd x:=by decide):PE X (.Name x pos) (tC v) :=
 λ _ _ _ H _ I h=>uv I hg hm hv ⟨v,H,I,r,h⟩ hn hd
variable {a b:Expr} {ta tb:TE} {pos:Pos}
def tB (t:TE):TT:=λ σ H Q=>t σ H λ x H1=>∃ c,x=.bl c/\Q c H1
theorem El {t:TE} (h:PE X e t) (he:∀ whole,isTrue e X.env whole=(do let v <- whole; standAt e.pos; holding [v] (truthy v)):=by intro _; rfl):PT X e (tB t):=by
 intro pz s σ H Q I hw;refine isTrue_plain (thn (h pz s σ H _ I hw) λ v s1 ⟨x,H1,I1,r1,q1⟩=>?_) (he _);obtain ⟨d,rfl,q⟩:=q1;cases r1;exact wpAny_truthy_bool ⟨H1,I1,q⟩
variable {tA tB':TT} {rest:List Expr}
def O0 (t u:TT):TT:=λ σ H Q=>t σ H λ c H1=>if c=true then u σ H1 Q else Q false H1
def tOr (t u:TT):TT:=λ σ H Q=>t σ H λ c H1=>if c=true then Q true H1 else u σ H1 Q
def NH (t:TT):TT:=λ σ H Q=>t σ H λ c H1=>Q (!c) H1
theorem pw_and1 (ha:PT X a tA):PW X (.BoolOp .And [a] pos) tA:=by
 intro wh pz s σ H Q I h;refine isTrue_and (thn (ha pz s σ H Q I h) λ c s1 e=>?_);cases c with
 | true=>exact isTrue_and_nil e
 | false=>exact e
theorem pw_or1 (ha:PT X a tA):PW X (.BoolOp .Or [a] pos) tA:=by
 intro wh pz s σ H Q I h;refine isTrue_or (thn (ha pz s σ H Q I h) λ c s1 e=>?_);cases c with
 | false=>exact isTrue_or_nil e
 | true=>exact e
theorem pw_and (ha:PT X a tA) (hb:PW X (.BoolOp .And (b::rest) pos) tB'):PW X (.BoolOp .And (a::b::rest) pos) (O0 tA tB'):=by
 intro wh pz s σ H Q I h;refine isTrue_and (thn (ha pz s σ H _ I h) λ c s1 ⟨H1,I1,q1⟩=>?_);cases c with
 | true=>exact hb wh pz s1 σ H1 Q I1 q1
 | false=>exact ⟨H1,I1,q1⟩
theorem pw_or (ha:PT X a tA) (hb:PW X (.BoolOp .Or (b::rest) pos) tB'):PW X (.BoolOp .Or (a::b::rest) pos) (tOr tA tB'):=by
 intro wh pz s σ H Q I h;refine isTrue_or (thn (ha pz s σ H _ I h) λ c s1 ⟨H1,I1,q1⟩=>?_);cases c with
 | true=>exact ⟨H1,I1,q1⟩
 | false=>exact hb wh pz s1 σ H1 Q I1 q1
theorem Em (ha:PT X a tA):PT X (.UnaryOp .Not a pos) (NH tA):=by
 intro pz s σ H Q I h;exact isTrue_not (ha pz s σ H (λ c H1=>Q (!c) H1) I h)
def NM (ta tb:TE):TE:=λ σ H Q=>ta σ H λ x H1=>∃ c,x=.bl c/\if c=true then tb σ H1 Q else Q (.bl false) H1
def NG (ta:TE):TE:=λ σ H Q=>ta σ H λ x H1=>∃ c,x=.bl c/\Q (.bl (!c)) H1
theorem HH {op} {t:TE} (h:PE X a t):PE X (.BoolOp op [a] pos) t:=λ pz s σ H Q I hw=>BoolOp_one (h pz s σ H Q I hw)
theorem HU (ha:PE X a ta) (hb:PE X (.BoolOp .And (b::rest) pos) tb):PE X (.BoolOp .And (a::b::rest) pos) (NM ta tb):=by
 intro pz s σ H Q I h;refine BoolOp_and (thn (ha pz s σ H _ I h) λ v s1 ⟨x,H1,I1,r1,q1⟩=>?_);obtain ⟨c,rfl,q1⟩:=q1;cases r1;refine wpAny_truthy_bool ?_;cases c with
 | true=>exact hb pz s1 σ H1 Q I1 q1
 | false=>exact ⟨.bl false,H1,I1,rfl,q1⟩
theorem Ml (ha:PE X a ta):PE X (.UnaryOp .Not a pos) (NG ta):=by
 intro pz s σ H Q I h;refine UnaryOp_ (thn (ha pz s σ H _ I h) λ v s1 ⟨x,H1,I1,r1,q1⟩=>?_);obtain ⟨c,rfl,q1⟩:=q1;cases r1;exact not_of (wpAny_truthy_bool ⟨.bl (!c),H1,I1,rfl,q1⟩)
def tIf (t:TT) (ta tb:TE):TE:=λ σ H Q=>t σ H λ c H1=>if c=true then ta σ H1 Q else tb σ H1 Q
theorem Dd (hc:PT X c tA) (ha:PE X a ta) (hb:PE X b tb):PE X (.IfExp c a b pos) (tIf tA ta tb):=by
 intro pz s σ H Q I h;refine wpAny_IfExp (thn (hc pz s σ H _ I h) λ d s1 ⟨H1,I1,q1⟩=>?_);cases d with
 | true=>exact ha pz s1 σ H1 Q I1 q1
 | false=>exact hb pz s1 σ H1 Q I1 q1
end
def SqL (K:PH) (H:Hp) (a:Qd) (xs:List V):Prop :=
 Rd H a (.lst xs) \/
  ∃ (o:Obj) (its:Array PP) (n:Nat),K.lookup a=some o/\o.cls=.type "list" /\ o.dict=none/\o.data=.seq its n/\its.size<=P4/\Vals xs its.toList
def SqT (K:PH) (H:Hp) (a:Qd) (xs:List V):Prop :=
 Rd H a (.tup xs) \/
  ∃ (o:Obj) (its:Array PP) (n:Nat),K.lookup a=some o/\o.cls=.type "tuple" /\ o.data=.seq its n/\its.size<=P4/\Vals xs its.toList
def Px:PP->Option V
 | .none=>some .non
 | .bool b=>some (.bl b)
 | .int i _=>some (.int i)
 | .str x _=>some (.str x)
 | .bytes b _=>some (.byt b)
 | .float b _=>some (.flt b)
 | .ref a=>some (.ref a)
 | .type n=>some (.ty n)
 | _=>none
theorem RelV.abs {x:V} (r:RelV x u):Px u=some x:=by
 cases x with
 | non=>cases r; rfl
 | bl _=>cases r; rfl
 | int _=>obtain ⟨t,rfl⟩:=r; rfl
 | str _=>obtain ⟨t,rfl⟩:=r; rfl
 | byt _=>obtain ⟨t,rfl⟩:=r; rfl
 | flt _=>obtain ⟨t,rfl⟩:=r; rfl
 | ref _=>cases r; rfl
 | ty _=>cases r; rfl
theorem RelV.inj {x:V} (r:RelV x u) (q:RelV y u):x=y:=Option.some.inj (r.abs.symm.trans q.abs)
theorem Vals.inj:∀ {xs ys:List V} {us:List PP},Vals xs us->Vals ys us->xs=ys
 | _,_,_,.nil,.nil=>rfl
 | _,_,_,.cons r t,.cons r' t'=>by rw [r.inj r',Vals.inj t t']
section
variable {X:Cx} {pz:List (Qd×Obj)} {σ:St} {H:Hp} {s:PQ} {a:Qd} {xs ys:List V}
theorem SqL.of (h:H a=some (.lst xs)):SqL K H a xs:=.inl (.inl h)
theorem SqT.of (h:H a=some (.tup xs)):SqT K H a xs:=.inl (.inl h)
theorem Inv.list (I:Inv X pz σ H s) (h:SqL X.K H a xs):∃ its:List PP,Vals xs its/\PlainL s.heap a its.toArray/\xs.length<=P4:=by
 rcases h with h | ⟨o,its,n,hk,hc,hd,hs,hz,r⟩
 ·obtain ⟨z,its,n,r,e⟩:=h.ok I.hok;exact ⟨its,r,⟨_,n,e,rfl,rfl,rfl⟩,z⟩
 ·refine ⟨its.toList,r,⟨o,n,I.kIn a o hk,hc,hd,by simpa using hs⟩,?_⟩;have e:=r.length;simp only [Array.length_toList] at e;omega
theorem Inv.tuple (I:Inv X pz σ H s) (h:SqT X.K H a xs):∃ its:List PP,Vals xs its/\IsTup s.heap a its.toArray/\xs.length<=P4:=by
 rcases h with h | ⟨o,its,n,hk,hc,hs,hz,r⟩
 ·obtain ⟨z,its,r,p⟩:=h.ok I.hok;exact ⟨its,r,p,z⟩
 ·refine ⟨its.toList,r,⟨o,I.kIn a o hk,hc,n,by simpa using hs⟩,?_⟩;have e:=r.length;simp only [Array.length_toList] at e;omega
theorem Inv.list_inj (I:Inv X pz σ H s) (h:SqL X.K H a xs) (h':SqL X.K H a ys):xs=ys:=by
 obtain ⟨its,r,⟨o,n,e,_,_,d⟩,_⟩:=I.list h;obtain ⟨its',r',⟨o',n',e',_,_,d'⟩,_⟩:=I.list h';rw [e] at e'; cases e';rw [d] at d';injection d' with d1 _
 have:its=its':=by simpa using congrArg Array.toList d1
 subst this;exact r.inj r'
theorem Inv.tuple_inj (I:Inv X pz σ H s) (h:SqT X.K H a xs) (h':SqT X.K H a ys):xs=ys:=by
 obtain ⟨its,r,⟨o,e,_,n,d⟩,_⟩:=I.tuple h;obtain ⟨its',r',⟨o',e',_,n',d'⟩,_⟩:=I.tuple h';rw [e] at e'; cases e';rw [d] at d';injection d' with d1 _
 have:its=its':=by simpa using congrArg Array.toList d1
 subst this;exact r.inj r'
end
abbrev Cx.wish (X:Cx) (E:PP->PQ->Prop):Cx:={ X with xe:=E }
abbrev Cx.nox (X:Cx):Cx:=X.wish λ _ _=>False
theorem Cx.Ok.wish (ok:X.Ok) (E:PP->PQ->Prop):(X.wish E).Ok :=
 ⟨ok.mod,ok.kind,ok.glob,ok.blt,ok.above,ok.inj,ok.has,ok.cab,ok.hd,ok.frames,ok.stk,ok.exf,ok.bs,ok.bsz,ok.noex,ok.exfs,ok.funs,ok.frf⟩
theorem Cx.Ok.unwish {E:PP->PQ->Prop} (ok:(X.wish E).Ok):X.Ok :=
 ⟨ok.mod,ok.kind,ok.glob,ok.blt,ok.above,ok.inj,ok.has,ok.cab,ok.hd,ok.frames,ok.stk,ok.exf,ok.bs,ok.bsz,ok.noex,ok.exfs,ok.funs,ok.frf⟩
section
variable {X:Cx} {pz:List (Qd×Obj)} {σ:St} {H:Hp} {s:PQ} {E:PP->PQ->Prop}
theorem Inv.wish (I:Inv X pz σ H s) (E:PP->PQ->Prop):Inv (X.wish E) pz σ H s:=⟨I.ok.wish E,I.os,I.bare,I.base,I.loc,I.cell,I.free,I.freeC,I.pin,I.hok,I.len⟩
theorem Inv.unwish (I:Inv (X.wish E) pz σ H s):Inv X pz σ H s:=⟨I.ok.unwish,I.os,I.bare,I.base,I.loc,I.cell,I.free,I.freeC,I.pin,I.hok,I.len⟩
theorem SP.unwish {D:Ends} {f:Flow} {s':PQ} (h:SP (X.wish E) pz D f s'):SP X pz D f s':=by
 cases f with
 | next=>obtain ⟨σ',H',I,q⟩:=h; exact ⟨σ',H',I.unwish,q⟩
 | brk=>obtain ⟨σ',H',I,q⟩:=h; exact ⟨σ',H',I.unwish,q⟩
 | cont=>obtain ⟨σ',H',I,q⟩:=h; exact ⟨σ',H',I.unwish,q⟩
 | ret u=>obtain ⟨v,σ',H',I,r,q⟩:=h; exact ⟨v,σ',H',I.unwish,r,q⟩
theorem PSs.nox {st:List Stmt} {t:TS} (h:PSs X.nox st t):PSs X st t:=λ pz s σ H D I hw =>
 wpAny_mono (h pz s σ H D (I.wish _) hw) (λ _ _ q=>q.unwish) λ _ _ z=>False.elim z
end
section
variable {X:Cx} {st:Stmt} {rest:List Stmt} {t u:TS} {e:Expr} {te:TE} {pos:Pos}
def Lf:TS:=λ D σ H=>D.nx σ H
def JD (t u:TS):TS:=λ D σ H=>t { D with nx:=u D } σ H
theorem BQ:PSs X [] Lf:=λ _ _ σ H _ I h=>wpAny_execs_nil ⟨σ,H,I,h⟩
theorem oi (h1:PS X st t) (h2:PSs X rest u):PSs X (st::rest) (JD t u):=by
 intro pz s σ H D I h;refine wpAny_execs_cons (thn (h1 pz s σ H { D with nx:=u D } I h) λ f s1 q=>?_);cases f with
 | next =>
  obtain ⟨σ',H',I',q⟩:=q;exact h2 pz s1 σ' H' D I' q
 | ret v=>exact q
 | brk=>exact q
 | cont=>exact q
theorem za (h1:PS X st t):PSs X [st] t:=by
 intro pz s σ H D I h;refine wpAny_execs_cons (thn (h1 pz s σ H D I h) λ f s1 q=>?_);cases f with
 | next=>exact wpAny_execs_nil q
 | ret v=>exact q
 | brk=>exact q
 | cont=>exact q
def L7:TS:=λ D σ H=>D.bk σ H
theorem HD:PS X (.Break pos) L7:=λ _ _ σ H _ I h=>wpAny_Break ⟨σ,H,I,h⟩
theorem Inv.quiet {s:PQ} (I:Inv X pz σ H s):interactive X.env=false:=by simp [interactive,I.ok.kind]
def NJ (te:TE):TS:=λ D σ H=>te σ H λ _ H1=>D.nx σ H1
theorem zb (he:PE X e te) (hs:swapsWith e none pos.line X.env=pure false:=by rfl):PS X (.Expr e pos) (NJ te):=by
 intro pz s σ H D I h;exact wpAny_Expr_any (thn (he pz s σ H _ I h) λ v s1 ⟨x,H1,I1,r1,q1⟩=>⟨σ,H1,I1,q1⟩) I.quiet hs
def NE (te:TE):TS:=λ D σ H=>te σ H D.rt
theorem xH (he:PE X e te):PS X (.Return (some e) pos) (NE te):=by
 intro pz s σ H D I h;exact wpAny_Return_some (thn (he pz s σ H _ I h) λ v s1 ⟨x,H1,I1,r1,q1⟩=>⟨x,σ,H1,I1,r1,q1⟩)
def NI (c:TT) (t u:TS):TS:=λ D σ H=>c σ H λ b H1=>if b=true then t D σ H1 else u D σ H1
theorem HB {a b:List Stmt} {tc:TT} (hc:PT X c tc) (ha:PSs X a t) (hb:PSs X b u):PS X (.If c a b pos) (NI tc t u):=by
 intro pz s σ H D I h;refine wpAny_If (thn (hc pz s σ H _ I h) λ d s1 ⟨H1,I1,q1⟩=>?_);cases d with
 | true=>exact ha pz s1 σ H1 D I1 q1
 | false=>exact hb pz s1 σ H1 D I1 q1
def LY:TS:=λ _ _ _=>False
theorem HA:PS X st LY:=λ _ _ _ _ _ _ h=>h.elim
end
abbrev TG:=V->St->Hp->(St->Hp->Prop)->Prop
abbrev TGs:=List V->St->Hp->(St->Hp->Prop)->Prop
def PG (X:Cx) (target:Expr) (t:TG):Prop :=
 ∀ (pz:List (Qd×Obj)) (s:PQ) (σ:St) (H:Hp) (v:V) (u:PP) (Q:St->Hp->Prop),Inv X pz σ H s->RelV v u->t v σ H Q ->
  Qs (Qq X.prog X.w) X.A (assign target X.env u) (λ _ s'=>∃ σ' H',Inv X pz σ' H' s'/\Q σ' H') X.xe s
def PGs (X:Cx) (ts:List Expr) (t:TGs):Prop :=
 ∀ (pz:List (Qd×Obj)) (s:PQ) (σ:St) (H:Hp) (vs:List V) (us:List PP) (Q:St->Hp->Prop),Inv X pz σ H s->Vals vs us->t vs σ H Q ->
  Qs (Qq X.prog X.w) X.A (assignInOrder ((assignEach ts X.env).map (·.2)) us) (λ _ s'=>∃ σ' H',Inv X pz σ' H' s'/\Q σ' H') X.xe s
section
variable {X:Cx} {pos:Pos}
def xj (i:Nat):TG:=λ v σ H Q=>Q (σ.set i (some v)) H
theorem dR (hN:X.N.Nodup) (hi:X.N[i]?=some x) (hx:Loc X.env.scope x) (hf:X.fn x=true\/X.env.scope.names.lookup x=some .local:=by first | exact .inl rfl | exact .inr rfl | assumption):PG X (.Name x pos) (xj i):=by
 intro pz s σ H v u Q I r h;exact wpAny_assign_Name (zt I hN hi hx r (λ s' I'=>⟨_,H,I',h⟩) hf)
def Ov:TGs:=λ vs σ H Q=>vs=[]/\Q σ H
def LC (t:TG) (u:TGs):TGs:=λ vs σ H Q=>∃ v r,vs=v::r/\t v σ H λ σ' H'=>u r σ' H' Q
theorem uV:PGs X [] Ov:=by
 intro pz s σ H vs us Q I r h;obtain ⟨e,h⟩:=h;subst e;cases r;exact assignInOrder_nil ⟨σ,H,I,h⟩
theorem jv {es:List Expr} {t:TG} {u:TGs} (h1:PG X e t) (h2:PGs X es u)
  (hs:(assignEach (e::es) X.env).map (·.2)=assign e X.env::(assignEach es X.env).map (·.2):=by rfl):PGs X (e::es) (LC t u):=by
 intro pz s σ H vs us Q I r h;obtain ⟨v,vr,e1,h⟩:=h;subst e1;cases r with
 | cons r rr =>
  rw [hs];refine assignInOrder_cons (thn (h1 pz s σ H _ _ _ I r h) λ _ s1 ⟨σ1,H1,I1,q1⟩=>?_);exact h2 pz s1 σ1 H1 _ _ Q I1 rr q1
def Ou (K:PH) (n:Nat) (t:TGs):TG:=λ v σ H Q=>∃ a xs,v=.ref a/\SqT K H a xs/\xs.length=n/\t xs σ H Q
theorem xI {es:List Expr} {k:Nat} {t:TGs} {n:Nat} (hc:X.calm=true) (h:PGs X es t)
  (hn:(assignEach es X.env).length=n:=by rfl) (hst:(assignEach es X.env).findIdx? (·.1)=none:=by rfl):PG X (.Tuple es k pos) (Ou X.K n t):=by
 intro pz s σ H v u Q I r hw;obtain ⟨a,xs,e1,hq,hl,hw⟩:=hw;subst e1;cases r;obtain ⟨its,rv,ht,hz⟩:=I.tuple hq;refine assign_Tuple_tuple (I.ok.hd hc) ht (by simp [hn,<- hl,rv.length]) hst λ h' hx=>?_;have I1:Inv X pz σ H { s with heap:=h' }:=I.kept (t':=s.toks) λ b o e=>hx b o (Qm (Qb e)) e;exact h pz _ σ H xs _ Q I1 (by simpa using rv) hw
def Gp (te:TE) (g:TG):TS:=λ D σ H=>te σ H λ x H1=>g x σ H1 D.nx
theorem zI {te:TE} {pos':Pos} (hN:X.N.Nodup) (hi:X.N[i]?=some x) (hx:Loc X.env.scope x) (he:PE X e te) (hs:swapsWith e (some (.Name x pos')) pos.line X.env=pure false:=by rfl) (hf:X.fn x=true\/X.env.scope.names.lookup x=some .local:=by first | exact .inl rfl | exact .inr rfl | assumption) :
  PS X (.Assign [.Name x pos'] e pos) (Gp te (xj i)):=by
 intro pz s σ H D I h;refine wpAny_Assign_Name (thn (he pz s σ H _ I h) λ v s1 ⟨y,H1,I1,r1,q1⟩=>?_) hs;exact zt I1 hN hi hx r1 (λ s2 I2=>⟨_,H1,I2,q1⟩) hf
end
section
variable {X:Cx} {pos:Pos}
def LX (c:TT) (tb:TS):TS:=λ D σ H=>∃ W:Nat->St->Hp->Prop,(∃ m,W m σ H)/\∀ m σ H,W m σ H ->
 c σ H λ b H1=>if b=true then ∃ N:St->Hp->Prop,(∀ σ' H',N σ' H'->∃ m',m' < m/\W m' σ' H')/\tb { D with nx:=N,ct:=N,bk:=D.nx } σ H1 else D.nx σ H1
theorem Da {tc:TT} {tb:TS} (hp:PassesOwn (Qq X.prog X.w) X.A X.env X.xe) (hc:PT X c tc) (hb:PSs X body tb):PS X (.While c body [] pos) (LX tc tb):=by
 intro pz s σ H D I h;obtain ⟨W,⟨m0,w0⟩,turn⟩:=h;refine wpAny_While (codeAny_whileLoop (λ n s'=>∃ σ' H',Inv X pz σ' H' s'/\W n σ' H') ?_ m0 ⟨σ,H,I,w0⟩)
 rintro n s1 ⟨σ1,H1,I1,w1⟩
 refine wpAny_passesOwn hp (thn (hc pz s1 σ1 H1 _ I1 (turn n σ1 H1 w1)) λ b s2 ⟨H2,I2,q2⟩=>?_);cases b with
 | true =>
  obtain ⟨N,hN,q2⟩:=q2;rw [if_pos rfl];refine wpAny_passesOwn hp (thn (hb pz s2 σ1 H2 _ I2 q2) λ f s3 q3=>?_);cases f with
  | next =>
   obtain ⟨σ3,H3,I3,n3⟩:=q3;obtain ⟨m',hm,w3⟩:=hN σ3 H3 n3;exact ⟨m',hm,σ3,H3,I3,w3⟩
  | cont =>
   obtain ⟨σ3,H3,I3,n3⟩:=q3;obtain ⟨m',hm,w3⟩:=hN σ3 H3 n3;exact ⟨m',hm,σ3,H3,I3,w3⟩
  | brk=>exact q3
  | ret v=>exact q3
 | false =>
  rw [if_neg PN];exact wpAny_execs_nil ⟨σ1,H2,I2,q2⟩
end
structure It where
 go:Nat->Hp->Prop
 yld:Nat->Hp->V->Hp->Prop
 stop:Nat->Hp->Prop
def uR (X:Cx) (pz:List (Qd×Obj)) (H:Hp) (b:Qd):Prop :=
 H b=none/\b≠X.env.locals/\b∉X.fs/\(b∈X.ex\/X.s₀.heap.objs.size<=b)/\(∀ x c,X.env.cells.lookup x=some c->c≠b)/\∀ p∈X.pn++pz,p.1≠b
theorem Inv.fpOk {H':Hp} {s:PQ} (I:Inv X pz σ H s) (hb:s.heap.objs.size<=b) (hn:H' b=none):uR X pz H' b:=by
 refine ⟨hn,Rq (P5 I.lt hb),I.nofs hb,.inr (Qg I.sz hb),λ x c e z=>?_,λ p hp z=>?_⟩
 ·obtain ⟨v,q⟩:=I.cell x c e;exact absurd (P5 q.lt (by rw [z]; exact hb)) (QY _)
 ·exact absurd (P5 (Qb (I.pin p hp).1) (by rw [z]; exact hb)) (QY _)
structure Turn (P:Ql) (w:World) (K:PH) (tg:Expr) (J:It) (fp:List Qd) (it:Qd) (tn:Nat->Heap->Prop):Prop where
 mem:it∈fp
 obj:∀ i h,tn i h->∀ b∈fp,∃ o,h.get? b=some o/\∀ v,o.data≠.cell v
 keep:∀ i h h',tn i h->(∀ b∈fp,∀ o,h.get? b=some o->h'.get? b=some o)->tn i h'
 item:∀ (X:Cx),X.prog=P->X.w=w->X.K=K->X.calm=true->∀ (i:Nat) (pz:List (Qd×Obj)) (s:PQ) (σ:St) (H:Hp) (E:PP->PQ->Prop),Inv X pz σ H s->(∀ b∈fp,uR X pz H b)->tn i s.heap->J.go i H ->
  Qs (Qq P w) X.A (pyNext (.ref it)) (λ r s1=>∃ u,r=some u /\
   Qs (Qq P w) X.A (letOwnedTupleGo tg (.ref it) u) (λ _ s2=>∃ x H',Inv X pz σ H' s2/\RelV x u/\J.yld i H x H'/\tn (i+1) s2.heap/\∀ b∈fp,H' b=none) E s1) E s
 done:∀ (X:Cx),X.prog=P->X.w=w->X.K=K->X.calm=true->∀ (i:Nat) (pz:List (Qd×Obj)) (s:PQ) (σ:St) (H:Hp) (E:PP->PQ->Prop),Inv X pz σ H s->(∀ b∈fp,uR X pz H b)->tn i s.heap->J.stop i H ->
  Qs (Qq P w) X.A (pyNext (.ref it)) (λ r s1=>r=none/\Inv X pz σ H s1) E s
 self:∀ (A:QI) (i:Nat) (s:PQ) (Q:PP->PQ->Prop) (E:PP->PQ->Prop),tn i s.heap->Q (.ref it) s->Qs (Qq P w) A (pyIter (.ref it)) Q E s
abbrev TI:=St->Hp->(It->Hp->Prop)->Prop
def PIE (X:Cx) (pz:List (Qd×Obj)) (σ:St) (tg:Expr) (R:It->Hp->Prop) (itv:PP) (s2:PQ):Prop :=
 ∃ (it:Qd) (fp:List Qd) (tn:Nat->Heap->Prop) (J:It) (H':Hp),itv=.ref it/\Inv X pz σ H' s2/\Turn X.prog X.w X.K tg J fp it tn/\tn 0 s2.heap/\(∀ b∈fp,uR X pz H' b)/\R J H'
def PI (X:Cx) (tg iter:Expr) (wi:TI):Prop :=
 ∀ (pz:List (Qd×Obj)) (s:PQ) (σ:St) (H:Hp) (R:It->Hp->Prop),Inv X pz σ H s->wi σ H R ->
  Qs (Qq X.prog X.w) X.A (eval iter X.env) (λ v s1=>Qs (Qq X.prog X.w) X.A (pyIter v) (PIE X pz σ tg R) X.xe s1) X.xe s
theorem F6 {M:Model} {A:QI} {E:PP->PQ->Prop} {s:PQ} {tg:Expr} {it:Qd} {u:PP} {o:Obj} {n:String} {vs:Array PP} {Q:Unit->PQ->Prop} (ho:s.heap.get? it=some o) (hc:o.cls=.type n) (hd:o.data=.fields vs)
  (hn:["enumerate", "zip", "dict_itemiterator", "dict_reverseitemiterator", "odict_iterator", "itertools.zip_longest", "itertools.pairwise"].contains n=false) (hQ:Q () s):Qs M A (letOwnedTupleGo tg (.ref it) u) Q E s:=by
 unfold letOwnedTupleGo;cases tg <;> first
  | exact Qe hQ
  | (cases u <;> first
    | exact Qe hQ
    | (refine P1 (wpAny_load ho ?_)
       rw [hc,hd];show Qs M A (if (["enumerate", "zip", "dict_itemiterator", "dict_reverseitemiterator", "odict_iterator", "itertools.zip_longest", "itertools.pairwise"].contains n&&vs[0]?==some (rawInt _))=true then _ else _) Q E s;rw [if_neg (by intro h; rw [hn,Bool.false_and] at h; cases h)];exact Qe hQ))
def Itl (K:PH) (a:Qd):It :=
 ⟨λ i H=>∃ xs x,SqL K H a xs/\xs[i]?=some x,λ i H x H'=>H'=H/\∀ xs,SqL K H a xs->xs[i]?=some x,λ i H=>∃ xs,SqL K H a xs/\xs.length<=i⟩
def Itt (K:PH) (a:Qd):It :=
 ⟨λ i H=>∃ xs x,SqT K H a xs/\xs[i]?=some x,λ i H x H'=>H'=H/\∀ xs,SqT K H a xs->xs[i]?=some x,λ i H=>∃ xs,SqT K H a xs/\xs.length<=i⟩
def Itr (lo:Int) (n:Nat):It:=⟨λ i _=>i < n,λ i H x H'=>H'=H/\x=.int (lo+i),λ i _=>n<=i⟩
theorem Gn {P:Ql} (a it:Qd):Turn P w K tg (Itl K a) [it] it (λ i h=>h.IsListIter it a i) where
 mem:=by simp
 obj:=λ i h st b hb=>by
  have e:b=it:=by simpa using hb
  subst e;obtain ⟨o,e,c,d⟩:=st;exact ⟨o,e,λ v z=>by rw [d] at z; cases z⟩
 keep:=λ i h h' st k=>st.at λ o e=>k it (by simp) o e
 item:=by
  intro X hP hw hK hc i pz s σ H E I hf st hg;subst hP hw hK;obtain ⟨xs,x,hq,hx⟩:=hg;obtain ⟨its,rv,p,hz⟩:=I.list hq;obtain ⟨u,hu,ru⟩:=rv.get hx;obtain ⟨f0,f1,f2,f3,f4,f5⟩:=hf it (by simp);refine wpAny_pyNext_list_item st p.isList (x:=u) (by simpa using hu) λ h' st' sb=>?_;have I1:Inv X pz σ H { s with heap:=h' }:=I.turned (t':=s.toks) (λ b o hb e=>(sb.2 b hb).trans e) f0 f1 f3 f4 f5;obtain ⟨o,e,c,d⟩:=id st';exact ⟨u,rfl,F6 (s:={ s with heap:=h' }) e c d (by decide) ⟨x,H,I1,ru,⟨rfl,λ ys hy=>by rw [I.list_inj hy hq]; exact hx⟩,st',λ b hb=>(hf b hb).1⟩⟩
 done:=by
  intro X hP hw hK hc i pz s σ H E I hf st hg;subst hP hw hK;obtain ⟨xs,hq,hx⟩:=hg;obtain ⟨its,rv,p,hz⟩:=I.list hq;obtain ⟨f0,f1,f2,f3,f4,f5⟩:=hf it (by simp);have hl:=rv.length;exact wpAny_pyNext_list_end (I.ok.hd hc) st p.isList (by simp; omega) λ h' eb=>⟨rfl,I.turned (t':=s.toks) (λ b o hb e=>eb b o hb e) f0 f1 f3 f4 f5⟩
 self:=λ _ _ _ _ _ st h=>wpAny_pyIter_listiter st h
theorem Ec {P:Ql} (a it:Qd):Turn P w K tg (Itt K a) [it] it (λ i h=>h.IsTupleIter it a i) where
 mem:=by simp
 obj:=λ i h st b hb=>by
  have e:b=it:=by simpa using hb
  subst e;obtain ⟨o,e,c,d⟩:=st;exact ⟨o,e,λ v z=>by rw [d] at z; cases z⟩
 keep:=λ i h h' st k=>st.at λ o e=>k it (by simp) o e
 item:=by
  intro X hP hw hK hc i pz s σ H E I hf st hg;subst hP hw hK;obtain ⟨xs,x,hq,hx⟩:=hg;obtain ⟨its,rv,p,hz⟩:=I.tuple hq;obtain ⟨u,hu,ru⟩:=rv.get hx;obtain ⟨f0,f1,f2,f3,f4,f5⟩:=hf it (by simp);refine wpAny_pyNext_tuple_item st (show s.heap.IsTuple a its.toArray from p) (x:=u) (by simpa using hu) λ h' st' sb=>?_;have I1:Inv X pz σ H { s with heap:=h' }:=I.turned (t':=s.toks) (λ b o hb e=>(sb.2 b hb).trans e) f0 f1 f3 f4 f5;obtain ⟨o,e,c,d⟩:=id st';exact ⟨u,rfl,F6 (s:={ s with heap:=h' }) e c d (by decide) ⟨x,H,I1,ru,⟨rfl,λ ys hy=>by rw [I.tuple_inj hy hq]; exact hx⟩,st',λ b hb=>(hf b hb).1⟩⟩
 done:=by
  intro X hP hw hK hc i pz s σ H E I hf st hg;subst hP hw hK;obtain ⟨xs,hq,hx⟩:=hg;obtain ⟨its,rv,p,hz⟩:=I.tuple hq;obtain ⟨f0,f1,f2,f3,f4,f5⟩:=hf it (by simp);have hl:=rv.length;exact wpAny_pyNext_tuple_end (I.ok.hd hc) st (show s.heap.IsTuple a its.toArray from p) (by simp; omega) λ h' eb=>⟨rfl,I.turned (t':=s.toks) (λ b o hb e=>eb b o hb e) f0 f1 f3 f4 f5⟩
 self:=λ _ _ _ _ _ st h=>wpAny_pyIter_tupleiter st h
theorem Ed {P:Ql} (it:Qd) (lo:Int) (n:Nat):Turn P w K tg (Itr lo n) [it] it (λ i h=>IsRangeIter h it (lo+(i:Nat)*1) ((n:Int) - (i:Nat)) 1) where
 mem:=by simp
 obj:=λ i h st b hb=>by
  have e:b=it:=by simpa using hb
  subst e;exact ⟨_,st,λ v z=>by
   have z':Data.fields _=Data.cell v:=z;cases z'⟩
 keep:=λ i h h' st k=>k it (by simp) _ st
 item:=by
  intro X hP hw hK hc i pz s σ H E I hf st hg;subst hP hw hK;obtain ⟨f0,f1,f2,f3,f4,f5⟩:=hf it (by simp);have W:=Walks.range (prog:=X.prog) (w:=X.w) (I.ok.hd hc) it lo 1 n;refine W.item i s _ _ hg st λ v h' tk hv st' kk=>?_;obtain ⟨t,rfl⟩:=hv;have I1:Inv X pz σ H { s with heap:=h',toks:=tk }:=I.turned (λ b o hb e=>kk b o (by simpa using hb) e) f0 f1 f3 f4 f5;refine ⟨_,rfl,F6 (s:={ s with heap:=h',toks:=tk }) (n := "range_iterator") st' rfl rfl (by decide) ⟨.int (lo+i),H,I1,⟨t,?_⟩,⟨rfl,rfl⟩,st',λ b hb=>(hf b hb).1⟩⟩;rw [Int.mul_one]
 done:=by
  intro X hP hw hK hc i pz s σ H E I hf st hg;subst hP hw hK;obtain ⟨f0,f1,f2,f3,f4,f5⟩:=hf it (by simp);exact wpAny_pyNext_range_end (I.ok.hd hc) st (by have:n<=i:=hg; omega) λ h' eb=>⟨rfl,I.turned (t':=s.toks) (λ b o hb e=>eb b o hb e) f0 f1 f3 f4 f5⟩
 self:=λ _ _ _ _ _ st h=>wpAny_pyIter_rangeiter st h
section
variable {X:Cx} {tg:Expr}
def Op (K:PH) (tl:TE):TI:=λ σ H R=>tl σ H λ x H1=>∃ a,x=.ref a/\(∃ xs,SqL K H1 a xs)/\R (Itl K a) H1
def Pk (K:PH) (tl:TE):TI:=λ σ H R=>tl σ H λ x H1=>∃ a,x=.ref a/\(∃ xs,SqT K H1 a xs)/\R (Itt K a) H1
theorem FC {l:Expr} {tl:TE} (hl:PE X l tl):PI X tg l (Op X.K tl):=by
 intro pz s σ H R I h;refine thn (hl pz s σ H _ I h) λ v s1 ⟨x,H1,I1,r1,q1⟩=>?_;obtain ⟨a,e,⟨xs,hq⟩,q⟩:=q1;subst e;cases r1;obtain ⟨its,rv,p,hz⟩:=I1.list hq;refine wpAny_pyIter_list p.isList ?_;refine ⟨s1.heap.objs.size,[s1.heap.objs.size],_,_,H1,rfl,I1.kept (t':=s1.toks) λ b o e=>PZ _ e,Gn a _,⟨_,Qn _ rfl,rfl,rfl⟩,λ b hb=>?_,q⟩;have e:b=s1.heap.objs.size:=by simpa using hb
 subst e;exact I1.fpOk (PV _) (I1.hok.fresh (PV _))
theorem Mj {l:Expr} {tl:TE} (hl:PE X l tl):PI X tg l (Pk X.K tl):=by
 intro pz s σ H R I h;refine thn (hl pz s σ H _ I h) λ v s1 ⟨x,H1,I1,r1,q1⟩=>?_;obtain ⟨a,e,⟨xs,hq⟩,q⟩:=q1;subst e;cases r1;obtain ⟨its,rv,p,hz⟩:=I1.tuple hq;refine wpAny_pyIter_tuple (show s1.heap.IsTuple a its.toArray from p) ?_;refine ⟨s1.heap.objs.size,[s1.heap.objs.size],_,_,H1,rfl,I1.kept (t':=s1.toks) λ b o e=>PZ _ e,Ec a _,⟨_,Qn _ rfl,rfl,rfl⟩,λ b hb=>?_,q⟩;have e:b=s1.heap.objs.size:=by simpa using hb
 subst e;exact I1.fpOk (PV _) (I1.hok.fresh (PV _))
theorem Hu {s:PQ} {R:It->Hp->Prop} {E:PP->PQ->Prop} {lo hi:Int} {t u v:Tok} {tk:Nat} (I:Inv X pz σ H s) (h1:-(2 ^ 62)<=lo) (h2:lo < 2 ^ 62) (h3:-(2 ^ 62)<=hi) (h4:hi < 2 ^ 62)
  (q:R (Itr lo (hi - lo).toNat) H):Qs (Qq X.prog X.w) X.A (pyIter (.ref s.heap.objs.size)) (PIE X pz σ tg R) E { s with heap:=s.heap.push { cls:=.type "range", data:=.fields #[.int lo t,.int hi u,.int 1 v] },toks:=tk }:=by
 refine wpAny_pyIter_range (IsRange.new ..) (small_one h1 h2 h3 h4) ?_;have I1:Inv X pz σ H { s with heap:=s.heap.push { cls:=.type "range", data:=.fields #[.int lo t,.int hi u,.int 1 v] },toks:=tk }:=I.kept λ b o e=>PZ _ e;refine ⟨(s.heap.push { cls:=.type "range", data:=.fields #[.int lo t,.int hi u,.int 1 v] }).objs.size,[(s.heap.push { cls:=.type "range", data:=.fields #[.int lo t,.int hi u,.int 1 v] }).objs.size],_,_,H,rfl,I1.kept (t':=tk) λ b o e=>PZ _ e,Ed _ lo (hi - lo).toNat,?_,λ b hb=>?_,q⟩
 ·have e1:lo+((0:Nat):Int)*1=lo:=by simp
  have e2:(((hi - lo).toNat:Nat):Int) - ((0:Nat):Int)=Builtin.Range.rangeSize lo hi 1:=by rw [rangeSize_one]; split <;> omega
  show IsRangeIter _ _ (lo+((0:Nat):Int)*1) ((((hi - lo).toNat:Nat):Int) - ((0:Nat):Int)) 1;rw [e1,e2];exact Qn _ rfl
 ·have e:b=(s.heap.push { cls:=.type "range", data:=.fields #[.int lo t,.int hi u,.int 1 v] }).objs.size:=by simpa using hb
  subst e;exact I1.fpOk (PV _) (I1.hok.fresh (PV _))
def Oo (ta:TA):TI:=λ σ H R=>ta σ H λ vs H1=>∃ j:Int,vs=[.int j]/\-(2 ^ 62)<=j/\j < 2 ^ 62/\R (Itr 0 j.toNat) H1
theorem GA {a:Expr} {ta:TA} {p pos:Pos} (hg:Gl X "range") (hm:X.mg "range" = none) (ha:PA X [a] ta) (hs:PX [a] X.env=[(false,eval a X.env)]:=by rfl):PI X tg (.Call (.Name "range" p) [a] [] pos) (Oo ta):=by
 intro pz s σ H R I h;refine Call_ (uv I hg hm boot_range (PyProof.Rows.callWith_type1 (thn (ha pos pz s σ H _ I h) λ us s1 ⟨vs,H1,I1,r1,q1⟩=>?_) hs rfl));obtain ⟨j,e,q1,q2,q⟩:=q1;subst e;cases r1 with
 | cons r rr =>
  cases rr;obtain ⟨t,rfl⟩:=r;exact call_range_1 (Hu I1 (by omega) (by omega) q1 q2 (by simpa using q))
def OW (wi:TI) (g:TG) (tb:TS):TS:=λ D σ H=>wi σ H λ J H1=>∃ W:Nat->Nat->St->Hp->Prop,(∃ m,W 0 m σ H1)/\∀ i m σ H,W i m σ H ->
 (J.stop i H/\D.nx σ H)\/(J.go i H/\∃ N:St->Hp->Prop,(∀ σ' H',N σ' H'->∃ m',m' < m/\W (i+1) m' σ' H')/\∀ x H',J.yld i H x H'->g x σ H' λ σ2 H2=>tb { D with nx:=N,ct:=N,bk:=D.nx } σ2 H2)
def zK (fp:List Qd) (h:Heap):List (Qd×Obj):=fp.filterMap λ b=>(h.get? b).map λ o=>(b,o)
theorem sI {o:Obj} (hb:b∈fp) (e:h.get? b=some o):(b,o)∈zK fp h:=List.mem_filterMap.mpr ⟨b,hb,by rw [e]; rfl⟩
theorem GI {p:Qd×Obj} (hp:p∈zK fp h):p.1∈fp/\h.get? p.1=some p.2:=by
 obtain ⟨b,hb,e⟩:=List.mem_filterMap.mp hp;cases q:h.get? b with
 | none=>rw [q] at e; cases e
 | some o =>
  rw [q] at e;have e':(b,o)=p:=Option.some.inj e;subst e';exact ⟨hb,q⟩
theorem Inv.pinned {s:PQ} (I:Inv X pz σ H s) (hf:∀ b∈fp,uR X pz H b) (ho:∀ b∈fp,∃ o,s.heap.get? b=some o/\∀ v,o.data≠.cell v):Inv X (pz++zK fp s.heap) σ H s :=
 I.pins_of λ p hp=>(Q6.mp hp).elim (λ z=>I.pin p (QB _ z)) λ z=>by
  obtain ⟨hb,e⟩:=GI z;obtain ⟨f0,f1,f2,_⟩:=hf p.1 hb;obtain ⟨o,e',d⟩:=ho p.1 hb;rw [e] at e'; cases e';exact ⟨e,f0,f1,f2,d⟩
theorem Inv.unpinned {pl:List (Qd×Obj)} {s:PQ} (I:Inv X (pz++pl) σ H s):Inv X pz σ H s:=I.pins_of λ p hp=>I.pin p (QB _ (Ru _ hp))
theorem HC {iter:Expr} {wi:TI} {g:TG} {tb:TS} {pos:Pos} (hp:PassesOwn (Qq X.prog X.w) X.A X.env X.xe) (hc:X.calm=true) (hi:PI X tg iter wi) (hg:PG X tg g) (hb:PSs X body tb)
  (hs:∀ x,foldedSetIterable iter X.env x=pure x:=by intro _; rfl):PS X (.For tg iter body [] pos) (OW wi g tb):=by
 intro pz s σ H D I h;refine wpAny_For (thn (hi pz s σ H _ I h) λ v s1 h1=>thn h1 λ itv s2 h2=>?_) hs;obtain ⟨it,fp,tn,J,H2,e,I2,T,st2,f2,W,⟨m0,w0⟩,turn⟩:=h2;subst e;have stat:∀ {H':Hp},(∀ b∈fp,H' b=none)->∀ b∈fp,uR X pz H' b:=λ hn b hb=>⟨hn b hb,(f2 b hb).2⟩;refine codeAny_forLoop_any (λ n s'=>∃ i σ' H',Inv X pz σ' H' s'/\tn i s'.heap/\(∀ b∈fp,H' b=none)/\W i n σ' H') ?_ m0 ⟨0,σ,H2,I2,st2,λ b hb=>(f2 b hb).1,w0⟩
 rintro n s3 ⟨i,σ3,H3,I3,st3,fr3,w3⟩
 rcases turn i n σ3 H3 w3 with ⟨stop,qn⟩ | ⟨go,N,hN,step⟩
 ·refine wpAny_passesOwn hp (thn (T.done X rfl rfl rfl hc i pz s3 σ3 H3 X.xe I3 (stat fr3) st3 stop) λ r s4 ⟨hr,I4⟩=>?_);subst hr;exact wpAny_execs_nil ⟨σ3,H3,I4,qn⟩
 ·refine wpAny_passesOwn hp (thn (T.item X rfl rfl rfl hc i pz s3 σ3 H3 X.xe I3 (stat fr3) st3 go) λ r s4 ⟨u,hr,h4⟩=>?_);subst hr;refine wpAny_passesOwn hp (thn h4 λ _ s5 ⟨x,H5,I5,r5,y5,st5,fr5⟩=>?_);have I5':=I5.pinned (stat fr5) (T.obj _ _ st5);refine wpAny_passesOwn hp (thn (hg _ s5 σ3 H5 x u _ I5' r5 (step x H5 y5)) λ _ s6 ⟨σ6,H6,I6,q6⟩=>?_);refine wpAny_passesOwn hp (thn (hb _ s6 σ6 H6 _ I6 q6) λ f s7 q7=>?_);have again:∀ {σ7:St} {H7:Hp},Inv X (pz++zK fp s5.heap) σ7 H7 s7->N σ7 H7->∃ m,m < n/\∃ i σ' H',Inv X pz σ' H' s7/\tn i s7.heap/\(∀ b∈fp,H' b=none)/\W i m σ' H':=λ {σ7 H7} I7 n7=>by
   obtain ⟨m',hm,w7⟩:=hN σ7 H7 n7;refine ⟨m',hm,i+1,σ7,H7,I7.unpinned,T.keep _ _ _ st5 λ b hb o e=>(I7.pin (b,o) (QB _ (QB _ (sI hb e)))).1,λ b hb=>?_,w7⟩;obtain ⟨o,e,d⟩:=T.obj _ _ st5 b hb;exact (I7.pin (b,o) (QB _ (QB _ (sI hb e)))).2.1
  cases f with
  | next=>obtain ⟨σ7,H7,I7,n7⟩:=q7; exact again I7 n7
  | cont=>obtain ⟨σ7,H7,I7,n7⟩:=q7; exact again I7 n7
  | brk=>obtain ⟨σ7,H7,I7,q7⟩:=q7; exact ⟨σ7,H7,I7.unpinned,q7⟩
  | ret v=>obtain ⟨x7,σ7,H7,I7,r7,q7⟩:=q7; exact ⟨x7,σ7,H7,I7.unpinned,r7,q7⟩
end
abbrev R2:=V->V->Hp->VK->Prop
variable {r r':R2}
def OpR (X:Cx) (f:PP->PP->Sem PP) (r:R2):Prop :=
 ∀ (pz:List (Qd×Obj)) (s:PQ) (σ:St) (H:Hp) (x y:V) (v u:PP) (Q:VK),Inv X pz σ H s->RelV x v->RelV y u->r x y H Q ->
  Qs (Qq X.prog X.w) X.A (f v u) (EP X pz σ Q) X.xe s
def UnR (X:Cx) (f:PP->Sem PP) (r:V->Hp->VK->Prop):Prop :=
 ∀ (pz:List (Qd×Obj)) (s:PQ) (σ:St) (H:Hp) (x:V) (v:PP) (Q:VK),Inv X pz σ H s->RelV x v->r x H Q ->
  Qs (Qq X.prog X.w) X.A (f v) (EP X pz σ Q) X.xe s
def CallR (X:Cx) (f:PP) (r:List V->Hp->VK->Prop):Prop :=
 ∀ (pz:List (Qd×Obj)) (s:PQ) (σ:St) (H:Hp) (xs:List V) (us:List PP) (Q:VK),Inv X pz σ H s->Vals xs us->r xs H Q ->
  Qs (Qq X.prog X.w) X.A (call f us) (EP X pz σ Q) X.xe s
def Py (X:Cx) (r:V->Hp->(Bool->Hp->Prop)->Prop):Prop :=
 ∀ (pz:List (Qd×Obj)) (s:PQ) (σ:St) (H:Hp) (x:V) (v:PP) (Q:Bool->Hp->Prop),Inv X pz σ H s->RelV x v->r x H Q ->
  Qs (Qq X.prog X.w) X.A (truthy v) (TP X pz σ Q) X.xe s
def tOp (r:R2) (ta tb:TE):TE:=λ σ H Q=>ta σ H λ x H1=>tb σ H1 λ y H2=>r x y H2 Q
def tUn (r:V->Hp->VK->Prop) (ta:TE):TE:=λ σ H Q=>ta σ H λ x H1=>r x H1 Q
def rI (C:Int->Int->Prop) (g:Int->Int->V):R2:=λ x y H Q=>∃ i j,x=.int i/\y=.int j/\C i j/\Q (g i j) H
def rI0 (g:Int->Int->V):R2:=λ x y H Q=>∃ i j,x=.int i/\y=.int j/\Q (g i j) H
def rU (g:Int->V):V->Hp->VK->Prop:=λ x H Q=>∃ i,x=.int i/\Q (g i) H
section
variable {X:Cx} {a b c:Expr} {ta tb tc:TE} {pos:Pos}
theorem Na (ha:PE X a ta) (hb:PE X b tb) {s:PQ} {R:V->V->Hp->Prop} (I:Inv X pz σ H s)
  (h:ta σ H λ x H1=>tb σ H1 λ y H2=>R x y H2) {Q:PP->PQ->Prop} {f:PP->PP->Sem PP}
  (hf:∀ v u s2 x y H2,Inv X pz σ H2 s2->RelV x v->RelV y u->R x y H2->Qs (Qq X.prog X.w) X.A (f v u) Q X.xe s2) :
  Qs (Qq X.prog X.w) X.A (eval a X.env) (λ v s₁=>Qs (Qq X.prog X.w) X.A (eval b X.env) (λ u s₂=>Qs (Qq X.prog X.w) X.A (f v u) Q X.xe s₂) X.xe s₁) X.xe s:=by
 refine thn (ha pz s σ H _ I h) λ v s1 ⟨x,H1,I1,r1,q1⟩=>?_;refine thn (hb pz s1 σ H1 _ I1 q1) λ u s2 ⟨y,H2,I2,r2,q2⟩=>?_;exact hf v u s2 x y H2 I2 r1 r2 q2
theorem Dc {op:Operator} (ho:OpR X (binaryOp op) r) (ha:PE X a ta) (hb:PE X b tb):PE X (.BinOp a op b pos) (tOp r ta tb):=by
 intro pz s σ H Q I h;exact wpAny_BinOp (Na ha hb I h λ v u s2 x y H2 I2 rx ry q=>ho pz s2 σ H2 x y v u Q I2 rx ry q)
theorem N7 {op:UnaryOp} {r:V->Hp->VK->Prop} (ho:UnR X (unaryOp op) r) (ha:PE X a ta):PE X (.UnaryOp op a pos) (tUn r ta):=by
 intro pz s σ H Q I h;exact UnaryOp_ (thn (ha pz s σ H _ I h) λ v s1 ⟨x,H1,I1,r1,q1⟩=>ho pz s1 σ H1 x v Q I1 r1 q1)
theorem opI {f:PP->PP->Sem PP} {C:Int->Int->Prop} {g:Int->Int->Int}
  (rule:∀ (i j:Int) (t u:Tok) (s:PQ) (Q:PP->PQ->Prop) (E:PP->PQ->Prop),C i j->Q (.int (g i j) s.toks) { s with toks:=s.toks+1 }->Qs (Qq X.prog X.w) X.A (f (.int i t) (.int j u)) Q E s) :
  OpR X f (rI C λ i j=>.int (g i j)):=by
 intro pz s σ H x y v u Q I rx ry h;obtain ⟨i,j,rfl,rfl,hc,q⟩:=h;obtain ⟨t,rfl⟩:=rx;obtain ⟨t',rfl⟩:=ry;exact rule i j t t' s _ _ hc ⟨.int (g i j),H,I.tok _,⟨_,rfl⟩,q⟩
theorem Ob {f:PP->PP->Sem PP} {g:Int->Int->Int}
  (rule:∀ (i j:Int) (t u:Tok) (s:PQ) (Q:PP->PQ->Prop) (E:PP->PQ->Prop),Q (.int (g i j) s.toks) { s with toks:=s.toks+1 }->Qs (Qq X.prog X.w) X.A (f (.int i t) (.int j u)) Q E s) :
  OpR X f (rI0 λ i j=>.int (g i j)):=by
 intro pz s σ H x y v u Q I rx ry h;obtain ⟨i,j,rfl,rfl,q⟩:=h;obtain ⟨t,rfl⟩:=rx;obtain ⟨t',rfl⟩:=ry;exact rule i j t t' s _ _ ⟨.int (g i j),H,I.tok _,⟨_,rfl⟩,q⟩
theorem Oc {f:PP->PP->Sem PP} {g:Int->Int->Bool}
  (rule:∀ (i j:Int) (t u:Tok) (s:PQ) (Q:PP->PQ->Prop) (E:PP->PQ->Prop),Q (.bool (g i j)) s->Qs (Qq X.prog X.w) X.A (f (.int i t) (.int j u)) Q E s) :
  OpR X f (rI0 λ i j=>.bl (g i j)):=by
 intro pz s σ H x y v u Q I rx ry h;obtain ⟨i,j,rfl,rfl,q⟩:=h;obtain ⟨t,rfl⟩:=rx;obtain ⟨t',rfl⟩:=ry;exact rule i j t t' s _ _ ⟨.bl (g i j),H,I,rfl,q⟩
def CDiv (i j:Int):Prop:=0 < j/\j < 1073741824
def CMul (i j:Int):Prop:=(-(2 ^ 64) < i/\i < 2 ^ 64)\/(-(2 ^ 64) < j/\j < 2 ^ 64)
theorem CMul.ok {i j:Int} (h:CMul i j):IntMulOk i j:=by
 rcases h with ⟨h1,h2⟩ | ⟨h1,h2⟩
 ·exact .of_left (intBits_le_64 h1 h2)
 ·exact .of_right (intBits_le_64 h1 h2)
theorem op_add:OpR X (binaryOp .Add) (rI0 λ i j=>.int (i+j)):=Ob λ _ _ _ _ _ _ _ q=>add_int q
theorem HZ:OpR X (binaryOp .Sub) (rI0 λ i j=>.int (i - j)):=Ob λ _ _ _ _ _ _ _ q=>sub_int q
theorem Mq:OpR X (binaryOp .Mult) (rI CMul λ i j=>.int (i*j)):=opI λ _ _ _ _ _ _ _ hc q=>mul_int q hc.ok
theorem Kb:OpR X (binaryOp .FloorDiv) (rI CDiv λ i j=>.int (i / j)):=opI λ i j _ _ _ _ _ hc q=>by
 have h1:(0:Int) < j:=hc.1;have h2:j < 1073741824:=hc.2;exact floordiv_int (by omega) (by rw [Int.fdiv_eq_ediv_of_nonneg i (by omega)]; exact q) (.inl (PyProof.noPylong_small (by omega)))
theorem Mr:OpR X (binaryOp .Mod) (rI (λ _ j=>0 < j) λ i j=>.int (i % j)):=opI λ i j _ _ _ _ _ hc q=>by
 have h1:(0:Int) < j:=hc;exact mod_int' (by omega) (by rw [Int.fmod_eq_emod_of_nonneg i (by omega)]; exact q)
theorem unI {f:PP->Sem PP} {g:Int->Int}
  (rule:∀ (i:Int) (t:Tok) (s:PQ) (Q:PP->PQ->Prop) (E:PP->PQ->Prop),Q (.int (g i) s.toks) { s with toks:=s.toks+1 }->Qs (Qq X.prog X.w) X.A (f (.int i t)) Q E s) :
  UnR X f (rU λ i=>.int (g i)):=by
 intro pz s σ H x v Q I rx h;obtain ⟨i,rfl,q⟩:=h;obtain ⟨t,rfl⟩:=rx;exact rule i t s _ _ ⟨.int (g i),H,I.tok _,⟨_,rfl⟩,q⟩
theorem LR:UnR X (unaryOp .USub) (rU λ i=>.int (-i)):=unI λ _ _ _ _ _ q=>neg_int q
end
def scal:V->V->Bool
 | .non,.non=>true | .non,.int _=>true | .int _,.non=>true | .non,.bl _=>true | .bl _,.non=>true | .non,.str _=>true | .str _,.non=>true
 | .int _,.int _=>true | .bl _,.bl _=>true | .str _,.str _=>true | .byt _,.byt _=>true
 | .int _,.str _=>true | .str _,.int _=>true | .bl _,.str _=>true | .str _,.bl _=>true
 | _,_=>false
def rNe:R2:=λ x y H Q=>scal x y=true/\Q (.bl (!decide (x=y))) H
theorem KI {i j:Int}:decide (V.int i=V.int j)=(i==j):=by
 rw [Rc]
 simp
theorem M4 {i j:Bool}:decide (V.bl i=V.bl j)=(i==j):=by
 rw [Rc]
 simp
theorem KH {i j:Str}:decide (V.str i=V.str j)=(i==j):=by
 rw [Rc]
 simp
theorem KJ {i j:Array UInt8}:decide (V.byt i=V.byt j)=(i.toList==j.toList):=by
 rw [Rc];cases i;cases j
 simp
section
variable {X:Cx} {a b c:Expr} {ta tb tc:TE} {pos:Pos}
theorem jM {s:PQ} {Q:VK} {k k':Bool} (I:Inv X pz σ H s) (q:Q (.bl k) H) (e:k=k'):EP X pz σ Q (.bool k') s:=by
 subst e;exact ⟨.bl k,H,I,rfl,q⟩
theorem Oa:OpR X (QD .NotEq) rNe:=by
 intro pz s σ H x y v u Q I rx ry h;obtain ⟨hs,q⟩:=h;cases x with
 | non =>
  cases rx;cases y with
  | non=>cases ry; exact PySem.EqNone.ne_none_none (jM I q (by simp))
  | bl j=>cases ry; exact PySem.EqNone.ne_none_bool (jM I q (by simp))
  | int j=>obtain ⟨t',rfl⟩:=ry; exact PySem.EqNone.ne_none_int (jM I q (by simp))
  | str j=>obtain ⟨t',rfl⟩:=ry; exact PySem.EqNone.ne_none_str (jM I q (by simp))
  | _=>exact absurd (show false=true from hs) PN
 | bl i =>
  cases rx;cases y with
  | non=>cases ry; exact PySem.EqNone.ne_bool_none (jM I q (by simp))
  | bl j=>cases ry; exact ne_bool (jM I q (congrArg not M4))
  | str j=>obtain ⟨t',rfl⟩:=ry; exact PySem.EqMixed.ne_bool_str (jM I q (by simp))
  | _=>exact absurd (show false=true from hs) PN
 | int i =>
  obtain ⟨t,rfl⟩:=rx;cases y with
  | non=>cases ry; exact PySem.EqNone.ne_int_none (jM I q (by simp))
  | int j=>obtain ⟨t',rfl⟩:=ry; exact ne_int (jM I q (congrArg not KI))
  | str j=>obtain ⟨t',rfl⟩:=ry; exact PySem.EqMixed.ne_int_str (jM I q (by simp))
  | _=>exact absurd (show false=true from hs) PN
 | str i =>
  obtain ⟨t,rfl⟩:=rx;cases y with
  | non=>cases ry; exact PySem.EqNone.ne_str_none (jM I q (by simp))
  | bl j=>cases ry; exact PySem.EqMixed.ne_str_bool (jM I q (by simp))
  | int j=>obtain ⟨t',rfl⟩:=ry; exact PySem.EqMixed.ne_str_int (jM I q (by simp))
  | str j=>obtain ⟨t',rfl⟩:=ry; exact ne_str (jM I q (congrArg not KH))
  | _=>exact absurd (show false=true from hs) PN
 | byt i =>
  obtain ⟨t,rfl⟩:=rx;cases y with
  | byt j=>obtain ⟨t',rfl⟩:=ry; exact PySem.W.ne_bytes (jM I q (congrArg not KJ))
  | _=>exact absurd (show false=true from hs) PN
 | _=>cases y <;> exact absurd (show false=true from hs) PN
theorem Dh:OpR X (QD .Lt) (rI0 λ i j=>.bl (decide (i < j))):=Oc λ _ _ _ _ _ _ _ q=>lt_int q
theorem Bm:OpR X (QD .LtE) (rI0 λ i j=>.bl (decide (i<=j))):=Oc λ _ _ _ _ _ _ _ q=>le_int q
theorem GF:OpR X (QD .In) (λ x y H Q=>∃ i j,x=.str i/\y=.str j/\Q (.bl (!(Builtin.Str.occurrences j i 0 j.length 1).isEmpty)) H):=by
 intro pz s σ H x y v u Q I rx ry h;obtain ⟨i,j,rfl,rfl,q⟩:=h;obtain ⟨t,rfl⟩:=rx;obtain ⟨t',rfl⟩:=ry;exact in_str (jM I q rfl)
theorem Et:OpR X (QD .Is) (λ x y H Q=>y=.non/\Q (.bl (decide (x=.non))) H):=by
 intro pz s σ H x y v u Q I rx ry h;obtain ⟨rfl,q⟩:=h;cases ry;refine is_none_gen (jM I q ?_);cases x <;> first
  | (cases rx; rfl)
  | (obtain ⟨t,rfl⟩:=rx; rfl)
theorem B1:OpR X (QD .IsNot) (λ x y H Q=>y=.non/\Q (.bl (!decide (x=.non))) H):=by
 intro pz s σ H x y v u Q I rx ry h;obtain ⟨rfl,q⟩:=h;cases ry;refine isnot_none_gen (jM I q ?_);cases x <;> first
  | (cases rx; rfl)
  | (obtain ⟨t,rfl⟩:=rx; rfl)
theorem OpR.or (h:OpR X f r) (h':OpR X f r'):OpR X f (λ x y H Q=>r x y H Q\/r' x y H Q):=by
 intro pz s σ H x y v u Q I rx ry q;rcases q with q | q
 ·exact h pz s σ H x y v u Q I rx ry q
 ·exact h' pz s σ H x y v u Q I rx ry q
theorem nomark (b:Expr) {op:CmpOp} (h:op≠.In:=by decide) (h2:op≠.NotIn:=by decide):QH op b=false:=by
 have e1:(op==CmpOp.In)=false:=by cases op <;> first | rfl | exact absurd rfl h
 have e2:(op==CmpOp.NotIn)=false:=by cases op <;> first | rfl | exact absurd rfl h2
 cases b <;> simp [QH,e1,e2]
theorem FG {op:CmpOp} (ho:OpR X (QD op) r) (ha:PE X a ta) (hb:PE X b tb) (hm:QH op b=false):PE X (.Compare a [op] [b] pos) (tOp r ta tb):=by
 intro pz s σ H Q I h;exact wpAny_Compare1 (Na ha hb I h λ v u s2 x y H2 I2 rx ry q=>ho pz s2 σ H2 x y v u Q I2 rx ry q) hm
def Hi (t:TE):TT:=λ σ H Q=>t σ H λ x H'=>∃ k,x=.bl k/\Q k H'
theorem BP {op:CmpOp} (ho:OpR X (QD op) r) (ha:PE X a ta) (hb:PE X b tb) (hm:QH op b=false):PT X (.Compare a [op] [b] pos) (Hi (tOp r ta tb)):=by
 intro pz s σ H Q I h;refine wpAny_isTrue_Compare1 (thn (ha pz s σ H _ I h) λ v s1 ⟨x,H1,I1,r1,q1⟩=>thn (hb pz s1 σ H1 _ I1 q1) λ u s2 ⟨y,H2,I2,r2,q2⟩ =>
  thn (ho pz s2 σ H2 x y v u _ I2 r1 r2 q2) λ c s3 ⟨z,H3,I3,r3,k,e,q3⟩=>?_) hm
 subst e;cases r3;exact wpAny_truthy_bool ⟨H3,I3,q3⟩
def Hj (r r':R2) (ta tb tc:TE):TE:=λ σ H Q=>ta σ H λ x H1=>tb σ H1 λ y H2=>r x y H2 λ z H3=>∃ k,z=.bl k /\
 (if k=true then tc σ H3 λ w' H4=>r' y w' H4 Q else Q (.bl false) H3)
theorem HP {op op':CmpOp} (ho:OpR X (QD op) r) (ho':OpR X (QD op') r') (ha:PE X a ta) (hb:PE X b tb) (hc:PE X c tc)
  (hm:lastMarks [op,op'] [b,c]=false:=by with_unfolding_all rfl):PE X (.Compare a [op,op'] [b,c] pos) (Hj r r' ta tb tc):=by
 intro pz s σ H Q I h;refine Compare_chain (thn (ha pz s σ H _ I h) λ v s1 ⟨x,H1,I1,r1,q1⟩=>chain_link (thn (hb pz s1 σ H1 _ I1 q1) λ u s2 ⟨y,H2,I2,r2,q2⟩ =>
  thn (ho pz s2 σ H2 x y v u _ I2 r1 r2 q2) λ d s3 ⟨z,H3,I3,r3,k,e,q3⟩=>?_)) hm
 subst e;cases r3;refine wpAny_truthy_bool ?_;cases k with
 | false=>exact ite_ff ⟨.bl false,H3,I3,rfl,q3⟩
 | true=>exact ite_tt (chain_last (thn (hc pz s3 σ H3 _ I3 q3) λ w' s4 ⟨z',H4,I4,r4,q4⟩=>ho' pz s4 σ H4 y z' u w' Q I4 r2 r4 q4))
theorem C9 {op op':CmpOp} (ho:OpR X (QD op) r) (ho':OpR X (QD op') r') (ha:PE X a ta) (hb:PE X b tb) (hc:PE X c tc)
  (hm:lastMarks [op,op'] [b,c]=false:=by with_unfolding_all rfl):PT X (.Compare a [op,op'] [b,c] pos) (Hi (Hj r r' ta tb tc)):=by
 intro pz s σ H Q I h;refine isTrue_chain (thn (ha pz s σ H _ I h) λ v s1 ⟨x,H1,I1,r1,q1⟩=>test_link (thn (hb pz s1 σ H1 _ I1 q1) λ u s2 ⟨y,H2,I2,r2,q2⟩ =>
  thn (ho pz s2 σ H2 x y v u _ I2 r1 r2 q2) λ d s3 ⟨z,H3,I3,r3,k,e,q3⟩=>?_)) hm
 subst e;cases r3;refine wpAny_truthy_bool ?_;cases k with
 | false =>
  obtain ⟨k',e',q'⟩:=q3;cases e';exact ite_ff ⟨H3,I3,q'⟩
 | true =>
  refine ite_tt (test_last (thn (hc pz s3 σ H3 _ I3 q3) λ w' s4 ⟨z',H4,I4,r4,q4⟩=>thn (ho' pz s4 σ H4 y z' u w' _ I4 r2 r4 q4) λ d' s5 ⟨z2,H5,I5,r5,k2,e2,q5⟩=>?_));subst e2;cases r5;exact wpAny_truthy_bool ⟨H5,I5,q5⟩
def Nm (K:PH) (x:V) (H:Hp) (k:Bool):Prop :=
 match x with
 | .non=>k=false
 | .bl b=>k=b
 | .int i=>k=(i != 0)
 | .str y=>y.length<=P4/\k=((y.length:Int) != 0)
 | .byt y=>y.size<=P4/\k=((y.size:Int) != 0)
 | .ref p=>(∃ xs,SqL K H p xs/\k=!xs.isEmpty)\/(∃ xs,SqT K H p xs/\k=!xs.isEmpty)\/∃ kvs,H p=some (.dK kvs)/\k=!kvs.isEmpty
 | _=>False
theorem EL {κ:Type} {kvs:List (κ×V)} {vs:List (κ×PP)} (r:KV kvs vs):(!vs.isEmpty)=!kvs.isEmpty:=by
 cases r <;> rfl
theorem Ai {xs:List V} {its:List PP} (r:Vals xs its):(!its.toArray.isEmpty)=!xs.isEmpty:=by
 cases r <;> simp
theorem wa:(P4:Nat) < 2 ^ 63:=by rw [sizeLine_eq]; decide
theorem LV:Py X (λ x H Q=>∃ k,Nm X.K x H k/\Q k H):=by
 intro pz s σ H x v Q I rx h;obtain ⟨k,e,q⟩:=h;have hl:=wa;have hs:P4=16777216:=sizeLine_eq;cases x with
 | non =>
  cases rx;have e':k=false:=e;subst e';exact truthy_none ⟨H,I,q⟩
 | bl b =>
  cases rx;have e':k=b:=e;subst e';exact wpAny_truthy_bool ⟨H,I,q⟩
 | int i =>
  obtain ⟨t,rfl⟩:=rx;have e':k=(i != 0):=e;subst e';exact PySem.P.truthy_int ⟨H,I,q⟩
 | str y =>
  obtain ⟨t,rfl⟩:=rx;obtain ⟨hy,e'⟩:y.length<=P4/\k=((y.length:Int) != 0):=e;subst e';exact PySem.P.truthy_str (by omega) ⟨H,I.tok _,q⟩
 | byt y =>
  obtain ⟨t,rfl⟩:=rx;obtain ⟨hy,e'⟩:y.size<=P4/\k=((y.size:Int) != 0):=e;subst e';exact PySem.W.truthy_bytes (by omega) ⟨H,I.tok _,q⟩
 | ref p =>
  cases rx;have e':(∃ xs,SqL X.K H p xs/\k=!xs.isEmpty)\/(∃ xs,SqT X.K H p xs/\k=!xs.isEmpty)\/∃ kvs,H p=some (.dK kvs)/\k=!kvs.isEmpty:=e;rcases e' with ⟨xs,hx,e'⟩ | ⟨xs,hx,e'⟩ | ⟨kvs,hx,e'⟩
  ·subst e';obtain ⟨its,r,pl,hz⟩:=I.list hx;have hlen:=r.length;exact wpAny_truthy_list pl.isList (by simp only [P6]; omega) ⟨H,I.tok _,by rw [Ai r]; exact q⟩
  ·subst e';obtain ⟨its,r,pl,hz⟩:=I.tuple hx;have hlen:=r.length;exact truthy_tuple pl (by simp only [P6]; omega) ⟨H,I.tok _,by rw [Ai r]; exact q⟩
  ·subst e';obtain ⟨hz,hS,vs,r,m⟩:kvs.length<=P4/\(p==sysModules)=false/\∃ vs,KV kvs vs/\s.heap.DictOf (fV X.prog X.w) p vs:=I.hok p _ hx;have hlen:kvs.length=vs.length:=Paired.length r;exact wpAny_truthy_dict hS m (by omega) ⟨H,I.tok _,by rw [EL r]; exact q⟩
 | _=>exact (show False from e).elim
theorem Hz (ha:PE X a ta) (he:∀ whole,isTrue a X.env whole=(do let v <- whole; standAt a.pos; holding [v] (truthy v))) :
  PT X a (λ σ H Q=>ta σ H λ x H'=>∃ k,Nm X.K x H' k/\Q k H'):=by
 intro pz s σ H Q I h;exact isTrue_plain (thn (ha pz s σ H _ I h) λ v s1 ⟨x,H1,I1,r1,q1⟩=>LV pz s1 σ H1 x v Q I1 r1 q1) (he _)
theorem op_add_str:OpR X (binaryOp .Add) (λ x y H Q=>∃ i j,x=.str i/\y=.str j/\i.length+j.length<=P4/\Q (.str (i++j)) H):=by
 intro pz s σ H x y v u Q I rx ry h;obtain ⟨i,j,rfl,rfl,hz,q⟩:=h;obtain ⟨t,rfl⟩:=rx;obtain ⟨t',rfl⟩:=ry;exact add_str (λ t' tk=>⟨.str (i++j),H,I.tok _,⟨_,rfl⟩,q⟩) hz
theorem sU {x:V} (r:Vals [x] us):∃ u,us=[u]/\RelV x u:=by
 cases r with
 | cons r1 r2=>cases r2; exact ⟨_,rfl,r1⟩
theorem Fl {x:V} (r:Vals [x,y] us):∃ u w',us=[u,w']/\RelV x u/\RelV y w':=by
 cases r with
 | cons r1 r2 =>
  cases r2 with
  | cons r3 r4=>cases r4; exact ⟨_,_,rfl,r1,r3⟩
theorem GZ (hc:X.calm=true):CallR X (.builtin "max") (λ xs H Q=>∃ i j,xs=[.int i,.int j]/\Q (.int (if j > i then j else i)) H):=by
 intro pz s σ H xs us Q I r h;obtain ⟨i,j,rfl,q⟩:=h;obtain ⟨u,w',rfl,⟨t,rfl⟩,⟨t',rfl⟩⟩:=Fl r;refine max_two_ints (I.ok.hd hc) λ h' tk k=>⟨_,H,I.kept k,?_,q⟩;by_cases hj:j > i
 ·rw [if_pos hj,if_pos hj]; exact ⟨_,rfl⟩
 ·rw [if_neg hj,if_neg hj]; exact ⟨_,rfl⟩
theorem GY (hc:X.calm=true):CallR X (.builtin "min") (λ xs H Q=>∃ i j,xs=[.int i,.int j]/\Q (.int (if j < i then j else i)) H):=by
 intro pz s σ H xs us Q I r h;obtain ⟨i,j,rfl,q⟩:=h;obtain ⟨u,w',rfl,⟨t,rfl⟩,⟨t',rfl⟩⟩:=Fl r;refine min_two_ints (I.ok.hd hc) λ h' tk k=>⟨_,H,I.kept k,?_,q⟩;by_cases hj:j < i
 ·rw [if_pos hj,if_pos hj]; exact ⟨_,rfl⟩
 ·rw [if_neg hj,if_neg hj]; exact ⟨_,rfl⟩
theorem Bw:CallR X (.type "int") (λ xs H Q=>(∃ i,xs=[.int i]/\Q (.int i) H)\/∃ k,xs=[.bl k]/\Q (.int (if k then 1 else 0)) H):=by
 intro pz s σ H xs us Q I r h;rcases h with ⟨i,rfl,q⟩ | ⟨k,rfl,q⟩
 ·obtain ⟨u,rfl,t,rfl⟩:=sU r;exact call_int_int ⟨.int i,H,I,⟨_,rfl⟩,q⟩
 ·obtain ⟨u,rfl,r1⟩:=sU r;cases r1;exact call_int_bool ⟨.int (if k then 1 else 0),H,I.tok _,⟨_,rfl⟩,q⟩
end
structure ObjM (h:Heap) (x dx C:Qd) (mA:Str->Option PP):Prop where
 obj:h.get? x=some (Q5 C dx)
 ns:h.Ns1 dx mA
 ne:dx≠x
theorem GL {dx:Qd} {mA:Str->Option PP} (n:h.Ns1 dx mA):∃ od,h.get? dx=some od/\∀ name,RQ name od=some (mA name):=by
 obtain ⟨o,es,ep,ho,hd,hk,_,hm⟩:=n;refine ⟨o,ho,λ name=>?_⟩;have e:=hm name;unfold nsFind findBy at e;rw [<- Array.find?_toList] at e;unfold RQ;rw [hd];dsimp only
 split
 ·rename_i y q;rw [q] at e;exact congrArg some e
 ·rename_i q;rw [q] at e;have a:es.toList.any (·.refKey)=false:=by
   rw [List.any_eq_false];intro y hy;obtain ⟨z,t,hkey⟩:=hk y (Array.mem_toList_iff.mp hy);simp [DictEntry.refKey,hkey]
  have a':¬ es.toList.any (·.refKey)=true:=by rw [a]; exact PN
  rw [if_neg a'];exact congrArg some e
theorem ObjM.look {x dx:Qd} {mA:Str->Option PP} (I:ObjM h x dx C mA):∃ od,PySem.W.InstAt h x (Q5 C dx) C (some od)/\∀ name,RQ name od=some (mA name) :=
 let ⟨od,ho,hl⟩:=GL I.ns
 ⟨od,⟨I.obj,rfl,rfl,ho⟩,hl⟩
section
variable {prog:Ql} {w:World} {A:QI} {E:PP->PQ->Prop} {s:PQ} {K:PH} {x dx C f:Qd} {mA:Str->Option PP} {name:Str} {v:PP}
theorem KA {expr:Bool} {Q:PP->PQ->Prop} (X:K.In s.heap) (I:ObjM s.heap x dx C mA) (hg:RG K C name=true) (hh:PySem.W.hasDictIn K C=true)
  (ha:QL K (.ref C) name=some none) (hv:mA name=some v) (hv':PySem.W.handedIn v=true) (h:Q v { s with toks:=s.toks+1 }) :
  Qs (Qq prog w) A (getAttr (.ref x) name expr) Q E s:=by
 obtain ⟨od,J,hl⟩:=I.look;exact PySem.W.get_value X J (RW hg).1 (PySem.W.findObj_own hh ha rfl (by rw [hl,hv])) hv' h
theorem IG {pl:Sem Bool} {Q:PP×List PP->PQ->Prop} (X:K.In s.heap) (I:ObjM s.heap x dx C mA) (hg:RG K C name=true)
  (hf:QL K (.ref C) name=some (some (.ref f))) (ht:PySem.W.isFn K (.ref f)=true) (hv:mA name=none) (h:Q (.ref f,[.ref x]) s) :
  Qs (Qq prog w) A (getMethod (.ref x) name pl) Q E s:=by
 obtain ⟨od,J,hl⟩:=I.look;exact PySem.W.method_fn X J (RW hg).1 (RW hg).2 hf (beq_iff_eq.mp ht) (by show (RQ name od).map (·.isSome)=some false; rw [hl,hv]; rfl) h
theorem JL {ns:List Str} {Q:Unit->PQ->Prop} (X:K.In s.heap) (I:ObjM s.heap x dx C mA)
  (hs:QL K (.ref C) "__setattr__" = some (some (.builtin "object.__setattr__"))) (hp:PySem.W.plainOver K C=true) (ht:PySem.W.takerIn K C name=some none) (hh:PySem.W.hasDictIn K C=true)
  (hw:PySem.Within mA ns) (hsz:ns.length<=P4)
  (h:∀ h',ObjM h' x dx C (λ y=>if y=name then some v else mA y)->Heap.SameBut dx s.heap h'->Q () { s with heap:=h',toks:=s.toks+2 }) :
  Qs (Qq prog w) A (setAttr (.ref x) name v) Q E s:=by
 obtain ⟨od,J,hl⟩:=I.look;refine PySem.W.set_plain X J hs (PySem.W.osa_open (s:={ s with toks:=s.toks+1 }) (r:=none) X J hp ht λ b=>?_);obtain ⟨cd,hc,hd'⟩:=PySem.W.any_some hh;have hx:s.heap.get? x=some ⟨.ref C,some dx,.plain,#[]⟩:=I.obj;refine P1 (Qe (P1 (P1 (wpAny_loadPart hx (P1 (PySem.W.Looks.here (s:={ s with toks:=s.toks+1 }) (PySem.W.looks_clsIn X hc) ?_))))));rw [hd'];refine Qe (a:=some dx) (P1 (Qe (P1 ?_)));refine wpAny_nsSet1 (s:={ s with toks:=s.toks+1 }) I.ns λ h' hn2 hs2=>?_;obtain ⟨oD,esD,epD,hoD,hdD,hcD⟩:=hn2.count (PySem.Within.cons name v hw);refine P1 (wpAny_lookBehind hoD (by rw [hdD]; exact pastItsLine_dict (Qg hcD (by rw [P8]; omega))) ?_);exact Qe (h _ ⟨(hs2.2 _ (Ne.symm I.ne)).trans I.obj,hn2,I.ne⟩ hs2)
theorem Ie {R:Result->PQ->Prop} {vs:List PP} {kw:List (Str×PP)} (X:K.In s.heap) (hm:PySem.W.makesIn K C=true)
  (hi:QL K (.ref C) "__init__" = some (some (.ref f))) (hf:PySem.W.typeIn K (.ref f)=some (.type "function"))
  (h:codeAny (Qq prog w) (A.under (.builtin "type.__call__" ⟨.ref C::vs,kw⟩)) (.call (.ref f) ⟨.ref (s.heap.objs.size+1)::vs,kw⟩) (PySem.W.InitBack (s.heap.objs.size+1) R)
   { s with heap:=(s.heap.push QT).push (Q5 C s.heap.objs.size) }) :
  codeAny (Qq prog w) A (.call (.ref C) ⟨vs,kw⟩) R s:=by
 obtain ⟨hh,g,d,t,os⟩:=s;exact PySem.W.make_core (PySem.W.makes_of X hm) (Rm X hi) (λ self=>PySem.W.bind_fn X self hf) (.inl rfl) h
end
def tU (f:Str) (v:V):List (Str×V)->List (Str×V)
 | []=>[(f,v)]
 | (g,x)::r=>if g=f then (g,v)::r else (g,x)::tU f v r
theorem yu (f g:Str) (v:V):∀ fs:List (Str×V),(tU f v fs).lookup g=if g=f then some v else fs.lookup g
 | []=>by
  show Rl g [(f,v)]=_;by_cases h:g=f
  ·have hb:(g==f)=true:=beq_iff_eq.mpr h;simp only [Rl,hb,if_pos h]
  ·have hb:(g==f)=false:=beq_eq_false_iff_ne.mpr h;simp only [Rl,hb,if_neg h]
 | (k,x)::r=>by
  have ih:=yu f g v r;rw [show tU f v ((k,x)::r)=(if k=f then (k,v)::r else (k,x)::tU f v r) from rfl];by_cases hk:k=f
  ·rw [if_pos hk];by_cases h:g=k
   ·have hb:(g==k)=true:=beq_iff_eq.mpr h;simp only [Rl,hb,if_pos (h.trans hk)]
   ·have hb:(g==k)=false:=beq_eq_false_iff_ne.mpr h;simp only [Rl,hb,if_neg (λ e:g=f=>h (e.trans hk.symm))]
  ·rw [if_neg hk];by_cases h:g=k
   ·have hb:(g==k)=true:=beq_iff_eq.mpr h;simp only [Rl,hb,if_neg (λ e:g=f=>hk (h.symm.trans e))]
   ·have hb:(g==k)=false:=beq_eq_false_iff_ne.mpr h;simp only [Rl,hb];exact ih
theorem xV (f:Str) (v:V):∀ fs:List (Str×V),f∈(tU f v fs).map (·.1)/\∀ g,g∈fs.map (·.1)->g∈(tU f v fs).map (·.1)
 | []=>⟨by simp [tU],λ g h=>by simp at h⟩
 | (k,x)::r=>by
  obtain ⟨i1,i2⟩:=xV f v r;rw [show tU f v ((k,x)::r)=(if k=f then (k,v)::r else (k,x)::tU f v r) from rfl];by_cases hk:k=f
  ·rw [if_pos hk];subst hk;exact ⟨by simp,λ g h=>by simpa using h⟩
  ·rw [if_neg hk];refine ⟨?_,λ g h=>?_⟩
   ·rw [P2];exact P3 _ i1
   ·rw [P2] at h ⊢;rcases Qh.mp h with e | e
    ·exact Qh.mpr (.inl e)
    ·exact P3 _ (i2 g e)
theorem yx (f:Str) (v:V):∀ fs:List (Str×V),(tU f v fs).length<=fs.length+1
 | []=>by simp [tU]
 | (k,x)::r=>by
  have ih:=yx f v r;rw [show tU f v ((k,x)::r)=(if k=f then (k,v)::r else (k,x)::tU f v r) from rfl];by_cases hk:k=f
  ·rw [if_pos hk,P8,P8]; omega
  ·rw [if_neg hk,P8,P8]; omega
theorem RelO.some_of {v:V} {o:Option PP} (r:RelO (some v) o):∃ u,o=some u/\RelV v u:=by
 cases o with
 | none=>exact (show False from r).elim
 | some u=>exact ⟨u,rfl,r⟩
theorem RelO.none_of {o:Option PP} (r:RelO none o):o=none:=by
 cases o with
 | none=>rfl
 | some u=>exact (show False from r).elim
theorem GT {v:V} (r:RelV v u):PySem.W.handedIn u=true:=by
 cases v with
 | non=>cases (show u=Value.none from r); rfl
 | bl b=>cases (show u=Value.bool b from r); rfl
 | int i=>obtain ⟨t,e⟩:=(show ∃ t,u=Value.int i t from r); cases e; rfl
 | str x=>obtain ⟨t,e⟩:=(show ∃ t,u=Value.str x t from r); cases e; rfl
 | byt b=>obtain ⟨t,e⟩:=(show ∃ t,u=Value.bytes b t from r); cases e; rfl
 | flt b=>obtain ⟨t,e⟩:=(show ∃ t,u=Value.float b t from r); cases e; rfl
 | ref a=>cases (show u=Value.ref a from r); rfl
 | ty n=>cases (show u=Value.type n from r); rfl
section
variable {P:Ql} {w:World} {H H':Hp} {h h':Heap} {a C dx:Qd} {fs fs':List (Str×V)}
theorem Cf (hok:HOk P w H h) (e:H a=some (.ins C dx fs)):∃ mA,ObjM h a dx C mA/\(∀ f,RelO (fs.lookup f) (mA f))/\PySem.Within mA (fs.map (·.1))/\fs.length<=1000/\H dx=some (.own a):=by
 obtain ⟨d,z,ne,ob,mA,n,r,q⟩:=(show ObjOk P w H h a (.ins C dx fs) from hok a _ e);exact ⟨mA,⟨ob,n,ne⟩,r,q,z,d⟩
end
structure Cls (K:PH) (C:Qd):Prop where
 pg:RG K C Str.empty=true
 hd:PySem.W.hasDictIn K C=true
 po:PySem.W.plainOver K C=true
 sa:QL K (.ref C) "__setattr__" = some (some (.builtin "object.__setattr__"))
theorem Cls.get (c:Cls K C) (f:Str):RG K C f=true:=c.pg
def NoAttr (K:PH) (C:Qd) (f:Str):Prop:=QL K (.ref C) f=some none
theorem NoAttr.taker {f:Str} (n:NoAttr K C f):PySem.W.takerIn K C f=some none:=by
 unfold PySem.W.takerIn;rw [show QL K (.ref C) f=some none from n];rfl
structure Con (K:PH) (C:Qd) (f:Str) (v:V) (u:PP):Prop where
 at_:QL K (.ref C) f=some (some u)
 rel:RelV v u
 get:PySem.W.specialIn K u "__get__" = some none
 cp:PySem.W.copiedNames.contains f=false
structure Meth (K:PH) (C:Qd) (m:Str) (f:Qd):Prop where
 at_:QL K (.ref C) m=some (some (.ref f))
 fn:PySem.W.isFn K (.ref f)=true
 kp:QQ K (.ref f)=true
section
variable {X:Cx} {pz:List (Qd×Obj)} {σ:St} {H:Hp} {s:PQ} {a C dx:Qd} {fs:List (Str×V)} {f:Str} {v:V} {A:QI} {E:PP->PQ->Prop}
theorem ET {b:Bool} {Q:PP->PQ->Prop} (I:Inv X pz σ H s) (e:H a=some (.ins C dx fs)) (c:Cls X.K C) (n:NoAttr X.K C f) (l:fs.lookup f=some v)
  (h:∀ u s',Inv X pz σ H s'->RelV v u->Q u s'):Qs (Qq X.prog X.w) A (getAttr (.ref a) f b) Q E s:=by
 obtain ⟨mA,O,r,_,_,_⟩:=Cf I.hok e;obtain ⟨u,hu,ru⟩:=RelO.some_of (v:=v) (o:=mA f) (by rw [<- l]; exact r f);exact KA I.kIn O (c.get f) c.hd n hu (GT ru) (h u _ (I.tok _) ru)
theorem ER {m:Str} {g:Qd} {pl:Sem Bool} {Q:PP×List PP->PQ->Prop} (I:Inv X pz σ H s) (e:H a=some (.ins C dx fs)) (c:Cls X.K C) (k:Meth X.K C m g) (l:fs.lookup m=none)
  (h:Q (.ref g,[.ref a]) s):Qs (Qq X.prog X.w) A (getMethod (.ref a) m pl) Q E s:=by
 obtain ⟨mA,O,r,_,_,_⟩:=Cf I.hok e;have hn:mA m=none:=RelO.none_of (by rw [<- l]; exact r m);exact IG I.kIn O (c.get m) k.at_ k.fn hn h
theorem Ei {Q:Unit->PQ->Prop} (I:Inv X pz σ H s) (e:H a=some (.ins C dx fs)) (c:Cls X.K C) (n:NoAttr X.K C f) (hl:fs.length < 1000) (ry:RelV y u)
  (h:∀ s',Inv X pz σ (upd H a (.ins C dx (tU f y fs))) s'->Q () s'):Qs (Qq X.prog X.w) A (setAttr (.ref a) f u) Q E s:=by
 obtain ⟨mA,O,r,wi,_,ho⟩:=Cf I.hok e;have hz:(fs.map (·.1)).length<=P4:=by rw [PJ,sizeLine_eq]; omega
 refine JL I.kIn O c.sa c.po n.taker c.hd wi hz λ h' O' sb=>h _ ?_;have hd:∃ o,h'.get? dx=some o:=let ⟨o,_,_,e',_⟩:=O'.ns; ⟨o,e'⟩;refine I.write (x:=a) (e:=dx) (by rw [e]; exact True.intro) (.inr ho) (λ b q hb z=>(sb.2 b hb).trans z) hd ?_;refine ⟨by rw [aD O.ne]; exact ho,?_,O.ne,O'.obj,_,O'.ns,λ g=>?_,λ g hg=>?_⟩
 ·have:=yx f y fs; omega
 ·show RelO ((tU f y fs).lookup g) (if g=f then some u else mA g);rw [yu];by_cases q:g=f
  ·rw [if_pos q,if_pos q]; exact ry
  ·rw [if_neg q,if_neg q]; exact r g
 ·by_cases q:g=f
  ·rw [q]; exact (xV f y fs).1
  ·refine (xV f y fs).2 g (wi g λ z=>hg ?_);show (if g=f then some u else mA g)=none;rw [if_neg q]; exact z
theorem Inv.made (I:Inv X pz σ H s):Inv X pz σ (upd (upd H s.heap.objs.size (.own (s.heap.objs.size+1))) (s.heap.objs.size+1) (.ins C s.heap.objs.size []))
  { s with heap:=(s.heap.push QT).push (Q5 C s.heap.objs.size) }:=by
 have e1:(s.heap.push QT).get? s.heap.objs.size=some QT:=Qn s.heap rfl;have e2:((s.heap.push QT).push (Q5 C s.heap.objs.size)).get? (s.heap.objs.size+1)=some (Q5 C s.heap.objs.size):=by
  have:=Qn (s.heap.push QT) (o:=Q5 C s.heap.objs.size) rfl
  rwa [Heap.size_push] at this
 have e3:(s.heap.push QT).Ns s.heap.objs.size (λ _=>none):=⟨QT,#[],_,e1,rfl,(λ e he=>absurd he (by simp)),λ _=>rfl⟩;have I1:=I.laid (a:=s.heap.objs.size) (o:=.own (s.heap.objs.size+1)) (h':=s.heap.push QT) (t':=s.toks) (λ b u q=>PZ _ q) (PV _) ⟨_,e1⟩;refine I1.laid (a:=s.heap.objs.size+1) (o:=.ins C s.heap.objs.size []) (t':=s.toks) (λ b u q=>PZ _ q) (Nat.le_of_eq (Heap.size_push _ _)) ?_;have ne:s.heap.objs.size≠s.heap.objs.size+1:=Qm (Q3 _);refine ⟨by rw [aD ne,aA],Q1 _,ne,e2,λ _=>none,(Heap.Ns1.of_empty e3).at λ o q=>PZ _ q,λ _=>True.intro,λ y hy=>absurd rfl hy⟩
theorem KS {prog:Ql} {w:World} {env:Env} {f:Str} {pos:Pos} {s:PQ} {Q:PP->PQ->Prop} (hb:attributeBase e f env (eval e env)=eval e env)
  (h:Qs (Qq prog w) A (eval e env) (λ o s₁=>Qs (Qq prog w) A (getAttr o f true) Q E s₁) E s):Qs (Qq prog w) A (eval (.Attribute e f pos) env) Q E s :=
 Attribute_any_ h (by rw [arm_eval_Attribute,hb])
end
def OX (K:PH) (ta:TE) (f:Str):TE:=λ σ H Q=>ta σ H λ x H1=>∃ a C dx fs v,x=.ref a/\H1 a=some (.ins C dx fs)/\Cls K C/\NoAttr K C f/\fs.lookup f=some v/\Q v H1
def O3 (K:PH) (ta tv:TE) (f:Str):TS:=λ D σ H=>tv σ H λ y H1=>ta σ H1 λ x H2=>∃ a C dx fs,x=.ref a/\H2 a=some (.ins C dx fs)/\Cls K C/\NoAttr K C f/\fs.length < 1000 /\
 D.nx σ (upd H2 a (.ins C dx (tU f y fs)))
section
variable {X:Cx} {o e value:Expr} {f:Str} {pos pos' tpos:Pos} {ta tv:TE}
theorem HM (he:PE X e ta) (hb:attributeBase e f X.env (eval e X.env)=eval e X.env):PE X (.Attribute e f pos) (OX X.K ta f):=by
 intro pz s σ H Q I h;refine KS hb (thn (he pz s σ H _ I h) λ u s1 ⟨x,H1,I1,rx,a,C,dx,fs,v,ex,ea,c,n,l,q⟩=>?_);subst ex;obtain rfl:u=Value.ref a:=rx;exact ET I1 ea c n l λ u' s2 I2 ru=>⟨v,H1,I2,ru,q⟩
theorem Mg (ha:PE X o ta) (hv:PE X value tv) (hs:swapsWith value (some (.Attribute o f pos')) pos.line X.env=pure false):PS X (.Assign [.Attribute o f pos'] value pos) (O3 X.K ta tv f):=by
 intro pz s σ H D I h;refine plainObj_wpAny_Assign_Attribute (thn (hv pz s σ H _ I h) λ u s1 ⟨y,H1,I1,ry,q⟩=>thn (ha pz s1 σ H1 _ I1 q) λ ov s2 ⟨x,H2,I2,rx,a,C,dx,fs,ex,ea,c,n,l,q2⟩=>?_) hs;subst ex;obtain rfl:ov=Value.ref a:=rx;exact Ei I2 ea c n l ry λ s3 I3=>⟨σ,_,I3,q2⟩
end
section
variable {X:Cx} {pz:List (Qd×Obj)} {σ:St} {H:Hp} {s:PQ} {A:QI} {E:PP->PQ->Prop} {Q:PP->PQ->Prop} {c:PP} {b:Bool}
inductive AC (K:PH) (H:Hp):V->PP->Prop where
 | non:AC K H .non (.type "NoneType")
 | bl (x:Bool):AC K H (.bl x) (.type "bool")
 | int (i:Int):AC K H (.int i) (.type "int")
 | str (x:Str):AC K H (.str x) (.type "str")
 | flt (x:UInt64):AC K H (.flt x) (.type "float")
 | lst {a:Qd} {xs:List V} (e:H a=some (.lst xs)):AC K H (.ref a) (.type "list")
 | frz {a:Qd} {o:Obj} {xs:List V} (e:H a=some (.frz o (.lst xs))):AC K H (.ref a) (.type "list")
 | tup {a:Qd} {xs:List V} (e:H a=some (.tup xs)):AC K H (.ref a) (.type "tuple")
 | dK {a:Qd} {kvs:List (Key×V)} (e:H a=some (.dK kvs)):AC K H (.ref a) (.type "dict")
 | dT {a:Qd} {kvs:List (List Key×V)} (e:H a=some (.dT kvs)):AC K H (.ref a) (.type "dict")
 | ins {a C dx:Qd} {fs:List (Str×V)} (e:H a=some (.ins C dx fs)) (cl:Cls K C) (ha:QL K (.ref C) "__class__" = some (some (.builtin "object.__class__")))
   (hn:PySem.W.specialIn K (.builtin "object.__class__") "__get__" = some (some (.builtin "getset_descriptor.__get__"))) (htk:PySem.W.takesIn K (.builtin "object.__class__")=some true)
   (hm:Q2 K C (.type "object")=some true):AC K H (.ref a) (.ref C)
end
structure Room (k:Nat) (A:QI):Prop where
 hd:A.handled=none
 dp:A.depth+3*k+5 < recursionLimit
 un:A.units+16*k+200 < cLine
theorem Room.mono {A:QI} (r:Room k A) (h:j<=k):Room j A:=⟨r.hd,by have:=r.dp; omega,by have:=r.un; omega⟩
theorem Room.deeper {A:QI} (r:Room (k+1) A) (env:Env):Room k (A.deeper env) :=
 ⟨r.hd,by have:=r.dp; show A.depth+1+3*k+5 < _; omega,by have:=r.un; show A.units+3+16*k+200 < _; omega⟩
theorem Ez {A:QI} :(A.under (.builtin "type.__call__" ⟨.ref C::us,kw⟩)).depth=A.depth+1:=by
 first | rfl | simp [Around.under,Code.weight,Code.isCreation,Code.isGuard,Code.isCaller,Code.frames,Code.isFrame,guardIds]
theorem Ey {A:QI} :(A.under (.builtin "type.__call__" ⟨.ref C::us,kw⟩)).units=A.units+1:=by
 first | rfl | simp [Around.under,Code.cUnits,Code.frames,Code.isFrame]
theorem Room.make {A:QI} (r:Room (k+1) A) (C:Qd) (us:List PP) (kw:List (Str×PP)):Room k (A.under (.builtin "type.__call__" ⟨.ref C::us,kw⟩)) :=
 ⟨r.hd,by have:=r.dp; rw [Ez]; omega,by have:=r.un; rw [Ey]; omega⟩
theorem Room.depth {A:QI} (r:Room k A):A.depth < recursionLimit:=by have:=r.dp; omega
theorem Room.units {A:QI} (r:Room k A):A.units+64 < cLine:=by have:=r.un; omega
def CQ:TA:=λ _ H Q=>Q [] H
def wq (ta:TE) (tr:TA):TA:=λ σ H Q=>ta σ H λ x H1=>tr σ H1 λ xs H2=>Q (x::xs) H2
section
variable {X:Cx} {e:Expr} {es:List Expr} {te:TE} {t:TA} {pos:Pos}
theorem pJ:PA X [] CQ:=λ _ _ _ _ H Q I h=>Calls.spliced_nil ⟨[],H,I,.nil,h⟩
theorem iF (ha:PE X e te) (hr:PA X es t) (hs:PX (e::es) X.env=(false,eval e X.env)::PX es X.env:=by rfl):PA X (e::es) (wq te t):=by
 intro pos pz s σ H Q I h;rw [hs];show Qs _ _ (spliced ((false,eval e X.env)::backTo pos (PX es X.env))) _ _ s;refine Calls.spliced_cons (thn (ha pz s σ H _ I h) λ u s1 ⟨x,H1,I1,r1,q1⟩=>?_);exact thn (hr pos pz s1 σ H1 _ I1 q1) λ us s2 ⟨xs,H2,I2,r2,q2⟩=>⟨x::xs,H2,I2,.cons r1 r2,q2⟩
def ND (t:TA):TE:=λ σ H Q=>t σ H λ xs H1=>xs.length<=P4/\∀ p,H1 p=none->Q (.ref p) (upd H1 p (.tup xs))
def L5 (t:TA):TE:=λ σ H Q=>t σ H λ xs H1=>xs.length<=P4/\∀ p,H1 p=none->Q (.ref p) (upd H1 p (.lst xs))
theorem Ep {x1} (h:PA X es t):PE X (.Tuple es x1 pos) (ND t):=by
 intro pz s σ H Q I hq;refine wpAny_Tuple_spliced (thn (h pos pz s σ H _ I hq) λ us s1 ⟨xs,H1,I1,r,z,q⟩=>⟨by rw [<- r.length]; exact z,?_⟩);have hf:H1 s1.heap.objs.size=none:=I1.hok.fresh (PV _);refine ⟨.ref s1.heap.objs.size,upd H1 s1.heap.objs.size (.tup xs),I1.laid (t':=s1.toks) (λ b u e=>PZ _ e) (PV _) ?_,rfl,q _ hf⟩;exact ⟨z,us,r,⟨_,Qn _ rfl,rfl,_,rfl⟩⟩
theorem BS (h:PA X es t):PE X (.List es pos) (L5 t):=by
 intro pz s σ H Q I hq;refine wpAny_List_spliced (thn (h pos pz s σ H _ I hq) λ us s1 ⟨xs,H1,I1,r,z,q⟩=>⟨by rw [<- r.length]; exact z,?_⟩);have hf:H1 s1.heap.objs.size=none:=I1.hok.fresh (PV _);refine ⟨.ref s1.heap.objs.size,upd H1 s1.heap.objs.size (.lst xs),I1.laid (t':=s1.toks) (λ b u e=>PZ _ e) (PV _) ?_,rfl,q _ hf⟩;exact ⟨z,us,0,r,Qn _ rfl⟩
end
abbrev Sp:=List V->Hp->VK->XK->Prop
abbrev CXT:=List Env->Hp->PQ->XK->PP->PQ->Prop
variable {CX:CXT}
structure Env0 (P:Ql) (w:World) (K:PH) (mg:Str->Option PP) (base:Heap) (A:QI) (outer:List Env) (s:PQ) (H:Hp):Prop where
 frames:A.frames=some outer
 mod:Mod K mg base
 bs:∀ b o,base.get? b=some o->s.heap.get? b=some o/\H b=none
 bsz:base.objs.size<=s.heap.objs.size
 funs:s.heap.FunFrames base outer
 frf:∀ b∈frs outer,H b=none
 hok:HOk P w H s.heap
 bare:AllBare s.gens
def CE (outer:List Env) (P:Ql) (w:World) (H:Hp) (s:PQ) (Q:VK) (u:PP) (s':PQ):Prop :=
 ∃ v H',s'.os=s.os/\AllBare s'.gens/\Un (frs outer) [] H H' s.heap s'.heap/\HOk P w H' s'.heap/\RelV v u/\Q v H'
def CR (CX:CXT) (outer:List Env) (P:Ql) (w:World) (H:Hp) (s:PQ) (Q:VK) (E:XK) (r:Result) (s':PQ):Prop :=
 match r with
 | .ok (.ret u)=>CE outer P w H s Q u s'
 | .ok _=>False
 | .error e=>CX outer H s E e s'
structure FnOk (P:Ql) (w:World) (K:PH) (mg:Str->Option PP) (base:Heap) (CX:CXT) (k:Nat) (f:Qd) (fd:QX) (ps:List Str) (sp:Sp):Prop where
 len:∀ vs H Q E,sp vs H Q E->vs.length=ps.length
 run:∀ (A:QI) (outer:List Env) (s:PQ) (H:Hp) (args:Args) (us:List PP) (vs:List V) (Q:VK) (E:XK),Room k A->Env0 P w K mg base A outer s H->BindsTo s fd args (ps.zip us)->Vals vs us->sp vs H Q E ->
  codeAny (Qq P w) A (.call (.ref f) args) (CR CX outer P w H s Q E) s
theorem FnOk.mono {P:Ql} {f:Qd} {sp:Sp} (F:FnOk P w K mg base CX j f fd ps sp) (h:j<=k) :
  FnOk P w K mg base CX k f fd ps sp:=⟨F.len,λ A outer s H args us vs Q E hr=>F.run A outer s H args us vs Q E (hr.mono h)⟩
theorem FnOk.imp {P:Ql} {f:Qd} {sp sp':Sp} (F:FnOk P w K mg base CX k f fd ps sp)
  (h:∀ vs H Q E,sp' vs H Q E->sp vs H Q E):FnOk P w K mg base CX k f fd ps sp' :=
 ⟨λ vs H Q E q=>F.len vs H Q E (h _ _ _ _ q),λ A outer s H args us vs Q E hr he hb hv hs=>F.run A outer s H args us vs Q E hr he hb hv (h _ _ _ _ hs)⟩
theorem Env0.make {P:Ql} {A:QI} {outer:List Env} {s:PQ} (e:Env0 P w K mg base A outer s H) (C:Qd) (us:List PP) (kw:List (Str×PP)) :
  Env0 P w K mg base (A.under (.builtin "type.__call__" ⟨.ref C::us,kw⟩)) outer s H:=⟨by first | exact e.frames | (simpa [Around.under,Code.envs,Code.isFrame,pushEnvs] using e.frames),e.mod,e.bs,e.bsz,e.funs,e.frf,e.hok,e.bare⟩
section
variable {X:Cx} {pz:List (Qd×Obj)} {σ:St} {H:Hp} {s s':PQ}
theorem Inv.env0 (I:Inv X pz σ H s):Env0 X.prog X.w X.K X.mg X.base X.A X.stack s H :=
 ⟨I.ok.frames,I.ok.mod,I.bs,Qg I.ok.bsz I.sz,I.stack,I.stkFree,I.hok,I.bare⟩
theorem Inv.after {Q:VK} (I:Inv X pz σ H s) (h:CE X.stack X.prog X.w H s Q u s'):EP X pz σ Q u s':=by
 obtain ⟨v,H',os,bare,un,hok,r,q⟩:=h;obtain ⟨hh,g,d,t,os'⟩:=s';obtain rfl:os'=s.os:=os;exact ⟨v,H',I.call (h':=hh) (g':=g) (d':=d) (t':=t) (ch:=[]) un hok bare (λ b z=>absurd z (by simp)),r,q⟩
end
def Li (sp:Sp) (dvs:List V) (E:XK) (t:TA):TE:=λ σ H Q=>t σ H λ vs H1=>sp (vs++dvs) H1 Q E
def Lg (C:Qd) (m:Str) (sp:Sp) (dvs:List V) (E:XK) (ta:TE) (t:TA):TE:=λ σ H Q=>ta σ H λ x H1=>∃ a dx fs,x=.ref a/\H1 a=some (.ins C dx fs)/\fs.lookup m=none /\
 t σ H1 λ vs H2=>sp (x::(vs++dvs)) H2 Q E
def Lh (C:Qd) (sp:Sp) (dvs:List V) (E:XK) (t:TA):TE:=λ σ H Q=>t σ H λ vs H1=>∀ x dx,H1 x=none->H1 dx=none->dx≠x ->
 sp (.ref x::(vs++dvs)) (upd (upd H1 dx (.own x)) x (.ins C dx [])) (λ v H2=>v=.non/\Q (.ref x) H2) E
def Binds (K:PH) (fd:QX) (ps:List Str) (ds:List PP):Prop :=
 ∀ (s:PQ) (us:List PP),K.In s.heap->(us++ds).length=ps.length->BindsTo s fd ⟨us,[]⟩ (ps.zip (us++ds))
theorem Binds.all (h:∀ us:List PP,us.length=ps.length->bindArgs fd ⟨us,[]⟩=pure (ps.zip us)):Binds K fd ps []:=λ s us _ hl=>by
 rw [Qr] at hl ⊢;exact .of_eq (h us hl)
def Passes (CX:CXT) (X:Cx) (E:XK):Prop:=∀ (pz:List (Qd×Obj)) (σ:St) (H:Hp) (s:PQ) (e:PP) (s':PQ),Inv X pz σ H s->CX X.stack H s E e s'->X.xe e s'
section
variable {X:Cx} {CX:CXT} {k:Nat} {f C:Qd} {fd:QX} {ps:List Str} {sp:Sp} {dvs:List V} {ds:List PP} {E:XK} {x m:Str} {p pos apos:Pos} {e o:Expr} {es:List Expr} {ta:TE} {t:TA}
theorem Ej {pz:List (Qd×Obj)} {σ:St} {H:Hp} {s:PQ} {Q:VK} {us:List PP} {vs:List V} (F:FnOk X.prog X.w X.K X.mg X.base CX k f fd ps sp) (hr:Room k X.A) (hb:Binds X.K fd ps ds) (hd:Vals dvs ds) (hx:Passes CX X E)
  (I:Inv X pz σ H s) (r:Vals vs us) (h:sp (vs++dvs) H Q E):Qs (Qq X.prog X.w) X.A (call (.ref f) us) (EP X pz σ Q) X.xe s:=by
 have r2:Vals (vs++dvs) (us++ds):=r.append hd;have hl:(us++ds).length=ps.length:=by rw [<- r2.length]; exact F.len _ _ _ _ h
 refine wpAny_call (codeAny_mono (F.run X.A X.stack s H ⟨us,[]⟩ (us++ds) (vs++dvs) Q E hr I.env0 (hb s us I.kIn hl) r2 h) λ r s' hq=>?_);cases r with
 | error e=>exact hx pz σ H s e s' I hq
 | ok fl =>
  cases fl with
  | ret u=>exact I.after hq
  | next=>exact False.elim hq
  | brk=>exact False.elim hq
  | cont=>exact False.elim hq
theorem BU (F:FnOk X.prog X.w X.K X.mg X.base CX k f fd ps sp) (hr:Room k X.A) (hg:Gl X x) (hm:X.mg x=some (.ref f)) (hk:QQ X.K (.ref f)=true) (hb:Binds X.K fd ps ds) (hd:Vals dvs ds) (hx:Passes CX X E)
  (ha:PA X (e::es) t) (hdb:Nd x:=by decide) (he:PX (e::es) X.env=(false,eval e X.env)::PX es X.env:=by rfl) (hpl:(backTo pos (PX es X.env)).any (·.1)=false:=by rfl) :
  PE X (.Call (.Name x p) (e::es) [] pos) (Li sp dvs E t):=by
 intro pz s σ H Q I h;refine wpAny_Call_Name_kw (qy I hg hm ?_ hdb);refine Rv (h₀:=X.base) I.ok.mod.kin hk (thn (ha pos pz s σ H _ I h) λ us s1 ⟨vs,H1,I1,r,q⟩=>⟨I1.kIn,?_⟩) he hpl;exact Ej F hr hb hd hx I1 r q
theorem HR (F:FnOk X.prog X.w X.K X.mg X.base CX k f fd ps sp) (hr:Room k X.A) (hg:Gl X x) (hm:X.mg x=some (.ref f)) (hk:QQ X.K (.ref f)=true) (hb:Binds X.K fd ps ds) (hd:Vals dvs ds) (hx:Passes CX X E)
  (hdb:Nd x:=by decide):PE X (.Call (.Name x p) [] [] pos) (Li sp dvs E CQ):=by
 intro pz s σ H Q I h;refine wpAny_Call_Name_kw (qy I hg hm ?_ hdb);exact PySem.W.callWith_K0 I.kIn hk (Ej (us:=[]) F hr hb hd hx I .nil h)
theorem FD {pl:Sem Bool} (he:PE X o ta) (c:Cls X.K C) (hm:Meth X.K C m f) (F:FnOk X.prog X.w X.K X.mg X.base CX k f fd ps sp) (hr:Room k X.A) (hb:Binds X.K fd ps ds) (hd:Vals dvs ds) (hx:Passes CX X E) (ha:PA X (e::es) t)
  (hst:PX (e::es) X.env=(false,eval e X.env)::PX es X.env:=by rfl) (hpl:(backTo pos (PX es X.env)).any (·.1)=false:=by rfl)
  (ht:eval (.Call (.Attribute o m apos) (e::es) [] pos) X.env=(do
   let ov <- eval o X.env
   standAt apos.atName
   let (f,first) <- holding [ov] (getMethod ov m pl)
   callWith pos f first (backTo pos (PX (e::es) X.env)) (backToKw pos (keywordEach [] X.env))):=by rfl) :
  PE X (.Call (.Attribute o m apos) (e::es) [] pos) (Lg C m sp dvs E ta t):=by
 intro pz s σ H Q I h;refine PySem.W.methodCall_KW (pl:=pl) (thn (he pz s σ H _ I h) λ u s1 ⟨x,H1,I1,rx,a,dx,fs,ex,ea,l,q⟩=>?_) ht;subst ex;obtain rfl:u=Value.ref a:=rx;refine ER I1 ea c hm l ?_;refine Rv (first:=[.ref a]) (h₀:=X.base) I.ok.mod.kin hm.kp (thn (ha pos pz s1 σ H1 _ I1 q) λ us s2 ⟨vs,H2,I2,r,q2⟩=>⟨I2.kIn,?_⟩) hst hpl;exact Ej (us:=.ref a::us) (vs:=.ref a::vs) F hr hb hd hx I2 (.cons rfl r) q2
structure Mk (K:PH) (C f:Qd):Prop where
 makes:PySem.W.makesIn K C=true
 init:QL K (.ref C) "__init__" = some (some (.ref f))
 fn:PySem.W.isFn K (.ref f)=true
 kp:QQ K (.ref C)=true
theorem C3 {pz:List (Qd×Obj)} {σ:St} {H:Hp} {s:PQ} {Q:VK} {us:List PP} {vs:List V} (M:Mk X.K C f) (F:FnOk X.prog X.w X.K X.mg X.base CX k f fd ps sp) (hr:Room (k+1) X.A) (hb:Binds X.K fd ps ds) (hd:Vals dvs ds)
  (hx:Passes CX X E) (I:Inv X pz σ H s) (r:Vals vs us)
  (h:∀ x dx,H x=none->H dx=none->dx≠x->sp (.ref x::(vs++dvs)) (upd (upd H dx (.own x)) x (.ins C dx [])) (λ v H2=>v=.non/\Q (.ref x) H2) E) :
  Qs (Qq X.prog X.w) X.A (call (.ref C) us) (EP X pz σ Q) X.xe s:=by
 have hq:=h (s.heap.objs.size+1) s.heap.objs.size (I.hok.fresh (RA _)) (I.hok.fresh (PV _)) (Qm (Q3 _));have I2:=Inv.made (C:=C) I;have r2:Vals (V.ref (s.heap.objs.size+1)::(vs++dvs)) (Value.ref (s.heap.objs.size+1)::(us++ds)):=.cons rfl (r.append hd);have hl:(Value.ref (s.heap.objs.size+1)::us++ds).length=ps.length:=by
  have e:=r2.length;rw [F.len _ _ _ _ hq] at e;exact e.symm
 refine wpAny_call (Ie (f:=f) I.kIn M.makes M.init (beq_iff_eq.mp M.fn) (codeAny_mono (F.run _ X.stack _ _ ⟨Value.ref (s.heap.objs.size+1)::us,[]⟩ (Value.ref (s.heap.objs.size+1)::(us++ds)) _ _ E (hr.make C us [])
  (I2.env0.make C us []) (hb _ (Value.ref (s.heap.objs.size+1)::us) I2.kIn hl) r2 hq) λ r s' hq'=>?_))
 cases r with
 | error e=>exact hx pz σ _ _ e s' I2 hq'
 | ok fl =>
  cases fl with
  | ret u =>
   obtain ⟨v,H',I3,rv,ev,q3⟩:=I2.after hq';subst ev;exact ⟨rv,⟨V.ref (s.heap.objs.size+1),H',I3,rfl,q3⟩⟩
  | next=>exact False.elim hq'
  | brk=>exact False.elim hq'
  | cont=>exact False.elim hq'
theorem J0 (M:Mk X.K C f) (F:FnOk X.prog X.w X.K X.mg X.base CX k f fd ps sp) (hr:Room (k+1) X.A) (hg:Gl X x) (hm:X.mg x=some (.ref C)) (hb:Binds X.K fd ps ds) (hd:Vals dvs ds) (hx:Passes CX X E)
  (ha:PA X (e::es) t) (hdb:Nd x:=by decide) (he:PX (e::es) X.env=(false,eval e X.env)::PX es X.env:=by rfl) (hpl:(backTo pos (PX es X.env)).any (·.1)=false:=by rfl) :
  PE X (.Call (.Name x p) (e::es) [] pos) (Lh C sp dvs E t):=by
 intro pz s σ H Q I h;refine wpAny_Call_Name_kw (qy I hg hm ?_ hdb);refine Rv (h₀:=X.base) I.ok.mod.kin M.kp (thn (ha pos pz s σ H _ I h) λ us s1 ⟨vs,H1,I1,r,q⟩=>⟨I1.kIn,?_⟩) he hpl;exact C3 M F hr hb hd hx I1 r q
theorem HI (M:Mk X.K C f) (F:FnOk X.prog X.w X.K X.mg X.base CX k f fd ps sp) (hr:Room (k+1) X.A) (hg:Gl X x) (hm:X.mg x=some (.ref C)) (hb:Binds X.K fd ps ds) (hd:Vals dvs ds) (hx:Passes CX X E)
  (hdb:Nd x:=by decide):PE X (.Call (.Name x p) [] [] pos) (Lh C sp dvs E CQ):=by
 intro pz s σ H Q I h;refine wpAny_Call_Name_kw (qy I hg hm ?_ hdb);exact PySem.W.callWith_K0 I.kIn M.kp (C3 (us:=[]) M F hr hb hd hx I .nil h)
end
section
variable {X:Cx} {CX:CXT} {k:Nat} {f C:Qd} {fd:QX} {ps ks:List Str} {sp:Sp} {E:XK} {x m:Str} {p pos apos kpos:Pos} {e o:Expr} {es:List Expr} {kws:List Keyword} {te ta:TE} {t tk:TA} {nm:Option Str}
structure KBinds (K:PH) (fd:QX) (ps ks:List Str) (g:List PP->List PP->List PP) (gV:List V->List V->List V):Prop where
 to:∀ (s:PQ) (us ws:List PP),K.In s.heap->(g us ws).length=ps.length->BindsTo s fd ⟨us,ks.zip ws⟩ (ps.zip (g us ws))
 rel:∀ {vs:List V} {us:List PP} {zs:List V} {ws:List PP},Vals vs us->Vals zs ws->Vals (gV vs zs) (g us ws)
variable {g:List PP->List PP->List PP} {gV:List V->List V->List V}
end
structure aI (N P:List Str) (sc:Scope):Prop where
 kind:sc.kind=.function
 co:sc.isCoroutine=false
 gen:sc.isGenerator=false
 nd:N.Nodup
 pre:N.take P.length=P
 par:∀ x∈P,sc.names.lookup x=some .local\/sc.names.lookup x=some .cell
 nofree:∀ y∈sc.names,y.2≠.free
theorem Bx {kindOf:Str->Option NameKind} {x:Str}:∀ {binds:List (Str×PP)} {m:Str->Option PP},(∀ v,(x,v)∉binds)->bindL kindOf binds m x=m x
 | [],_,_=>rfl
 | (n,v)::r,m,h=>by
  unfold bindL;rw [Bx λ w hw=>h w (P3 _ hw)]
  split
  ·have:x≠n:=by rintro rfl; exact h v Qc
   simp [this]
  ·rfl
theorem Bz {kindOf:Str->Option NameKind} {x:Str}:∀ {binds:List (Str×PP)} {m:Str->Option PP},(∀ v,(x,v)∉binds)->bindC kindOf binds m x=m x
 | [],_,_=>rfl
 | (n,v)::r,m,h=>by
  unfold bindC;rw [Bz λ w hw=>h w (P3 _ hw)]
  split
  ·rfl
  ·have:x≠n:=by rintro rfl; exact h v Qc
   simp [this]
theorem By {kindOf:Str->Option NameKind} {x:Str} {v:PP}:∀ {P:List Str} {vs:List PP} {i:Nat} {m:Str->Option PP},P.Nodup->P[i]?=some x->vs[i]?=some v->kindOf x=some .local ->
  bindL kindOf (P.zip vs) m x=some v
 | [],_,_,_,_,h,_,_=>by simp at h
 | _::_,[],_,_,_,_,h,_=>by simp at h
 | p::P,w::vs,0,m,nd,h1,h2,hk=>by
  simp at h1 h2; subst h1; subst h2;show bindL kindOf ((p,w)::P.zip vs) m p=_;unfold bindL;rw [Bx λ v hv=>(Rx.mp nd).1 (RS hv).1,if_pos hk]
  simp
 | p::P,w::vs,i+1,m,nd,h1,h2,hk=>by
  show bindL kindOf ((p,w)::P.zip vs) m x=_;unfold bindL;exact By (i:=i) (Rx.mp nd).2 (by simpa using h1) (by simpa using h2) hk
theorem BA {kindOf:Str->Option NameKind} {x:Str} {v:PP}:∀ {P:List Str} {vs:List PP} {i:Nat} {m:Str->Option PP},P.Nodup->P[i]?=some x->vs[i]?=some v->kindOf x≠some .local ->
  bindC kindOf (P.zip vs) m x=some v
 | [],_,_,_,_,h,_,_=>by simp at h
 | _::_,[],_,_,_,_,h,_=>by simp at h
 | p::P,w::vs,0,m,nd,h1,h2,hk=>by
  simp at h1 h2; subst h1; subst h2;show bindC kindOf ((p,w)::P.zip vs) m p=_;unfold bindC;rw [Bz λ v hv=>(Rx.mp nd).1 (RS hv).1,if_neg hk]
  simp
 | p::P,w::vs,i+1,m,nd,h1,h2,hk=>by
  show bindC kindOf ((p,w)::P.zip vs) m x=_;unfold bindC;exact BA (i:=i) (Rx.mp nd).2 (by simpa using h1) (by simpa using h2) hk
def start (N:List Str) (vs:List V):St:=vs.map some++Qf (N.length - vs.length) none
def so (CX:CXT) (P:Ql) (w:World) (K:PH) (mg:Str->Option PP) (base:Heap) (N:List Str) (qual:Str) (scope:Scope) (f:Qd) (cd:PP) (A:QI) (outer:List Env) (s:PQ) (H:Hp) (E:XK):Cx where
 prog:=P
 w:=w
 K:=K
 mg:=mg
 base:=base
 A:=A.deeper (envOfC qual scope s.heap.objs.size f cd)
 N:=N
 s₀:=s
 H₀:=H
 env:=envOfC qual scope s.heap.objs.size f cd
 outer:=outer
 stack:=envOfC qual scope s.heap.objs.size f cd::outer
 ex:=[]
 calm:=true
 fn:=λ _=>true
 pn:=[]
 xe:=λ e s'=>Qs (Qq P w) (A.deeper (envOfC qual scope s.heap.objs.size f cd)) (leaving (envOfC qual scope s.heap.objs.size f cd) e) (λ _ s''=>CX outer H s E e s'') (λ e' s''=>CX outer H s E e' s'') s'
theorem DU {sc:Scope} {n:Nat} (h:sc.names.lookup x=some .cell):∃ c,(cellsFrom n sc.names []).lookup x=some c:=by
 have q:=RJ sc.names n [] (.inl h);exact Option.isSome_iff_exists.mp q
theorem Bs {CX:CXT} {P:Ql} {w:World} {K:PH} {mg:Str->Option PP} {base:Heap} {N ps:List Str} {qual:Str} {scope:Scope} {f:Qd} {cd:PP} {A:QI} {outer:List Env} {s s1:PQ} {H:Hp} {E:XK} {us:List PP} {vs:List V}
  (S:aI N ps scope) (hd:A.handled=none) (e0:Env0 P w K mg base A outer s H) (hl:vs.length=ps.length) (r:Vals vs us)
  (x:InCallC s s.heap.objs.size (bindL (envOfC qual scope s.heap.objs.size f cd).kindOf (ps.zip us) λ _=>none) (cellsFrom (s.heap.objs.size+1) scope.names []) (bindC (envOfC qual scope s.heap.objs.size f cd).kindOf (ps.zip us) λ _=>none) s1) :
  Inv (so CX P w K mg base N qual scope f cd A outer s H E) [] (start N vs) H s1:=by
 have hpl:ps.length<=N.length:=by have:=congrArg List.length S.pre; rw [List.length_take] at this; omega
 obtain ⟨h1,tk,rfl,hk⟩:=x.done;have noA:∀ b:Qd,b∉(so CX P w K mg base N qual scope f cd A outer s H E).ex:=λ b z=>absurd (show b∈([]:List Qd) from z) (by simp);refine ⟨⟨e0.mod,S.kind,rfl,rfl,PV _,λ y z c h1 h2=>?_,λ y hy=>?_,λ y c _ h=>?_,λ _=>hd,Around.frames_deeper e0.frames,.inr ⟨rfl,rfl⟩,λ b z=>absurd z (noA b),e0.bs,e0.bsz,λ b _ _=>noA b,λ b z=>absurd z (noA b),e0.funs,e0.frf⟩,rfl,e0.bare,Un.kept hk,⟨_,x.toInCall.ns,λ i y v h1 h2 h3=>?_⟩,λ y c h=>⟨_,x.cell y c h⟩,e0.hok.fresh (PV _),λ y c h=>?_,λ p hp=>absurd (show p∈([]:List (Qd×Obj)) from hp) (by simp),e0.hok.kept hk,?_⟩
 ·exact name_of_addr x.apart (PySem.mem_of_lookup h1) (PySem.mem_of_lookup h2)
 ·have hy:scope.names.lookup y=some .cell\/scope.names.lookup y=some .free:=hy;rcases hy with hy | hy
  ·exact DU hy
  ·exact absurd rfl (S.nofree _ (PySem.mem_of_lookup hy))
 ·exact RC (x.above y c (PySem.mem_of_lookup h))
 ·have hi:i < vs.length:=by
   unfold start at h2;by_cases hi:i < vs.length
   ·exact hi
   ·rw [P0 (by simpa using hi)] at h2;rw [Q8] at h2;split at h2 <;> cases h2
  have ha:vs[i]?=some v:=by
   unfold start at h2;rw [PM (by simpa using hi),P9] at h2;cases e:vs[i]? with
   | none=>rw [e] at h2; cases h2
   | some a=>rw [e] at h2; cases h2; rfl
  obtain ⟨u,hu,rv⟩:=r.get ha;have hp:ps[i]?=some y:=by
   rw [<- S.pre,List.getElem?_take_of_lt (by omega)]; exact h1
  have ndP:ps.Nodup:=by rw [<- S.pre]; exact S.nd.sublist (List.take_sublist _ _)
  refine ⟨u,rv,?_⟩;rcases S.par y (RX hp) with k | k
  ·exact .inl ⟨k,By ndP hp hu k⟩
  ·obtain ⟨c,e⟩:=DU (n:=s.heap.objs.size+1) k;refine .inr ⟨.inl k,c,e,?_⟩;have q:=x.cell y c e;rw [BA ndP hp hu (by show scope.names.lookup y≠_; rw [k]; decide)] at q;exact q
 ·exact e0.hok.fresh (RC (x.above y c (PySem.mem_of_lookup h)))
 ·unfold start;show _=N.length;rw [PL,PJ,Re];omega
theorem IH {CX:CXT} {P:Ql} {w:World} {K:PH} {mg:Str->Option PP} {base:Heap} {k:Nat} {f:Qd} {name qual:Str} {params:Arguments} {body:List Stmt} {scope:Scope} {dV kV doc pm cdv ct oc:PP} {an od:Option Qd}
  {osl:Array (Option PP)} {N ps:List Str} {sp:Sp} (lk:K.lookup f=some ⟨oc,od,.func (Ry name qual params body scope dV kV doc pm an cdv ct),osl⟩) (hcd:PySem.W.codeIn K cdv qual=true) (S:aI N ps scope)
  (len:∀ vs H Q E,sp vs H Q E->vs.length=ps.length)
  (hbody:∀ (A:QI) (outer:List Env) (s:PQ) (H:Hp) (vs:List V) (Q:VK) (E:XK),Room k (A.deeper (envOfC qual scope s.heap.objs.size f cdv))->sp vs H Q E ->
   ∃ t,PSs (so CX P w K mg base N qual scope f cdv A outer s H E) body t/\t { nx:=λ _ H'=>Q .non H',rt:=Q } (start N vs) H) :
  FnOk P w K mg base CX (k+1) f (Ry name qual params body scope dV kV doc pm an cdv ct) ps sp:=by
 refine ⟨len,λ A outer s H args us vs Q E hr e0 hb r hsp=>?_⟩;have hl:=len _ _ _ _ hsp;have KX:K.In s.heap:=e0.mod.kin.keeps λ b o e=>(e0.bs b o e).1;have lim:s.heap.NoLimit:=e0.mod.nolimit.keeps λ b o e=>(e0.bs b o e).1;have hkind:∀ y∈ps.zip us,scope.names.lookup y.1=some .local\/(scope.names.lookup y.1=some .cell/\((cellsFrom (s.heap.objs.size+1) scope.names []).lookup y.1).isSome=true):=λ ⟨n,v⟩ hy=>by
  rcases S.par n (RS hy).1 with q | q
  ·exact .inl q
  ·exact .inr ⟨q,RJ _ _ _ (.inl q)⟩
 refine codeAny_call_function hr.depth (KX _ _ lk) rfl S.co S.gen rfl (PySem.W.codeRec_of KX hcd) (hb _ _ _ _ ?_);refine wpAny_newFunctionEnv_cells S.kind hkind λ env he s1 x=>?_;subst he;refine ⟨lim.keeps x.toInCall.keep,codeAny_func ?_⟩;obtain ⟨t,ht,hq⟩:=hbody A outer s H vs Q E (hr.deeper _) hsp;have I:Inv (so CX P w K mg base N qual scope f cdv A outer s H E) [] (start N vs) H s1:=Bs S hr.hd e0 hl r x;refine wpAny_mono (ht [] s1 (start N vs) H _ I hq) (λ fl s' hs=>?_) λ e s' hs=>hs;have fin:∀ {σ':St} {H':Hp} {v:V} {u:PP},Inv (so CX P w K mg base N qual scope f cdv A outer s H E) [] σ' H' s'->RelV v u->Q v H'->CE outer P w H s Q u s' :=
  λ {σ' H' v u} J rv q=>⟨v,H',J.os,J.bare,J.base,J.hok,rv,q⟩
 cases fl with
 | ret u =>
  obtain ⟨v,σ',H',J,rv,q⟩:=hs;exact fin J rv q
 | next =>
  obtain ⟨σ',H',J,q⟩:=hs;exact fin (v:=V.non) (u:=Value.none) J rfl q
 | brk =>
  obtain ⟨_,_,_,q⟩:=hs;exact False.elim q
 | cont =>
  obtain ⟨_,_,_,q⟩:=hs;exact False.elim q
section
variable {X:Cx} {x:Str} {p pos:Pos} {e:Expr} {es:List Expr} {t:TA} {id T:String} {r:List V->Hp->VK->Prop}
def tCB (r:List V->Hp->VK->Prop) (t:TA):TE:=λ σ H Q=>t σ H λ vs H1=>r vs H1 Q
theorem wA (hc:CallR X (.builtin id) r) (hg:Gl X x) (hm:X.mg x=none) (hv:bootBuiltins x=some (.builtin id)) (ha:PA X (e::es) t) (hn:x ≠ "__name__" := by decide) (hdb:Nd x:=by decide)
  (he:PX (e::es) X.env=(false,eval e X.env)::PX es X.env:=by rfl) (hpl:(backTo pos (PX es X.env)).any (·.1)=false:=by rfl):PE X (.Call (.Name x p) (e::es) [] pos) (tCB r t):=by
 intro pz s σ H Q I h;refine wpAny_Call_Name_kw (uv I hg hm hv ?_ hn hdb);exact PyProof.Rows.callWith_builtin1 (thn (ha pos pz s σ H _ I h) λ us s1 ⟨vs,H1,I1,r1,q1⟩=>hc pz s1 σ H1 vs us Q I1 r1 q1) he hpl
theorem xJ (hc:CallR X (.type T) r) (hg:Gl X x) (hm:X.mg x=none) (hv:bootBuiltins x=some (.type T)) (ha:PA X (e::es) t) (hn:x ≠ "__name__" := by decide) (hdb:Nd x:=by decide)
  (he:PX (e::es) X.env=(false,eval e X.env)::PX es X.env:=by rfl) (hpl:(backTo pos (PX es X.env)).any (·.1)=false:=by rfl):PE X (.Call (.Name x p) (e::es) [] pos) (tCB r t):=by
 intro pz s σ H Q I h;refine wpAny_Call_Name_kw (uv I hg hm hv ?_ hn hdb);exact PyProof.Rows.callWith_type1 (thn (ha pos pz s σ H _ I h) λ us s1 ⟨vs,H1,I1,r1,q1⟩=>hc pz s1 σ H1 vs us Q I1 r1 q1) he hpl
end
end L2
namespace HT
open PySem PyProof.Rows
section
open PySem.SeqAt
open PySem.AutoSeq1 (wpAny_loadPart')
open PySem.MeetsSeq PySem.MeetsSeq2 PySem.MeetsSeq3
end
section
variable {prog:Ql} {w:World} {A:QI} {E:PP->PQ->Prop} {s:PQ}
theorem cat_tup {t b:Qd} {vs ws:List PP} {Q:PP->PQ->Prop} (ht:IsTup s.heap t vs.toArray) (hb:IsTup s.heap b ws.toArray) (hv:vs≠[])
  (h1:ws=[]->Q (.ref t) s) (h2:ws≠[]->Q (.ref s.heap.objs.size) { s with heap:=s.heap.push { cls:=.type "tuple", data:=.seq (vs++ws).toArray } })
  (hsz:vs.length+ws.length<=P4):Qs (Qq prog w) A (binaryOp .Add (.ref t) (.ref b)) Q E s:=by
 obtain ⟨⟨cls,dd,data,sl⟩,ho,hc,n,hd⟩:=id ht;obtain ⟨⟨cls2,dd2,data2,sl2⟩,ho2,hc2,n2,hd2⟩:=id hb;simp only at hc hd hc2 hd2;subst hc hd hc2 hd2;have e:vs.toArray++ws.toArray=(vs++ws).toArray:=by simp
 by_cases hw:ws=[]
 ·exact concat_meets ⟨_,ho,rfl⟩ ⟨_,ho2,rfl⟩ noFill_tuple_add seq_tuple_add PySem.F.slot_tuple_add PySem.F.entry_tuple_add (PySem.F.args_tuple_add_2 _ _)
   (tuple_addW1 t b vs.toArray ws.toArray n n2 dd dd2 sl sl2 (by simpa using hv) (by simp [hw])) ⟨ho,ho2,h1 hw⟩
 ·refine concat_meets ⟨_,ho,rfl⟩ ⟨_,ho2,rfl⟩ noFill_tuple_add seq_tuple_add PySem.F.slot_tuple_add PySem.F.entry_tuple_add (PySem.F.args_tuple_add_2 _ _)
   (tuple_addW2 t b vs.toArray ws.toArray n n2 dd dd2 sl sl2 (by simpa using hv) (by simpa using hw) (by rw [P6,P6]; exact hsz)) ⟨ho,ho2,?_⟩
  rw [e];exact h2 hw
def sIx (n d:Nat):Option Int->Nat
 | none=>d
 | some v=>if v < 0 then (v+(n:Int)).toNat else min v.toNat n
theorem sIx_none (n d:Nat):sIx n d none=d:=rfl
theorem sIx_nat (n d k:Nat):sIx n d (some (k:Int))=min k n:=by
 show (if (k:Int) < 0 then ((k:Int)+(n:Int)).toNat else min (k:Int).toNat n)=min k n;rw [if_neg (by omega),Int.toNat_natCast]
theorem Me (n d:Nat) (hd:d<=n) (o:Option Int):sIx n d o<=n:=by
 cases o with
 | none=>exact hd
 | some v =>
  show (if v < 0 then (v+(n:Int)).toNat else min v.toNat n)<=n;by_cases hv:v < 0
  ·rw [if_pos hv]; omega
  ·rw [if_neg hv]; exact Nat.min_le_right _ _
theorem Ga (v:Int) (n d:Nat):(if v < 0 then max (v+(n:Int)) 0 else min v (n:Int))=((sIx n d (some v):Nat):Int):=by
 show (if v < 0 then max (v+(n:Int)) 0 else min v (n:Int))=(((if v < 0 then (v+(n:Int)).toNat else min v.toNat n):Nat):Int);by_cases hv:v < 0
 ·simp only [if_pos hv]; omega
 ·simp only [if_neg hv]; omega
theorem Fb (lo hi:Option Int) (n:Nat):Builtin.Slice.sliceAdjust lo hi 1 (n:Int)=(((sIx n 0 lo:Nat):Int),((sIx n n hi:Nat):Int)):=by
 have h1:¬ ((1:Int) < 0):=by omega
 unfold Builtin.Slice.sliceAdjust;simp only [h1,if_false];refine Prod.ext ?_ ?_
 ·cases lo with
  | none=>rfl
  | some v=>exact Ga v n 0
 ·cases hi with
  | none=>rfl
  | some v=>exact Ga v n n
theorem Eo (i j:Nat):Builtin.Slice.slicePlaces (i:Int) (j:Int) 1=j - i:=by
 unfold Builtin.Slice.slicePlaces;have h1:(1:Int) > 0:=by omega
 simp only [h1,if_true,Int.ediv_one]
 split <;> omega
theorem zu {v:PP} {o:Option Int} {Q:Option Int->PQ->Prop} (p:IsPart v o) (h:Q o s):Qs (Qq prog w) A (Builtin.Slice.slicePartIndex v) Q E s:=by
 cases p with
 | none=>exact slicePart_none h
 | int i t=>exact slicePart_int h
theorem sliceApplied_gen {sl:Qd} {vl vu:PP} {lo hi:Option Int} {n:Nat} {Q:Int×Int×Nat->PQ->Prop} (hs:s.heap.IsSliceOf sl vl vu .none) (pl:IsPart vl lo) (pu:IsPart vu hi)
  (h:Q (((sIx n 0 lo:Nat):Int),1,sIx n n hi - sIx n 0 lo) s):Qs (Qq prog w) A (Builtin.Slice.sliceApplied (.ref sl) (pure (n:Int))) Q E s:=by
 obtain ⟨os,hos,hcs,hds⟩:=id hs;unfold Builtin.Slice.sliceApplied Builtin.Slice.sliceFields;refine P1 (P1 (wpAny_field hos hds (x:=vl) rfl (P1 (wpAny_field hos hds (x:=vu) rfl (P1 (wpAny_field hos hds (x:=.none) rfl (Qe ?_)))))));refine P1 (slicePart_none ?_);show Qs _ _ (if ((1:Int)==0)=true then _ else _) _ _ s;rw [if_neg (by decide)];refine P1 (zu pl (P1 (zu pu (P1 (Qe ?_)))));show Qs _ _ (match Builtin.Slice.sliceAdjust lo hi 1 (n:Int) with | (lo,hi)=>pure (lo,(1:Int),Builtin.Slice.slicePlaces lo hi 1)) _ _ s;rw [Fb lo hi n];show Qs _ _ (pure (((sIx n 0 lo:Nat):Int),(1:Int),Builtin.Slice.slicePlaces ((sIx n 0 lo:Nat):Int) ((sIx n n hi:Nat):Int) 1)) _ _ s;rw [Eo];exact Qe h
theorem HG (xs:Array PP) (i k:Nat):((List.range k).filterMap λ (m:Nat)=>xs[((i:Int)+(m:Int)*1).toNat]?).toArray=((xs.toList.drop i).take k).toArray:=by
 have e:(λ (m:Nat)=>xs[((i:Int)+(m:Int)*1).toNat]?)=λ m=>xs[i+m]?:=by
  funext m
  have:((i:Int)+(m:Int)*1).toNat=i+m:=by omega
  rw [this]
 rw [e]
 have:=pick_run xs i k
 rw [List.filterMap_map] at this;have e2:((λ x=>xs[x]?)∘λ x=>i+x)=λ m=>xs[i+m]?:=rfl;rw [e2] at this;rw [this]
theorem getItem_tuple_cut {t sl:Qd} {items:Array PP} {vl vu:PP} {lo hi:Option Int} {Q:PP->PQ->Prop} (ht:IsTup s.heap t items) (hs:s.heap.IsSliceOf sl vl vu .none) (pl:IsPart vl lo) (pu:IsPart vu hi)
  (hw:¬ (sIx items.size 0 lo=0/\sIx items.size items.size hi=items.size))
  (h:Q (.ref s.heap.objs.size) { s with heap:=s.heap.push { cls:=.type "tuple", data:=.seq ((items.toList.drop (sIx items.size 0 lo)).take (sIx items.size items.size hi - sIx items.size 0 lo)).toArray } })
  (hsz:items.size<=P4):Qs (Qq prog w) A (getItem (.ref t) (.ref sl)) Q E s:=by
 have htake:sizeOk (.seq ((items.toList.drop (sIx items.size 0 lo)).take (sIx items.size items.size hi - sIx items.size 0 lo)).toArray):=by
  show ((items.toList.drop (sIx items.size 0 lo)).take (sIx items.size items.size hi - sIx items.size 0 lo)).toArray.size<=P4;rw [P6,List.length_take,Qo,Array.length_toList];omega
 have hj:sIx items.size items.size hi<=items.size:=Me _ _ (PV _) hi;obtain ⟨os,hos,hcs,hds⟩:=id hs;have hTs:s.TypeIs (.ref sl) "slice" := ⟨os,hos,hcs⟩;unfold getItem
 try with_reducible refine wpAny_holding ?_
 first | refine P1 (Qe ?_) | skip
 refine P1 (wpAny_sequenceKey ht.typeIs (by decide) ?_);refine P1 (wpAny_callSpecial?_slot (name:=Str.ofString "__getitem__") ht.typeIs PyProof.Rows.slot_tuple_getitem
  (wpAny_call_entry PyProof.Rows.slot_tuple_getitem ht.typeIs entry_tuple_getitem ?_ (args_tuple_getitem _ _)))
 show Qs _ _ (Builtin.Tuple.tupleItemsOf (.ref t) >>= _) _ _ s;refine P1 (tupleItemsOf_ ht ?_);refine P1 (wpAny_typeOf hTs ?_);rw [if_pos (by decide)];refine P1 (sliceApplied_gen hs pl pu ?_);have hno:¬ ((((sIx items.size 0 lo:Nat):Int)==0&&(1:Int)==1&&(sIx items.size items.size hi - sIx items.size 0 lo)==items.size)=true):=by
  intro q;rw [Qp,Qp] at q;have q1:((sIx items.size 0 lo:Nat):Int)=0:=eq_of_beq q.1.1;have q2:sIx items.size items.size hi - sIx items.size 0 lo=items.size:=eq_of_beq q.2;exact hw ⟨by omega,by omega⟩
 show Qs _ _ (if (((sIx items.size 0 lo:Nat):Int)==0&&(1:Int)==1&&(sIx items.size items.size hi - sIx items.size 0 lo)==items.size)=true then _ else _) _ _ s;rw [if_neg hno,HG]
 first
  | exact P1 (m:=Builtin.Tuple.tupleExact _) (wpAny_newObj_type (Qe ⟨_,rfl,Qe h⟩) htake)
  | exact P1 (m:=Builtin.Tuple.tupleExact _) (wpAny_newObj_type (P1 (Qe (Qe ⟨_,rfl,Qe h⟩))) htake)
  | exact P1 (P1 (m:=Builtin.Tuple.tupleExact _) (wpAny_newObj_type (Qe (Qe ⟨_,rfl,Qe h⟩)) htake))
  | exact P1 (P1 (m:=Builtin.Tuple.tupleExact _) (wpAny_newObj_type (Qe ⟨_,rfl,Qe h⟩) htake))
end
end HT
namespace L2
open PySem PySem.Spec PyProof.Rows
variable {n:Nat} {x:V}
abbrev TO:=St->Hp->(Option Int->Hp->Prop)->Prop
def PO (X:Cx) (e:Option Expr) (t:TO):Prop :=
 ∀ (pz:List (Qd×Obj)) (s:PQ) (σ:St) (H:Hp) (Q:Option Int->Hp->Prop),Inv X pz σ H s->t σ H Q ->
  Qs (Qq X.prog X.w) X.A (evalPart e X.env) (λ u s'=>∃ o H',Inv X pz σ H' s'/\IsPart u o/\Q o H') X.xe s
def JE:TO:=λ _ H Q=>Q none H
def NF (t:TE):TO:=λ σ H Q=>t σ H λ x H1=>∃ i,x=.int i/\Q (some i) H1
theorem EM {ns:List Int}:∀ {us:List PP},Vals (ns.map V.int) us->IntsAre us ns:=by
 induction ns with
 | nil=>intro us r; rw [Rn] at r; cases r; exact .nil
 | cons n ns ih =>
  intro us r;rw [P2] at r;cases r with
  | cons r1 r2 =>
   obtain ⟨t,e⟩:=r1;subst e;exact .cons n t (ih r2)
section
variable {X:Cx} {e:Expr} {te:TE} {lo hi:Option Expr} {tl th:TO} {pos p2:Pos}
theorem JZ:PO X none JE:=by
 intro pz s σ H Q I h;rw [evalPart_none];exact Qe ⟨none,H,I,.none,h⟩
theorem JY (h:PE X e te):PO X (some e) (NF te):=by
 intro pz s σ H Q I hw;rw [evalPart_some];refine thn (h pz s σ H _ I hw) λ u s1 ⟨x,H1,I1,r1,q1⟩=>?_;obtain ⟨i,rfl,q⟩:=q1;obtain ⟨t,rfl⟩:=r1;exact ⟨some i,H1,I1,.int i t,q⟩
def SlR (X:Cx) (r:V->Option Int->Option Int->Hp->VK->Prop):Prop :=
 ∀ (pz:List (Qd×Obj)) (s:PQ) (σ:St) (H:Hp) (x:V) (v vl vu:PP) (lo hi:Option Int) (sl:Qd) (Q:VK),Inv X pz σ H s->RelV x v->s.heap.IsSliceOf sl vl vu .none->IsPart vl lo->IsPart vu hi->r x lo hi H Q ->
  ∃ T id,typeLookup (.type T) "__getitem__" = pure (some (.builtin id))/\s.TypeIs v T/\Qs (Qq X.prog X.w) X.A (getItem v (.ref sl)) (EP X pz σ Q) X.xe s
theorem SlR.or {r r':V->Option Int->Option Int->Hp->VK->Prop} (h:SlR X r) (h':SlR X r'):SlR X (λ x lo hi H Q=>r x lo hi H Q\/r' x lo hi H Q):=by
 intro pz s σ H x v vl vu lo hi sl Q I rx hs pl pu q;rcases q with q | q
 ·exact h pz s σ H x v vl vu lo hi sl Q I rx hs pl pu q
 ·exact h' pz s σ H x v vl vu lo hi sl Q I rx hs pl pu q
def tSl (r:V->Option Int->Option Int->Hp->VK->Prop) (te:TE) (tl th:TO):TE:=λ σ H Q=>te σ H λ x H1=>tl σ H1 λ l H2=>th σ H2 λ u H3=>r x l u H3 Q
theorem Db {r:V->Option Int->Option Int->Hp->VK->Prop} (hr:SlR X r) (he:PE X e te) (hl:PO X lo tl) (hu:PO X hi th):PE X (.Subscript e (.Slice lo hi none p2) pos) (tSl r te tl th):=by
 intro pz s σ H Q I h;refine Subscript_ (thn (he pz s σ H _ I h) λ v s1 ⟨x,H1,I1,r1,q1⟩=>?_);refine wpAny_Slice (thn (hl pz s1 σ H1 _ I1 q1) λ vl s2 ⟨l,H2,I2,pl,q2⟩=>thn (hu pz s2 σ H2 _ I2 q2) λ vu s3 ⟨u,H3,I3,pu,q3⟩=>?_);rw [evalPart_none];refine Qe ?_;have I4:Inv X pz σ H3 { s3 with heap:=s3.heap.push { cls:=.type "slice", data:=.fields #[vl,vu,.none] } }:=I3.kept (t':=s3.toks) λ b ob q=>PZ _ q;obtain ⟨T,id,hT,ht,hg⟩:=hr pz { s3 with heap:=s3.heap.push { cls:=.type "slice", data:=.fields #[vl,vu,.none] } } σ H3 x v vl vu l u s3.heap.objs.size Q I4 r1 (Heap.IsSliceOf.new ..) pl pu q3;show Qs (Qq X.prog X.w) X.A (subscriptTail e (.Slice lo hi none p2) v (.ref s3.heap.objs.size)) (EP X pz σ Q) X.xe { s3 with heap:=s3.heap.push { cls:=.type "slice", data:=.fields #[vl,vu,.none] } };exact tail_any (ops:=[.ref s3.heap.objs.size,v]) ht hT hg (by with_unfolding_all rfl)
def yX (xs:List V) (lo hi:Option Int):List V:=(xs.drop (HT.sIx xs.length 0 lo)).take (HT.sIx xs.length xs.length hi - HT.sIx xs.length 0 lo)
theorem yD (xs:List V) (lo hi:Option Int):(yX xs lo hi).length<=xs.length:=by
 unfold yX;rw [List.length_take,Qo];omega
def NU (K:PH):V->Option Int->Option Int->Hp->VK->Prop:=λ x lo hi H Q=>∃ a xs,x=.ref a/\SqT K H a xs /\
 ¬ (HT.sIx xs.length 0 lo=0/\HT.sIx xs.length xs.length hi=xs.length)/\∀ p,H p=none->Q (.ref p) (upd H p (.tup (yX xs lo hi)))
theorem sl_tup:SlR X (NU X.K):=by
 intro pz s σ H x v vl vu lo hi sl Q I rx hs pl pu h;obtain ⟨a,xs,rfl,hx,hw,q⟩:=h;cases rx;obtain ⟨its,r,ht,hz⟩:=I.tuple hx;have hlen:its.toArray.size=xs.length:=by rw [P6]; exact r.length.symm
 refine ⟨"tuple", _,PyProof.Rows.slot_tuple_getitem.lookup,ht.typeIs,?_⟩;refine HT.getItem_tuple_cut ht hs pl pu (by rw [hlen]; exact hw) ?_ (by rw [hlen]; exact hz);rw [hlen];refine ⟨.ref s.heap.objs.size,_,I.laid (t':=s.toks) (o:=.tup (yX xs lo hi)) (λ b ob q=>PZ _ q) (PV _) ?_,rfl,q _ (I.hok.fresh (PV _))⟩;exact ⟨Qg (yD xs lo hi) hz,_,(r.drop (HT.sIx xs.length 0 lo)).take (HT.sIx xs.length xs.length hi - HT.sIx xs.length 0 lo),IsTup.new _ _⟩
theorem Vals.nil_iff {xs:List V} {us:List PP} (r:Vals xs us):us=[]↔xs=[]:=by
 cases r with
 | nil=>simp
 | cons _ _=>simp
end
def ixN (n:Nat) (i:Int):Option Nat:=if 0<=i then (if i < n then some i.toNat else none) else if -(n:Int)<=i then some (i+n).toNat else none
def atI {α:Type} (xs:List α) (i:Int):Option α:=(ixN xs.length i).bind λ j=>xs[j]?
theorem Kt {i:Int} {j:Nat} (h:ixN n i=some j):seqIndex? i n=some j/\j < n/\-(n:Int)<=i/\i < n:=by
 unfold ixN at h;by_cases h0:0<=i
 ·rw [if_pos h0] at h;by_cases h1:i < n
  ·rw [if_pos h1] at h;have e:i.toNat=j:=Option.some.inj h;exact ⟨by rw [seqIndex_of h0 h1,e],by omega,by omega,h1⟩
  ·rw [if_neg h1] at h; cases h
 ·rw [if_neg h0] at h;by_cases h1:-(n:Int)<=i
  ·rw [if_pos h1] at h;have e:(i+n).toNat=j:=Option.some.inj h;exact ⟨by rw [seqIndex_neg (by omega) h1,e],by omega,h1,by omega⟩
  ·rw [if_neg h1] at h; cases h
theorem Cw {α:Type} {xs:List α} {i:Int} {v:α} (h:atI xs i=some v):∃ j,seqIndex? i xs.length=some j/\xs[j]?=some v/\j < xs.length/\-(xs.length:Int)<=i/\i < xs.length:=by
 unfold atI at h;cases e:ixN xs.length i with
 | none=>rw [e] at h; cases h
 | some j =>
  rw [e] at h;obtain ⟨h1,h2,h3,h4⟩:=Kt e;exact ⟨j,h1,h,h2,h3,h4⟩
theorem zj {α:Type} {xs:List α} {j:Nat} {v:α} (h:xs[j]?=some v):atI xs (j:Int)=some v:=by
 have hj:j < xs.length:=(PR.mp h).1;have e:ixN xs.length (j:Int)=some j:=by
  unfold ixN;rw [if_pos (by omega),if_pos (by omega)]; simp
 unfold atI; rw [e]; exact h
def uZ (b:Expr):Prop:=∀ o i,subscripted b false o i=operate [o,i] (getItem o i)
def IxR (X:Cx) (r:R2):Prop :=
 ∀ (value slice:Expr) (pz:List (Qd×Obj)) (s:PQ) (σ:St) (H:Hp) (x y:V) (v u:PP) (Q:VK),Inv X pz σ H s->RelV x v->RelV y u->r x y H Q ->
  subscripted slice false v u=operate [v,u] (getItem v u)->Qs (Qq X.prog X.w) X.A (subscriptTail value slice v u) (EP X pz σ Q) X.xe s
def MtR (X:Cx) (id:String) (r:V->List V->Hp->VK->Prop):Prop :=
 ∀ (pz:List (Qd×Obj)) (s:PQ) (σ:St) (H:Hp) (x:V) (xs:List V) (v:PP) (us:List PP) (Q:VK),Inv X pz σ H s->RelV x v->Vals xs us->r x xs H Q ->
  Qs (Qq X.prog X.w) X.A (call (.builtin id) (v::us)) (EP X pz σ Q) X.xe s
section
variable {X:Cx} {a b:Expr} {ta tb:TE} {pos:Pos}
theorem IxR.or {r r':R2} (h:IxR X r) (h':IxR X r'):IxR X (λ x y H Q=>r x y H Q\/r' x y H Q):=by
 intro value slice pz s σ H x y v u Q I rx ry q hs;rcases q with q | q
 ·exact h value slice pz s σ H x y v u Q I rx ry q hs
 ·exact h' value slice pz s σ H x y v u Q I rx ry q hs
theorem HJ {r:R2} (hr:IxR X r) (ha:PE X a ta) (hb:PE X b tb) (hs:uZ b):PE X (.Subscript a b pos) (tOp r ta tb):=by
 intro pz s σ H Q I h;exact Subscript_ (Na ha hb I h λ v u s2 x y H2 I2 rx ry q=>hr a b pz s2 σ H2 x y v u Q I2 rx ry q (hs _ _))
def NZ (K:PH):R2:=λ x y H Q=>∃ p xs i v,x=.ref p/\y=.int i/\SqL K H p xs/\atI xs i=some v/\Q v H
def NX (K:PH):R2:=λ x y H Q=>∃ p xs i v,x=.ref p/\y=.int i/\SqT K H p xs/\atI xs i=some v/\Q v H
def NY:R2:=λ x y H Q=>∃ z i c,x=.str z/\y=.int i/\z.length<=P4/\atI z.cps.toList i=some c/\Q (.str ⟨#[c]⟩) H
theorem ix_list:IxR X (NZ X.K):=by
 intro value slice pz s σ H x y v u Q I rx ry h hs;obtain ⟨p,xs,i,z,rfl,rfl,hq,he,q⟩:=h;cases rx;obtain ⟨t,rfl⟩:=ry;obtain ⟨its,r,pl,hz⟩:=I.list hq;obtain ⟨j,h1,h2,h3,h4,h5⟩:=Cw he;obtain ⟨w,ew,rw'⟩:=r.get h2;have hl:=r.length;have hn:=wa;have fin:EP X pz σ Q w s:=⟨z,H,I,rw',q⟩;by_cases h0:0<=i
 ·have hj:i.toNat=j:=by
   rw [seqIndex_of h0 h5] at h1;exact Option.some.inj h1
  exact item_listR pl.isList h0 (by omega) (by rw [hj]; simpa using ew) fin hs
 ·have hj:(i+(its.toArray.size:Int)).toNat=j:=by
   rw [seqIndex_neg (by omega) h4] at h1;rw [P6,<- hl];exact Option.some.inj h1
  exact subscriptTail_builtinR (x:=w) pl.isList.typeIs slot_list_getitem.lookup
   (wpAny_getItem_list_neg (Q:=λ r s'=>r=w/\EP X pz σ Q r s') pl.isList (by omega) (by rw [P6] <;> omega) (by omega) (by rw [hj]; simpa using ew) ⟨rfl,fin⟩) hs
theorem ix_tup:IxR X (NX X.K):=by
 intro value slice pz s σ H x y v u Q I rx ry h hs;obtain ⟨p,xs,i,z,rfl,rfl,hq,he,q⟩:=h;cases rx;obtain ⟨t,rfl⟩:=ry;obtain ⟨its,r,pl,hz⟩:=I.tuple hq;obtain ⟨j,h1,h2,h3,h4,h5⟩:=Cw he;obtain ⟨w,ew,rw'⟩:=r.get h2;have hl:=r.length;have hn:=wa;have fin:EP X pz σ Q w s:=⟨z,H,I,rw',q⟩;exact subscriptTail_builtinR (x:=w) pl.typeIs slot_tuple_getitem.lookup
  (getItem_tuple (j:=j) (Q:=λ r s'=>r=w/\EP X pz σ Q r s') pl (by omega) (by omega) (by rw [P6,<- hl]; exact h1) (by simpa using ew) ⟨rfl,fin⟩) hs
theorem MO:IxR X NY:=by
 intro value slice pz s σ H x y v u Q I rx ry h hs;obtain ⟨z,i,c,rfl,rfl,hz,he,q⟩:=h;obtain ⟨t,rfl⟩:=rx;obtain ⟨t',rfl⟩:=ry;obtain ⟨j,h1,h2,h3,h4,h5⟩:=Cw he;have hl:z.cps.toList.length=z.length:=by simp [Str.length]
 rw [hl] at h1 h4 h5;have hn:=wa;exact tail_any (typeIs_str s z t) slot_str_getitem.lookup (getItem_str (c:=c) (by
  have e1:decide (i < -(2 ^ 63:Int))=false:=decide_eq_false (by omega);have e2:decide (i ≥ 2 ^ 63)=false:=decide_eq_false (by omega);rw [e1,e2,Bool.or_false]) (by rw [h1]; simpa using h2) ⟨.str ⟨#[c]⟩,H,I.tok _,⟨_,rfl⟩,q⟩) hs
def rIx (K:PH):R2:=λ x y H Q=>NZ K x y H Q\/NX K x y H Q\/NY x y H Q
theorem Iz:IxR X (rIx X.K):=ix_list.or (ix_tup.or MO)
theorem BI (lo hi:Option Int) (n:Nat):(sliceBounds lo hi none n).1=((HT.sIx n 0 lo:Nat):Int)/\(sliceBounds lo hi none n).2.1=((HT.sIx n n hi:Nat):Int)/\(sliceBounds lo hi none n).2.2=1:=by
 refine ⟨?_,?_,rfl⟩
 ·cases lo with
  | none=>simp [sliceBounds,HT.sIx]
  | some i =>
   simp only [sliceBounds,HT.sIx,Option.getD_none,show (1:Int) > 0 by decide,if_true];by_cases h:i < 0
   ·simp only [h,if_true] <;> omega
   ·simp only [h,if_false] <;> omega
 ·cases hi with
  | none=>simp [sliceBounds,HT.sIx]
  | some i =>
   simp only [sliceBounds,HT.sIx,Option.getD_none,show (1:Int) > 0 by decide,if_true];by_cases h:i < 0
   ·simp only [h,if_true] <;> omega
   ·simp only [h,if_false] <;> omega
theorem AQ (its:List PP) (lo hi:Option Int):slicePick its.toArray lo hi none=((its.drop (HT.sIx its.length 0 lo)).take (HT.sIx its.length its.length hi - HT.sIx its.length 0 lo)).toArray:=by
 obtain ⟨h1,h2,h3⟩:=BI lo hi its.toArray.size;unfold slicePick;rw [h1,h2,h3];simp only [sliceRange_one,pick_run,P6] <;> rfl
def NV (K:PH):V->Option Int->Option Int->Hp->VK->Prop:=λ x lo hi H Q=>∃ a xs,x=.ref a/\SqL K H a xs/\∀ p,H p=none->Q (.ref p) (upd H p (.lst (yX xs lo hi)))
theorem sl_list:SlR X (NV X.K):=by
 intro pz s σ H x v vl vu lo hi sl Q I rx hs pl pu h;obtain ⟨a,xs,rfl,hx,q⟩:=h;cases rx;obtain ⟨its,r,ht,hz⟩:=I.list hx;have hlen:=r.length;refine ⟨"list", _,slot_list_getitem.lookup,ht.isList.typeIs,?_⟩;refine wpAny_getItem_list_slice ht.isList hs pl pu .none (by simp) ?_ (by rw [P6] <;> omega);rw [AQ,<- hlen];refine ⟨.ref s.heap.objs.size,_,I.laid (t':=s.toks) (o:=.lst (yX xs lo hi)) (λ b ob q=>PZ _ q) (PV _) ?_,rfl,q _ (I.hok.fresh (PV _))⟩;exact ⟨Qg (yD xs lo hi) hz,_,0,(r.drop (HT.sIx xs.length 0 lo)).take (HT.sIx xs.length xs.length hi - HT.sIx xs.length 0 lo),Qn _ rfl⟩
def p9:V->Bool
 | .non=>true
 | .bl _=>true
 | .int _=>true
 | .str _=>true
 | _=>false
def eqV:V->V->Bool
 | .non,.non=>true
 | .bl a,.bl b=>a==b
 | .bl a,.int b=>(if a then 1 else 0)==b
 | .int a,.bl b=>a==(if b then 1 else 0)
 | .int a,.int b=>a==b
 | .str a,.str b=>a==b
 | _,_=>false
theorem M3 {A:QI} {s:PQ} {y:V} {u v:PP} (ry:RelV y u) (rx:RelV x v) (fy:p9 y=true) (fx:p9 x=true):SeqAt.EqAt A s u v (eqV y x):=by
 cases y with
 | non =>
  cases ry;cases x with
  | non=>cases rx; exact SeqAt.EqAt.same _
  | bl b=>cases rx; exact SeqAt.EqAt.none_bool b
  | int b=>obtain ⟨t,rfl⟩:=rx; exact SeqAt.EqAt.none_int b t
  | str b=>obtain ⟨t,rfl⟩:=rx; exact SeqAt.EqAt.none_str b t
  | _=>exact absurd (show false=true from fx) PN
 | bl a =>
  cases ry;cases x with
  | non=>cases rx; exact SeqAt.EqAt.bool_none a
  | bl b=>cases rx; exact SeqAt.EqAt.bool_bool a b
  | int b=>obtain ⟨t,rfl⟩:=rx; exact SeqAt.EqAt.bool_int a b t
  | str b=>obtain ⟨t,rfl⟩:=rx; exact SeqAt.EqAt.bool_str a b t
  | _=>exact absurd (show false=true from fx) PN
 | int a =>
  obtain ⟨t',rfl⟩:=ry;cases x with
  | non=>cases rx; exact SeqAt.EqAt.int_none a t'
  | bl b=>cases rx; exact SeqAt.EqAt.int_bool a t' b
  | int b=>obtain ⟨t,rfl⟩:=rx; exact SeqAt.EqAt.int_int a t' b t
  | str b=>obtain ⟨t,rfl⟩:=rx; exact SeqAt.EqAt.int_str a t' b t
  | _=>exact absurd (show false=true from fx) PN
 | str a =>
  obtain ⟨t',rfl⟩:=ry;cases x with
  | non=>cases rx; exact SeqAt.EqAt.str_none a t'
  | bl b=>cases rx; exact SeqAt.EqAt.str_bool a t' b
  | int b=>obtain ⟨t,rfl⟩:=rx; exact SeqAt.EqAt.str_int a t' b t
  | str b=>obtain ⟨t,rfl⟩:=rx; exact SeqAt.EqAt.str_str a t' b t
  | _=>exact absurd (show false=true from fx) PN
 | _=>exact absurd (show false=true from fy) PN
def eqU (x:V) (u:PP):Bool:=match u with
 | .none=>eqV .non x
 | .bool b=>eqV (.bl b) x
 | .int i _=>eqV (.int i) x
 | .str z _=>eqV (.str z) x
 | _=>false
theorem Ck {y:V} {u:PP} (r:RelV y u) (f:p9 y=true):eqU x u=eqV y x:=by
 cases y with
 | non=>cases r; rfl
 | bl b=>cases r; rfl
 | int i=>obtain ⟨t,rfl⟩:=r; rfl
 | str z=>obtain ⟨t,rfl⟩:=r; rfl
 | _=>exact absurd (show false=true from f) PN
theorem xu {x:V}:∀ {xs:List V} {us:List PP},Vals xs us->xs.all p9=true->us.any (eqU x)=xs.any λ y=>eqV y x
 | _,_,.nil,_=>rfl
 | y::xs,u::us,.cons r t,f=>by
  rw [Q9,Qp] at f;rw [QV,QV,Ck r f.1,xu t f.2]
theorem pL {A:QI} {s:PQ} {x:V} {v:PP} (rx:RelV x v) (fx:p9 x=true):∀ {xs:List V} {us:List PP},Vals xs us->xs.all p9=true->∀ u∈us,SeqAt.EqAt A s u v (eqU x u)
 | _,_,.nil,_=>λ u hu=>by cases hu
 | y::xs,u::us,.cons r t,f=>λ u' hu=>by
  rw [Q9,Qp] at f;rcases Qh.mp hu with rfl | hu
  ·rw [Ck r f.1]; exact M3 r rx f.1 fx
  ·exact pL rx fx t f.2 u' hu
def inV (x:V) (xs:List V):Bool:=xs.any λ y=>eqV y x
def rIn (K:PH) (neg:Bool):R2:=λ x y H Q=>∃ p xs,y=.ref p/\(SqL K H p xs\/SqT K H p xs)/\p9 x=true/\xs.all p9=true/\Q (.bl (if neg then !inV x xs else inV x xs)) H
theorem op_in_seq:OpR X (QD .In) (rIn X.K false):=by
 intro pz s σ H x y v u Q I rx ry h;obtain ⟨p,xs,rfl,hq,fx,fs,q⟩:=h;cases ry;rcases hq with hq | hq
 ·obtain ⟨its,r,pl,hz⟩:=I.list hq;refine SeqAt.in_listAt (eqU x) pl.isList (λ w hw=>pL rx fx r fs w (by simpa using hw)) ⟨.bl _,H,I,rfl,?_⟩;rw [show its.toArray.any (eqU x)=its.any (eqU x) by simp,xu r fs];exact q
 ·obtain ⟨its,r,pl,hz⟩:=I.tuple hq;refine SeqAt.in_tupleAt (eqU x) pl (λ w hw=>pL rx fx r fs w (by simpa using hw)) ⟨.bl _,H,I,rfl,?_⟩;rw [show its.toArray.any (eqU x)=its.any (eqU x) by simp,xu r fs];exact q
theorem op_notIn_seq:OpR X (QD .NotIn) (rIn X.K true):=by
 intro pz s σ H x y v u Q I rx ry h;obtain ⟨p,xs,rfl,hq,fx,fs,q⟩:=h;cases ry;rcases hq with hq | hq
 ·obtain ⟨its,r,pl,hz⟩:=I.list hq;refine SeqAt.notIn_listAt (eqU x) pl.isList (λ w hw=>pL rx fx r fs w (by simpa using hw)) ⟨.bl _,H,I,rfl,?_⟩;rw [show its.toArray.any (eqU x)=its.any (eqU x) by simp,xu r fs];exact q
 ·obtain ⟨its,r,pl,hz⟩:=I.tuple hq;refine SeqAt.notIn_tupleAt (eqU x) pl (λ w hw=>pL rx fx r fs w (by simpa using hw)) ⟨.bl _,H,I,rfl,?_⟩;rw [show its.toArray.any (eqU x)=its.any (eqU x) by simp,xu r fs];exact q
theorem B2:OpR X (QD .NotIn) (λ x y H Q=>∃ i j,x=.str i/\y=.str j/\Q (.bl (!(!(Builtin.Str.occurrences j i 0 j.length 1).isEmpty))) H):=by
 intro pz s σ H x y v u Q I rx ry h;obtain ⟨i,j,rfl,rfl,q⟩:=h;obtain ⟨t,rfl⟩:=rx;obtain ⟨t',rfl⟩:=ry;exact notIn_str ⟨.bl _,H,I,rfl,q⟩
theorem call_len_seq:CallR X (.builtin "len") (λ xs H Q=>∃ p ys,xs=[.ref p]/\(SqL X.K H p ys\/SqT X.K H p ys)/\Q (.int ys.length) H):=by
 intro pz s σ H xs us Q I r h;obtain ⟨p,ys,rfl,hq,q⟩:=h;obtain ⟨u,rfl,rx⟩:=sU r;cases rx;have hn:=wa;rcases hq with hq | hq
 ·obtain ⟨its,r',pl,hz⟩:=I.list hq;have hlen:=r'.length;exact Calls.call_len_list pl.isList (by simp only [P6] <;> omega) ⟨.int ys.length,H,I.tok _,⟨s.toks+1,by rw [P6,hlen]⟩,q⟩
 ·obtain ⟨its,r',pl,hz⟩:=I.tuple hq;have hlen:=r'.length;exact len_tuple pl (by simp only [P6] <;> omega) ⟨.int ys.length,H,I.tok _,⟨s.toks+1,by rw [P6,hlen]⟩,q⟩
theorem Cr:CallR X (.builtin "len") (λ xs H Q=>∃ z,xs=[.str z]/\z.length<=P4/\Q (.int z.length) H):=by
 intro pz s σ H xs us Q I r h;obtain ⟨z,rfl,hz,q⟩:=h;obtain ⟨u,rfl,t,rfl⟩:=sU r;have hn:=wa;exact len_str (by omega) ⟨.int z.length,H,I.tok _,⟨_,rfl⟩,q⟩
theorem CallR.or {f:PP} {r r':List V->Hp->VK->Prop} (h:CallR X f r) (h':CallR X f r'):CallR X f (λ xs H Q=>r xs H Q\/r' xs H Q):=by
 intro pz s σ H xs us Q I rs q;rcases q with q | q
 ·exact h pz s σ H xs us Q I rs q
 ·exact h' pz s σ H xs us Q I rs q
theorem A4:CallR X (.type "tuple") (λ xs H Q=>∃ p ys,xs=[.ref p]/\((SqL X.K H p ys/\∀ l,H l=none->Q (.ref l) (upd H l (.tup ys)))\/(SqT X.K H p ys/\Q (.ref p) H))):=by
 intro pz s σ H xs us Q I r h;obtain ⟨p,ys,rfl,h⟩:=h;obtain ⟨u,rfl,rx⟩:=sU r;cases rx;rcases h with ⟨hq,q⟩ | ⟨hq,q⟩
 ·obtain ⟨its,r',pl,hz⟩:=I.list hq;have hlen:=r'.length;refine call_tuple_list pl.isList (λ h' kp=>?_) (by simp only [P6] <;> omega);have I1:Inv X pz σ H { s with heap:=h' }:=I.kept (t':=s.toks) kp;have I2:Inv X pz σ (upd H h'.objs.size (.tup ys)) { s with heap:=h'.push { cls:=.type "tuple", data:=.seq its.toArray } } :=
   I1.laid (t':=s.toks) (λ b o e=>PZ _ e) (PV _) (show ObjOk X.prog X.w _ _ _ (.tup ys) from ⟨hz,its,r',IsTup.new _ _⟩)
  exact ⟨.ref h'.objs.size,_,I2,rfl,q _ (I1.hok.fresh (PV _))⟩
 ·obtain ⟨its,r',pl,hz⟩:=I.tuple hq;exact call_tuple_same pl ⟨.ref p,H,I,rfl,q⟩
def tyV (K:PH) (T:String) (x:V) (H:Hp):Prop:=match x with
 | .str _=>T = "str"
 | .int _=>T = "int"
 | .ref p=>(T = "list" /\ ∃ xs,SqL K H p xs)\/(T = "tuple" /\ ∃ o,K.lookup p=some o/\o.cls=.type "tuple" /\ o.dict=none) \/
   (T = "dict" /\ ((∃ kvs,H p=some (.dK kvs))\/∃ kvs,H p=some (.dT kvs)))\/(T = "set" /\ ∃ S n,H p=some (.set S n))
 | _=>False
theorem LS {pz:List (Qd×Obj)} {σ:St} {H:Hp} {s:PQ} {T:String} {v:PP} (I:Inv X pz σ H s) (r:RelV x v) (ty:tyV X.K T x H) :
  s.TypeIs v T/\∀ a,v=.ref a->∃ ob,s.heap.get? a=some ob/\ob.dict=none:=by
 cases x with
 | str z =>
  obtain ⟨t,rfl⟩:=r;cases (show T = "str" from ty);exact ⟨typeIs_str s z t,λ _ e=>nomatch e⟩
 | int i =>
  obtain ⟨t,rfl⟩:=r;cases (show T = "int" from ty);exact ⟨typeIs_int s i t,λ _ e=>nomatch e⟩
 | ref p =>
  cases r;rcases ty with ⟨rfl,xs,hq⟩ | ⟨rfl,o,hk,hc,hd⟩ | ⟨rfl,hk⟩ | ⟨rfl,S,n,hk⟩
  ·obtain ⟨its,_,pl,_⟩:=I.list hq;refine ⟨pl.isList.typeIs,λ a e=>?_⟩;cases e;obtain ⟨o,n,e,c,hd,_⟩:=pl;exact ⟨o,e,hd⟩
  ·refine ⟨⟨o,I.kIn p o hk,hc⟩,λ a e=>?_⟩;cases e;exact ⟨o,I.kIn _ o hk,hd⟩
  ·have z:∃ o,s.heap.get? p=some o/\o.ExactDict:=by
    rcases hk with ⟨kvs,hk⟩ | ⟨kvs,hk⟩
    ·obtain ⟨_,_,_,_,o,_,_,e,ex,_⟩:=I.hok p _ hk;exact ⟨o,e,ex⟩
    ·obtain ⟨_,_,_,_,o,_,_,e,ex,_⟩:=I.hok p _ hk;exact ⟨o,e,ex⟩
   obtain ⟨o,e,ex⟩:=z;refine ⟨⟨o,e,ex.1⟩,λ a e2=>?_⟩;cases e2;exact ⟨o,e,ex.2.1⟩
  ·obtain ⟨o,_,_,_,e,ex,_⟩:=I.hok p _ hk;refine ⟨⟨o,e,ex.1⟩,λ a e2=>?_⟩;cases e2;exact ⟨o,e,ex.2.1⟩
 | _=>exact False.elim ty
def tBM (K:PH) (T:String) (r:V->List V->Hp->VK->Prop) (to:TE) (t:TA):TE:=λ σ H Q=>to σ H λ x H1=>tyV K T x H1/\t σ H1 λ xs H2=>r x xs H2 Q
variable {o e:Expr} {es:List Expr} {to:TE} {t:TA} {name:Str} {apos cpos:Pos} {T id:String} {r:V->List V->Hp->VK->Prop}
theorem Bk (pa:PlainAttrs T) (slot:Slot T name id) (hty:typeOf (.builtin id)=pure (.type "method_descriptor")) (hm:MtR X id r) (ho:PE X o to) (ha:PA X (e::es) t)
  (hbase:attributeBase o name X.env (eval o X.env)=eval o X.env:=by rfl)
  (hfew:((backTo cpos (PX (e::es) X.env)).all (λ x=>!x.1)&&(backToKw cpos (keywordEach [] X.env)).all (λ x=>x.1.isSome)
   && decide ((e::es).length+([]:List Keyword).length+(if ([]:List Keyword).isEmpty then 0 else 1) < 30))=true:=by rfl)
  (hline:(apos.endLine==cpos.line)=true:=by rfl) (hs:PX (e::es) X.env=(false,eval e X.env)::PX es X.env:=by rfl) (hplain:(backTo cpos (PX es X.env)).any (·.1)=false:=by rfl) :
  PE X (.Call (.Attribute o name apos) (e::es) [] cpos) (tBM X.K T r to t):=by
 intro pz s σ H Q I h;refine wpAny_Call_method_late hbase hfew hline rfl (thn (ho pz s σ H _ I h) λ v s1 ⟨x,H1,I1,r1,ty,q1⟩=>?_);obtain ⟨h1,h2⟩:=LS I1 r1 ty;refine ⟨T,id,pa,slot,hty,h1,h2,?_⟩;have hA:=ha cpos pz s1 σ H1 _ I1 q1;rw [hs] at hA ⊢;refine Calls.callWith_builtin (by show (false||(backTo cpos (PX es X.env)).any (·.1))=false; rw [hplain] <;> rfl) (Calls.evalArgs_plain ?_);exact thn hA λ us s2 ⟨vs,H2,I2,r2,q2⟩=>hm pz s2 σ H2 x vs v us Q I2 r1 r2 q2
end
def MtM (X:Cx) (id:String) (r:V->List V->Hp->VK->Prop):Prop :=
 ∀ (pz:List (Qd×Obj)) (s:PQ) (σ:St) (H:Hp) (x:V) (xs:List V) (v:PP) (us:List PP) (Q:VK),Inv X pz σ H s->RelV x v->Vals xs us->r x xs H Q ->
  Qs (Qq X.prog X.w) X.A (call (.builtin id) (v::us)) (EP X pz σ Q) X.xe s
theorem Vals.one:∀ {x:V} {us:List PP},Vals [x] us->∃ u,us=[u]/\RelV x u
 | _,_,.cons r .nil=>⟨_,rfl,r⟩
theorem Vals.reverse {xs:List V} {us:List PP} (h:Vals xs us):Vals xs.reverse us.reverse:=by
 induction h with
 | nil=>exact .nil
 | cons r t ih=>rw [RH,RH]; exact Vals.append ih (.cons r .nil)
theorem Vals.rep {xs:List V} {us:List PP} (h:Vals xs us):∀ k:Nat,Vals (Qf k xs).flatten (Qf k us).flatten
 | 0=>.nil
 | k+1=>by
  rw [QO,QO,QZ,QZ];exact Vals.append h (Vals.rep h k)
theorem Bv (its:List PP):∀ (k:Nat) (acc:List PP),List.foldl (λ x1 x2=>x1++x2) acc.toArray (Qf k its.toArray)=(acc++(Qf k its).flatten).toArray
 | 0,acc=>by simp
 | k+1,acc=>by
  have e:acc.toArray++its.toArray=(acc++its).toArray:=by simp
  have e2:(acc++its)++(Qf k its).flatten=acc++(Qf (k+1) its).flatten:=by
   rw [QO,QZ,QP]
  rw [<- e2,<- Bv its k (acc++its),<- e,QO,List.foldl_cons]
section
variable {X:Cx} {pz:List (Qd×Obj)} {σ:St} {H:Hp} {s:PQ} {l b:Qd} {xs ys zs:List V}
theorem Inv.lset {its its':List PP} {n:Nat} {f:Array PP->Array PP} {t':Nat} (I:Inv X pz σ H s) (hH:H l=some (.lst xs))
  (e:s.heap.get? l=some { cls:=.type "list", data:=.seq its.toArray n }) (hf:f its.toArray=its'.toArray) (hv:Vals ys its') (hz:ys.length<=P4) :
  Inv X pz σ (upd H l (.lst ys)) { s with heap:=s.heap.update l (Obj.mapSeq f),toks:=t' }:=by
 have q:=PySem.IsL.update e f;rw [hf] at q;refine I.write (x:=l) (e:=l) (by rw [hH]; exact trivial) (.inl rfl) (λ b' u hb hu=>(Heap.get?_update_other s.heap (Obj.mapSeq f) (Ne.symm hb)).trans hu) ⟨_,q⟩ ?_;exact ⟨hz,its',_,hv,q⟩
theorem Inv.lnew {its:List PP} {t':Nat} (I:Inv X pz σ H s) (hv:Vals ys its) (hz:ys.length<=P4) :
  Inv X pz σ (upd H s.heap.objs.size (.lst ys)) { s with heap:=s.heap.push { cls:=.type "list", data:=.seq its.toArray },toks:=t' } :=
 I.laid (λ _ _ q=>PZ _ q) (PV _) ⟨hz,its,0,hv,Qn _ rfl⟩
theorem Inv.fresh (I:Inv X pz σ H s):H s.heap.objs.size=none:=I.hok.fresh (PV _)
theorem Inv.lstM (I:Inv X pz σ H s) (hH:H l=some (.lst xs)):xs.length<=P4/\∃ (its:List PP) (n:Nat),Vals xs its/\xs.length=its.length/\s.heap.get? l=some { cls:=.type "list", data:=.seq its.toArray n }:=by
 obtain ⟨z,its,n,r,e⟩:=I.hok l _ hH;exact ⟨z,its,n,r,r.length,e⟩
theorem Dj (h:n<=P4):Builtin.List.listTooLong n=false:=by
 unfold Builtin.List.listTooLong;exact decide_eq_false (by omega)
end
section
variable {X:Cx}
def JT:V->List V->Hp->VK->Prop:=λ x vs H Q=>∃ l xs y,x=.ref l/\vs=[y]/\H l=some (.lst xs)/\xs.length < P4/\Q .non (upd H l (.lst (xs++[y])))
theorem xQ:MtM X "list.append" JT:=by
 intro pz s σ H x vs v us Q I rx rv h;obtain ⟨l,xs,y,rfl,rfl,hH,hz,q⟩:=h;cases rx;obtain ⟨u,rfl,ru⟩:=rv.one;obtain ⟨z,its,n,r,hl,e⟩:=I.lstM hH;refine call_meets F.slot_list_append ⟨_,e,rfl⟩ F.entry_list_append (F.args_list_append_2 _ _) (PySem.list_append l its.toArray n u (by rw [P6]; omega)) ⟨e,?_⟩;refine ⟨.non,_,I.lset (its':=its++[u]) hH e (by simp) (r.append (.cons ru .nil)) ?_,rfl,q⟩;rw [PL,RT];omega
def O5:R2:=λ x y H Q=>∃ l k xs,x=.ref l/\y=.int k/\H l=some (.lst xs)/\-(2 ^ 63)<=k/\k < 2 ^ 63/\xs.length*k.toNat<=P4 /\
 ∀ p,H p=none->Q (.ref p) (upd H p (.lst (Qf k.toNat xs).flatten))
theorem Kq {α:Type} (xs:List α) (k:Nat):(Qf k xs).flatten.length=k*xs.length:=by
 induction k with
 | zero=>simp
 | succ k ih=>rw [QO,QZ,PL,ih,Nat.succ_mul,Nat.add_comm]
theorem H0:OpR X (binaryOp .Mult) O5:=by
 intro pz s σ H x y v u Q I rx ry h;obtain ⟨l,k,xs,rfl,rfl,hH,h1,h2,hz,q⟩:=h;cases rx;obtain ⟨t,rfl⟩:=ry;obtain ⟨z,its,n,r,hl,e⟩:=I.lstM hH;have hlen:its.toArray.size*k.toNat<=P4:=by rw [P6,<- hl]; exact hz
 have hcap:¬ its.toArray.size*k.toNat > (2 ^ 63 - 1) / 8:=by
  have:(P4:Nat)<=(2 ^ 63 - 1) / 8:=by decide
  omega
 have hfit:¬ (!Builtin.List.listFitsIndex k)=true:=by
  rw [fitsIndex_both h1 h2];exact PN
 have hlong:¬ Builtin.List.listTooLong (its.toArray.size*k.toNat)=true:=by
  rw [Dj hlen];exact PN
 have hnew:List.foldl (λ x1 x2=>x1++x2) #[] (Qf (if its.toArray.isEmpty=true then 0 else k.toNat) its.toArray)=(Qf k.toNat its).flatten.toArray:=by
  have f0:∀ m:Nat,List.foldl (λ x1 x2=>x1++x2) #[] (Qf m its.toArray)=(Qf m its).flatten.toArray:=λ m=>by
   have:=Bv its m []
   rw [List.nil_append] at this;exact this
  rw [f0];cases its with
  | nil=>simp
  | cons a r'=>rw [if_neg (by simp)]
 refine wpAny_binaryOp_repeat_ref (T := "list") (U := "int") (by decide) ⟨_,e,rfl⟩ (λ s'=>typeIs_int s' k t) noFill_list_mul F.fills_int_mul F.slot_int_rmul repeat_list F.slot_int_index.lookup
  (call_meets F.slot_int_rmul (typeIs_int s k t) F.entry_int_rmul (F.args_int_rmul_2 _ _) (int___rmul___int_list k t l its.toArray n)
   ⟨e,rfl,⟨_,e,rfl⟩,call_meets F.slot_list_mul ⟨_,e,rfl⟩ F.entry_list_mul (F.args_list_mul_2 _ _) (AutoListH.list___mul___list_int_3 l its.toArray n k t hfit hcap hlong) ⟨e,?_⟩⟩)
 rw [hnew];exact ⟨.ref _,_,I.lnew (t':=s.toks) (r.rep k.toNat) (by rw [Kq,Nat.mul_comm]; exact hz),rfl,q _ I.fresh⟩
end
end L2
namespace Att
open PySem PySem.W PySem.Calls PyProof.Rows
theorem yU {P:Params} {h:Heap}:∀ (ns:List Int) (vs:List PP),WellAll P h vs (ns.map WData.int)->IntsAre vs ns:=by
 intro ns
 induction ns with
 | nil =>
  intro vs w;rw [Rn] at w;cases w;exact .nil
 | cons n ns ih =>
  intro vs w;rw [P2] at w;cases w with
  | cons a b =>
   cases a;exact .cons _ _ (ih _ b)
theorem Gv {l:OpenLaw} {n:Nat} (hn:l.most=some n) {P:Params} {h:Heap} {args:List WData} {vals:List PP}
  (hpre:l.row.toRowW.claim.pre args=true) (hwl:WellAll P h vals args) :
  ∃ a vs ns,vals=[Value.ref a]/\args=[WData.list (ns.map WData.int)]/\h.get? a=some { cls:=.type "list", data:=.seq vs.toArray }/\IntsAre vs ns/\ns.length<=n:=by
 have hsh:WShape.hasAll [] args [.list .int]=true:=(pre_splitW hpre).1;have hc:l.pre.holds [] { args:=args }=true:=(pre_splitW hpre).2;obtain ⟨d,r,rfl,h1,h2⟩:=hasAllW_cons hsh;obtain rfl:=hasAllW_nil h2;obtain ⟨xs,rfl,h3⟩:=hasW_list h1;obtain ⟨ns,rfl⟩:=items_int h3;have hlen:ns.length<=n:=by
  unfold OpenLaw.pre at hc;have h4:(WTm.not (.lt (.lit (.int (n:Int))) (.len (.arg 0)))).holds [] { args:=[.list (ns.map .int)] }=true:=by
   have h4:=(holds_andW hc).1;rw [hn] at h4;exact h4
  have h5:=condW_of h4 (w_not (w_lt w_lit (w_len_list (w_arg rfl))));rw [PJ] at h5;refine Nat.le_of_not_lt λ q=>?_;have q':(n:Int) < ((ns.length:Nat):Int):=by omega
  first
   | (rw [decide_eq_true q'] at h5; exact absurd h5 (by decide))
   | (simp at h5; omega)
 cases hwl with
 | cons w1 w2 =>
  cases w2;cases w1 with
  | list ho hall=>exact ⟨_,_,ns,rfl,rfl,ho,yU ns _ hall,hlen⟩
theorem Gz (l:OpenLaw) (args:List WData):l.row.toRowW.claim.post args (.bool true) args=true :=
 postW_of (r:=l.row.toRowW) (X:=(true==true))
  (show WShape.has [] (.bool true) .bool=true by first | rfl | decide | simp [WShape.has,WShape.arms,WShape.armsAll])
  (show (WTm.eq .res (.lit (.bool true))).value [] { args:=args,res:=some (.bool true),after:=args }=some (.bool (true==true)) from w_eq_bool (w_res rfl) w_lit) rfl
theorem attach_call {l:OpenLaw} {n:Nat} {q:Ql} {loose:List Str} {XP:(Str->Option PP)->Heap->Prop} {YP:World->Heap->Prop} {d:DefRec}
  (hn:l.most=some n) (hdf:d.params.defaults=[])
  (call:∀ (w:World) (s₀ s₁:PQ) (mg mb:Str->Option PP) (fa:Qd) (o:Obj) (pm cd doc:PP) (a:Qd) (vs:List PP) (ns:List Int),Ground q loose [] XP w s₀ mg mb s₁.heap->YP w s₁.heap ->
   s₁.heap.get? fa=some o->o.data=.func (docDef d.name d.params d.body d.scope pm cd doc)->s₁.heap.CodeRec cd d.name->mg d.name=some (.ref fa) ->
   s₁.heap.get? a=some { cls:=.type "list", data:=.seq vs.toArray }->IntsAre vs ns->ns.length<=n->s₁.gens=#[] ->
   codeAny (Qq l.prog w) callerA (.call (.ref fa) ⟨[.ref a],[]⟩) (λ r s'=>r=.ok (.ret (.bool true))/\OldK s₁.heap s'.heap/\s'.os=s₁.os/\AllBare s'.gens) s₁) :
  WalkO q loose XP YP l.row.toRowW d [] (λ f vs=>PySem.call f vs):=by
 intro w s₀ s₁ mg mb G Y fa o pm cd doc dV kV ho hd hcd hD hmg hg args vals as hpre hlay hrd hwl hlo;obtain rfl:dV=.none:=Dflts.none hD hdf;obtain rfl:kV=.none:=Dflts.noKw hD;obtain ⟨a,vs,ns,rfl,rfl,hobj,hints,hlen⟩:=Gv hn hpre hwl;refine enter_call (codeAny_mono (call w s₀ s₁ mg mb fa o pm cd doc a vs ns G Y ho (fd_plain hd) hcd hmg hobj hints hlen hg) λ r s' hq=>?_);obtain ⟨rfl,h2,h3,h4⟩:=hq;exact ⟨.inl ⟨.bool true,.bool true,[],rfl,λ _=>rfl,.bool true,Gz l _,λ _=>⟨List.Pairwise.nil,λ _ hm=>(nomatch hm)⟩⟩,h2,h3,h4⟩
section
variable {prog:Ql} {w:World} {A:QI} {E:PP->PQ->Prop} {s:PQ} {K:Frag}
end
end Att
namespace L2
open PySem PySem.Spec PyProof.Rows
variable {k:Nat} {x:Str} {H:Hp}
theorem xD:∀ {vs:List PP} {ns:List Int},IntsAre vs ns->Vals (ns.map V.int) vs
 | _,_,.nil=>.nil
 | _,_,.cons n t h=>.cons ⟨t,rfl⟩ (xD h)
def Only (H:Hp):Prop:=∀ b,H b=none\/∃ o xs,H b=some (.frz o (.lst xs))
theorem Iv {P:Ql} {w:World} {K:PH} {mg mb:Str->Option PP} {CX:CXT} {k:Nat} {fa a:Qd} {fd:QX} {x:Str} {sp:Sp} {s₁:PQ} {vs:List PP} {ns:List Int}
  (KX:K.In s₁.heap) (hns:s₁.heap.Ns mainGlobals mg) (hb:s₁.heap.Ns builtinsNs mb) (hbb:∀ x:Str,x ≠ "__name__" -> mb x=bootBuiltins x) (hlim:s₁.heap.NoLimit) (hg:s₁.gens=#[])
  (ha:s₁.heap.get? a=some { cls:=.type "list", data:=.seq vs.toArray }) (hi:IntsAre vs ns) (hl:ns.length<=P4) (hr:Room k callerA)
  (F:∀ base:Heap,K.In base->base.Ns mainGlobals mg->FnOk P w K mg base CX k fa fd [x] sp) (hbind:∀ (s:PQ) (u:PP),BindsTo s fd ⟨[u],[]⟩ [(x,u)])
  (hsp:∀ H:Hp,Only H->SqL K H a (ns.map V.int)->sp [.ref a] H (λ v _=>v=.bl true) λ _ _ _=>False)
  (hCX:∀ H e s',CX [] H s₁ (λ _ _ _=>False) e s'->False) :
  codeAny (Qq P w) callerA (.call (.ref fa) ⟨[.ref a],[]⟩) (λ r s'=>r=.ok (.ret (.bool true))/\OldK s₁.heap s'.heap/\s'.os=s₁.os/\AllBare s'.gens) s₁:=by
 have rv:=xD hi;have lenV:=hi.length;have core:∀ H:Hp,Only H->SqL K H a (ns.map V.int)->HOk P w H s₁.heap->(∀ b,H b≠none->b=a)->(H a≠none->K.lookup a=none) ->
   codeAny (Qq P w) callerA (.call (.ref fa) ⟨[.ref a],[]⟩) (λ r s'=>r=.ok (.ret (.bool true))/\OldK s₁.heap s'.heap/\s'.os=s₁.os/\AllBare s'.gens) s₁:=by
  intro H hO hS hok hA hK;have base_of:∀ {b:Qd} {o:Obj},s₁.heap.get? b=some o->H b=none->(Ch s₁.heap H).get? b=some o:=λ e n=>IE e n;have noA:∀ {b:Qd} {o:Obj} {es:Array DictEntry} {ep:Nat},s₁.heap.get? b=some o->o.data=.dict es ep->H b=none:=λ {b o es ep} e d=>by
   cases q:H b with
   | none=>rfl
   | some u =>
    have e':b=a:=hA b (by rw [q]; simp);subst e';rw [ha] at e; cases e;have d':Data.seq vs.toArray _=Data.dict es ep:=d;cases d'
  have nsK:∀ {b:Qd} {m:Str->Option PP},s₁.heap.Ns b m->(Ch s₁.heap H).Ns b m:=λ {b m} ⟨o,es,ep,e,d,r⟩=>⟨o,es,ep,base_of e (noA e d),d,r⟩;have hKb:K.In (Ch s₁.heap H):=λ b o e=>base_of (KX b o e) (by
   cases q:H b with
   | none=>rfl
   | some u =>
    have e':b=a:=hA b (by rw [q]; simp);subst e';rw [hK (by rw [q]; simp)] at e; cases e)
  have hM:Mod K mg (Ch s₁.heap H):=⟨hKb,nsK hns,⟨mb,nsK hb,hbb⟩,let ⟨mc,h1,h2⟩:=hlim; ⟨mc,nsK h1,h2⟩⟩;have e0:Env0 P w K mg (Ch s₁.heap H) callerA [] s₁ H:=⟨rfl,hM,λ b o e=>Kc e,Nat.le_of_eq (GS _ _),trivial,λ b hb=>absurd (show b∈([]:List Qd) from hb) (by simp),hok,.of_eq hg⟩;refine codeAny_mono ((F _ hKb (nsK hns)).run callerA [] s₁ H ⟨[.ref a],[]⟩ [.ref a] [.ref a] _ _ hr e0 (hbind s₁ (.ref a)) (.cons rfl .nil) (hsp H hO hS)) λ r s' h=>?_;cases r with
  | error e=>exact (hCX H e s' h).elim
  | ok fl =>
   cases fl with
   | next=>exact False.elim h
   | brk=>exact False.elim h
   | cont=>exact False.elim h
   | ret u =>
    obtain ⟨v,H',os,bare,un,hok',r',q⟩:=h;have q':v=.bl true:=q;subst q';obtain rfl:u=Value.bool true:=r';refine ⟨rfl,OldK.of_keep λ b o e=>?_,os,bare⟩;cases q:H b with
    | none=>exact un.keep b o e q (by intro z; exact absurd (show b∈([]:List Qd) from z) (by simp)) (by simp)
    | some u =>
     rcases hO b with z | ⟨ob,xs,z⟩
     ·rw [q] at z; cases z
     ·have z2:=un.frzs b ob _ z;obtain ⟨e1,_⟩:=hok b _ z;obtain ⟨e2,_⟩:=hok' b _ z2;rw [e] at e1; cases e1;exact e2
 cases hk:K.lookup a with
 | some o =>
  have e:=KX a o hk;rw [ha] at e;cases e;refine core (λ _=>none) (λ _=>.inl rfl) (.inr ⟨_,vs.toArray,_,hk,rfl,rfl,rfl,by rw [P6,lenV]; exact hl,by simpa using rv⟩) (λ b u z=>by have z':(none:Option HO)=some u:=z; cases z') (λ b z=>absurd rfl z) λ z=>absurd rfl z
 | none =>
  refine core (λ b=>if b=a then some (.frz { cls:=.type "list", data:=.seq vs.toArray } (.lst (ns.map V.int))) else none) (λ b=>?_) (.inl (.inr ⟨{ cls:=.type "list", data:=.seq vs.toArray },if_pos rfl⟩)) (λ b u z=>?_) (λ b z=>?_) λ _=>hk
  ·by_cases hb:b=a
   ·exact .inr ⟨_,_,if_pos hb⟩
   ·exact .inl (if_neg hb)
  ·by_cases hb:b=a
   ·have z':=(if_pos hb).symm.trans z;cases z';subst hb;exact ⟨ha,by rw [PJ]; exact hl,vs,_,rv,ha⟩
   ·have z':=(if_neg hb).symm.trans z;cases z'
  ·by_cases hb:b=a
   ·exact hb
   ·exact absurd (if_neg hb) z
abbrev KOf {K:PH} {h:Heap} (_:K.In h):PH:=K
theorem Jy {l:RL} {n k:Nat} {q:Ql} {loose:List Str} {XP:(Str->Option PP)->Heap->Prop} {YP:World->Heap->Prop} {d:DefRec} {K:Params->PH} {CX:World->CXT} {sp:World->Sp} {x:Str}
  (hn:l.most=some n) (hn2:n<=P4) (hdf:d.params.defaults=[]) (hr:Room k callerA)
  (hY:∀ (w:World) (h:Heap),YP w h->(K w.params).In h)
  (F:∀ (w:World) (mg:Str->Option PP) (fa:Qd) (h:Heap),(K w.params).In h->h.Ns mainGlobals mg->mg d.name=some (.ref fa) ->
   ∃ fd:QX,(∀ (s:PQ) (u:PP),BindsTo s fd ⟨[u],[]⟩ [(x,u)]) /\
    ∀ base:Heap,(K w.params).In base->base.Ns mainGlobals mg->FnOk l.prog w (K w.params) mg base (CX w) k fa fd [x] (sp w))
  (hsp:∀ (w:World) (H:Hp) (a:Qd) (ns:List Int),ns.length<=n->Only H->SqL (K w.params) H a (ns.map V.int)->sp w [.ref a] H (λ v _=>v=.bl true) λ _ _ _=>False)
  (hCX:∀ (w:World) (H:Hp) (s:PQ) (e:PP) (s':PQ),CX w [] H s (λ _ _ _=>False) e s'->False) :
  RZ q loose XP YP l.row.toRowW d [] (λ f vs=>PySem.call f vs):=by
 refine Att.attach_call hn hdf λ w s₀ s₁ mg mb fa o pm cd doc a vs ns G Y ho hd hcd hmg hobj hints hlen hg=>?_;have KX:=hY w _ Y;obtain ⟨fd,hb,hF⟩:=F w mg fa _ KX G.T.g hmg;exact Iv KX G.T.g G.T.b G.T.builtins G.T.nolimit hg hobj hints (Qg hlen hn2) hr hF hb (λ H hO hS=>hsp w H a ns hlen hO hS) λ H e s'=>hCX w H s₁ e s'
def iG (s:Stmt) (j:Nat):Stmt:=match s with
 | .ClassDef _ _ _ body _ _ _ _ _ _ _=>body.getD j (.Pass ⟨0,0,0,0⟩)
 | _=>.Pass ⟨0,0,0,0⟩
def zf (s:Stmt):Arguments:=match s with
 | .FunctionDef _ a _ _ _ _ _ _ _ _=>a
 | _=>{ posonlyargs:=[],args:=[],vararg:=none,kwonlyargs:=[],kw_defaults:=[],kwarg:=none,defaults:=[] }
def nZ (s:Stmt):List Stmt:=match s with
 | .FunctionDef _ _ b _ _ _ _ _ _ _=>b
 | _=>[]
def ah (s:Stmt):Scope:=match s with
 | .FunctionDef _ _ _ _ _ _ sc _ _ _=>sc
 | _=>{ kind:=.function,names:=[],isGenerator:=false,isCoroutine:=false }
abbrev CX0:CXT:=λ _ _ _ _ _ _=>False
abbrev E0:XK:=λ _ _ _=>False
theorem Bl {X:Cx}:Passes CX0 X E0:=λ _ _ _ _ _ _ _ h=>h.elim
structure Fun (K:PH) (x qual:Str) (st:Stmt) (f:Qd) (fd:QX):Prop where
 ex:∃ (oc:PP) (od:Option Qd) (kV doc pm:PP) (an:Option Qd) (cdv ct:PP) (osl:Array (Option PP)),fd=Ry x qual (zf st) (nZ st) (ah st) .none kV doc pm an cdv ct/\K.lookup f=some ⟨oc,od,.func fd,osl⟩/\PySem.W.codeIn K cdv qual=true
 kp:QQ K (.ref f)=true
section
variable {P:Ql} {w:World} {K:PH} {mg:Str->Option PP} {base:Heap}
theorem Fun.ok {qual:Str} {st:Stmt} {f:Qd} {fd:QX} {N ps:List Str} {k:Nat} {sp:Sp} (F:Fun K x qual st f fd) (S:aI N ps (ah st)) (len:∀ vs H Q E,sp vs H Q E->vs.length=ps.length)
  (hbody:∀ (cdv:PP) (A:QI) (outer:List Env) (s:PQ) (H:Hp) (vs:List V) (Q:VK) (E:XK),Room k (A.deeper (envOfC qual (ah st) s.heap.objs.size f cdv))->sp vs H Q E ->
   ∃ t,PSs (so CX0 P w K mg base N qual (ah st) f cdv A outer s H E).nox (nZ st) t/\t { nx:=λ _ H'=>Q .non H',rt:=Q } (start N vs) H):FnOk P w K mg base CX0 (k+1) f fd ps sp:=by
 obtain ⟨oc,od,kV,doc,pm,an,cdv,ct,osl,rfl,lk,hcd⟩:=F.ex;refine IH lk hcd S len λ A outer s H vs Q E hr hsp=>?_;obtain ⟨t,h,q⟩:=hbody cdv A outer s H vs Q E hr hsp;exact ⟨t,h.nox,q⟩
theorem fun_mk {qual:Str} {st:Stmt} {f:Qd} {oc:PP} {od an:Option Qd} {osl:Array (Option PP)} {kV doc pm cdv ct:PP} (l:K.lookup f=some ⟨oc,od,.func (Ry x qual (zf st) (nZ st) (ah st) .none kV doc pm an cdv ct),osl⟩)
  (c:PySem.W.codeIn K cdv qual=true) (k:QQ K (.ref f)=true):Fun K x qual st f (Ry x qual (zf st) (nZ st) (ah st) .none kV doc pm an cdv ct):=⟨⟨oc,od,kV,doc,pm,an,cdv,ct,osl,rfl,l,c⟩,k⟩
end
theorem Bh {n:Nat} (h:n<=1000):n < P4:=RD h (by decide)
section
variable {X:Cx}
theorem pv (i:Nat) {pos:Pos} (hN:X.N[i]?=some x:=by rfl) (hv:Vis X.env.scope x:=by first | exact Or.inl rfl | exact Or.inr (Or.inl rfl) | exact Or.inr (Or.inr rfl)) (hd:Nd x:=by decide)
  (hcd:(x==("__classdict__" : Str))=false:=by decide):PE X (.Name x pos) (Hh i):=qT hN hv hd hcd
end
theorem MQ {A B:Prop} (h:B):if false=true then A else B:=by
 rw [if_neg PN];exact h
theorem MP {A B:Prop} (h:A):if true=true then A else B:=by
 rw [if_pos rfl];exact h
def Same (H H':Hp):Prop:=∀ b o,H b=some o->H' b=some o
theorem Same.refl (H:Hp):Same H H:=λ _ _ h=>h
theorem Same.trans {H1 H2:Hp} (a:Same H H1) (b:Same H1 H2):Same H H2:=λ c o h=>b c o (a c o h)
theorem Same.free {H':Hp} (e:Same H H') {l:Qd} (h:H' l=Option.none):H l=Option.none:=by
 cases q:H l with
 | none=>rfl
 | some o =>
  rw [e l o q] at h;cases h
theorem Same.seq {K:PH} {H':Hp} {a:Qd} {xs:List V} (e:Same H H') (h:SqL K H a xs):SqL K H' a xs:=by
 rcases h with (h | ⟨o,h⟩) | h
 ·exact .inl (.inl (e _ _ h))
 ·exact .inl (.inr ⟨o,e _ _ h⟩)
 ·exact .inr h
end L2
set_option autoImplicit false
namespace L2.PU
open PySem PySem.Spec PyProof.Rows
def AL:Nat->(List PP->Prop)->Prop
 | 0,P=>P []
 | n+1,P=>∀ a,AL n λ l=>P (a::l)
theorem AL.all:∀ {n:Nat} {P:List PP->Prop},AL n P->∀ us:List PP,us.length=n->P us
 | 0,_,h,[],_=>h
 | n+1,_,h,a::us,e=>AL.all (n:=n) (h a) us (Nat.succ.inj e)
theorem bi_mk {K:PH} {fd:QX} {ps:List Str} (h:AL ps.length λ us=>bindArgs fd ⟨us,[]⟩=pure (ps.zip us)):Binds K fd ps []:=.all h.all
theorem MH {Pr:Ql} {w:World} {K:PH} {mg:Str->Option PP} {fa f:Qd} {d:QX} {x q:Str} {st:Stmt} {k:Nat} {y:Str} {sp:Sp} (hfa:mg "law" = some (.ref fa)) (m:mg "law" = some (.ref f)) (F:Fun K x q st f d)
  (G:∀ base:Heap,FnOk Pr w K mg base CX0 k f d [y] sp) (hb:∀ (kV doc pm:PP) (an:Option Qd) (cdv ct v:PP),bindArgs (Ry x q (zf st) (nZ st) (ah st) .none kV doc pm an cdv ct) ⟨[v],[]⟩=pure [(y,v)]) :
  ∃ fd:QX,(∀ (s:PQ) (v:PP),BindsTo s fd ⟨[v],[]⟩ [(y,v)])/\∀ base:Heap,K.In base->base.Ns mainGlobals mg->FnOk Pr w K mg base CX0 k fa fd [y] sp:=by
 cases hfa.symm.trans m;obtain ⟨oc,od,kV,doc,pm,an,cdv,ct,osl,rfl,lk,hcd⟩:=F.ex;exact ⟨_,λ s v=>.of_eq (hb kV doc pm an cdv ct v),λ base _ _=>G base⟩
theorem b6 {N P:List Str} {sc:Scope} (h1:sc.kind=.function:=by rfl) (h2:sc.isCoroutine=false:=by rfl) (h3:sc.isGenerator=false:=by rfl) (h4:N.Nodup:=by decide +kernel) (h5:N.take P.length=P:=by rfl)
  (h6:∀ x∈P,sc.names.lookup x=some .local\/sc.names.lookup x=some .cell:=by decide +kernel) (h7:∀ y∈sc.names,y.2≠.free:=by decide +kernel):aI N P sc:=⟨h1,h2,h3,h4,h5,h6,h7⟩
end L2.PU
namespace L2
open PySem PySem.Spec PyProof.Rows
variable {u:PP} {y:V} {w:World} {H H':Hp} {kvs:List (List Key×V)} {xs:List (List Key×Qd×PP)} {pos:Pos} {X:Cx}
section
variable {κ:Type} [DecidableEq κ]
def rC (kvs:List (κ×V)) (k:κ):Option V:=(kvs.find? λ kv=>decide (kv.1=k)).map (·.2)
def pH (kvs:List (κ×V)) (k:κ) (v:V):List (κ×V) :=
 if (kvs.any λ kv=>decide (kv.1=k))=true then kvs.map (λ kv=>if kv.1=k then (kv.1,v) else kv) else kvs++[(k,v)]
theorem wo {p:κ×V} {r:List (κ×V)} {k:κ} (e:p.1=k):rC (p::r) k=some p.2:=by simp [rC,Q0,e]
theorem wp {p:κ×V} {r:List (κ×V)} {k:κ} (e:¬ p.1=k):rC (p::r) k=rC r k:=by simp [rC,Q0,e]
theorem CM (k:κ):∀ kvs:List (κ×V),(kvs.any λ kv=>decide (kv.1=k))=(rC kvs k).isSome
 | []=>rfl
 | p::r=>by
  rw [QV];by_cases e:p.1=k
  ·simp only [wo e,decide_eq_true e,Bool.true_or,Option.isSome_some]
  ·rw [wp e,decide_eq_false e,Bool.false_or]; exact CM k r
theorem qx (kvs:List (κ×V)) (k:κ) (v:V):(pH kvs k v).length<=kvs.length+1:=by
 unfold pH
 split
 ·rw [PJ]; omega
 ·rw [PL,P8,List.length_nil]; omega
theorem RelO.isSome_eq {o:Option V} {u:Option PP} (r:RelO o u):o.isSome=u.isSome:=by
 cases o with
 | none=>cases u with
  | none=>rfl
  | some _=>exact (show False from r).elim
 | some _=>cases u with
  | none=>exact (show False from r).elim
  | some _=>rfl
theorem KV.val {kvs:List (κ×V)} {vs:List (κ×PP)} (r:KV kvs vs) (k:κ):RelO (rC kvs k) (valueAt vs k):=by
 unfold KV at r
 induction r with
 | nil=>exact True.intro
 | @cons p q ps qs h t ih =>
  obtain ⟨h1,h2⟩:=h;by_cases e:p.1=k
  ·have e':q.1=k:=h1.symm.trans e;have b:valueAt (q::qs) k=some q.2:=by simp [valueAt,Q0,e']
   rw [wo e,b]; exact h2
  ·have e':¬ q.1=k:=λ z=>e (h1.trans z);have b:valueAt (q::qs) k=valueAt qs k:=by simp [valueAt,Q0,e']
   rw [wp e,b]; exact ih
theorem KV.any {kvs:List (κ×V)} {vs:List (κ×PP)} (r:KV kvs vs) (k:κ):(kvs.any λ kv=>decide (kv.1=k))=vs.any λ kv=>decide (kv.1=k):=by
 unfold KV at r
 induction r with
 | nil=>rfl
 | cons h t ih=>rw [QV,QV,ih,h.1]
theorem KV.repl {kvs:List (κ×V)} {vs:List (κ×PP)} (r:KV kvs vs) (k:κ) (ry:RelV y u) :
  KV (kvs.map λ kv=>if kv.1=k then (kv.1,y) else kv) (vs.map λ kv=>if kv.1=k then (kv.1,u) else kv):=by
 unfold KV at r ⊢
 induction r with
 | nil=>exact .nil
 | @cons p q ps qs h t ih =>
  rw [P2,P2];refine .cons ?_ ih;obtain ⟨h1,h2⟩:=h;by_cases e:p.1=k
  ·rw [if_pos e,if_pos (h1.symm.trans e)]; exact ⟨h1,ry⟩
  ·rw [if_neg e,if_neg (λ z=>e (h1.trans z))]; exact ⟨h1,h2⟩
theorem KV.put {kvs:List (κ×V)} {vs:List (κ×PP)} (r:KV kvs vs) (k:κ) (ry:RelV y u):KV (pH kvs k y) (stored vs k u):=by
 unfold pH stored;rw [r.any k];by_cases e:(vs.any λ kv=>decide (kv.1=k))=true
 ·rw [if_pos e,if_pos e]; exact r.repl k ry
 ·rw [if_neg e,if_neg e]; exact Paired.snoc r ⟨rfl,ry⟩
theorem KV.keys {kvs:List (κ×V)} {vs:List (κ×PP)} (r:KV kvs vs):kvs.map (·.1)=vs.map (·.1):=by
 unfold KV at r
 induction r with
 | nil=>rfl
 | cons h t ih=>rw [P2,P2,ih,h.1]
theorem KV.length {kvs:List (κ×V)} {vs:List (κ×PP)} (r:KV kvs vs):kvs.length=vs.length:=Paired.length r
end
theorem DB {P:Ql} {k:Key} (r:RelV (kV k) u):(fV P w).is k u=true:=by
 cases k with
 | inl i=>obtain ⟨t,e⟩:=(show ∃ t,u=Value.int i t from r); subst e; exact Do P w i t
 | inr x=>obtain ⟨t,e⟩:=(show ∃ t,u=Value.str x t from r); subst e; exact Dn P w x t
theorem Br {P:Ql} {w:World}:∀ {ks:List Key} {us:List PP},Vals (ks.map kV) us->ItemsAre (fV P w) ks us
 | [],_,r=>by rw [Rn] at r; cases r; exact .nil
 | k::ks,_,r=>by
  rw [P2] at r;cases r with
  | cons h t=>exact .cons (DB h) (Br t)
abbrev KT (H:Hp):List (List Key×V)->List (List Key×Qd×PP)->Prop:=Paired λ p q=>p.1=q.1/\H q.2.1=some (.tup (p.1.map kV))/\RelV p.2 q.2.2
theorem KT.val (r:KT H kvs xs) (k:List Key):RelO (rC kvs k) ((atKey xs k).map (·.2)):=by
 induction r with
 | nil=>exact True.intro
 | @cons p q ps qs h t ih =>
  obtain ⟨h1,_,h2⟩:=h;by_cases e:p.1=k
  ·have e':q.1=k:=h1.symm.trans e;have b:atKey (q::qs) k=some q.2:=by simp [atKey,Q0,e']
   rw [wo e,b]; exact h2
  ·have e':¬ q.1=k:=λ z=>e (h1.trans z);have b:atKey (q::qs) k=atKey qs k:=by simp [atKey,Q0,e']
   rw [wp e,b]; exact ih
theorem KT.repl (r:KT H kvs xs) (k:List Key) (ry:RelV y u) :
  KT H (kvs.map λ kv=>if kv.1=k then (kv.1,y) else kv) (xs.map (putAt k u)):=by
 induction r with
 | nil=>exact .nil
 | @cons p q ps qs h t ih =>
  rw [P2,P2];refine .cons ?_ ih;obtain ⟨h1,h2,h3⟩:=h;unfold putAt;by_cases e:p.1=k
  ·rw [if_pos e,if_pos (h1.symm.trans e)]; exact ⟨h1,h2,ry⟩
  ·rw [if_neg e,if_neg (λ z=>e (h1.trans z))]; exact ⟨h1,h2,h3⟩
theorem KT.put (r:KT H kvs xs) (k:List Key) {b:Qd} (hb:H b=some (.tup (k.map kV))) (ry:RelV y u) :
  KT H (pH kvs k y) (storedH xs k b u):=by
 have e:(kvs.any λ kv=>decide (kv.1=k))=(atKey xs k).isSome:=by
  rw [CM,(r.val k).isSome_eq,Option.isSome_map]
 unfold pH storedH;rw [e];by_cases q:(atKey xs k).isSome=true
 ·rw [if_pos q,if_pos q]; exact r.repl k ry
 ·rw [if_neg q,if_neg q]; exact Paired.snoc r ⟨rfl,hb,ry⟩
theorem KT.keeps (r:KT H kvs xs) (ht:∀ b ys,H b=some (.tup ys)->H' b=some (.tup ys)):KT H' kvs xs :=
 Paired.mapP r λ _ _ z=>⟨z.1,ht _ _ z.2.1,z.2.2⟩
section
variable {P:Ql} {w:World} {H:Hp} {h:Heap} {a:Qd}
theorem Lq {u:HO} (ok:HOk P w H h) (e:Rd H a u):ObjOk P w H h a u:=e.ok ok
theorem DI {kvs:List (Key×V)} (ok:HOk P w H h) (e:Rd H a (.dK kvs)):kvs.length<=P4/\(a==sysModules)=false/\∃ vs,KV kvs vs/\h.DictOf (fV P w) a vs :=
 show ObjOk P w H h a (.dK kvs) from Lq ok e
theorem IM {kvs:List (Key×V)} (ok:HOk P w H h) (e:H a=some (.dK kvs)):kvs.length<=P4/\(a==sysModules)=false/\∃ vs,KV kvs vs/\h.DictOf (fV P w) a vs:=DI ok (.inl e)
theorem EK {ks:List Key} (ok:HOk P w H h) (e:H a=some (.tup (ks.map kV))):(tupleKind (fV P w)).is h ks a:=by
 obtain ⟨_,its,r,o,h1,h2,n,h3⟩:=(show ObjOk P w H h a (.tup (ks.map kV)) from ok a _ e);exact ⟨o,its.toArray,n,h1,h2,h3,by simpa using Br r⟩
theorem F7 (ok:HOk P w H h) (e:Rd H a (.dT kvs)):kvs.length<=P4/\(a==sysModules)=false /\
  ∃ xs,KT H kvs xs/\h.DictOfH (tupleKind (fV P w)) a xs:=by
 obtain ⟨z,y,xs,r,o,es,ep,h1,h2,h3,h4,h5⟩:=(show ObjOk P w H h a (.dT kvs) from Lq ok e);refine ⟨z,y,xs,r,o,es,ep,h1,h2,h3,h4,λ x hx=>?_,h5⟩;have all:∀ {l:List (List Key×V)} {m:List (List Key×Qd×PP)},KT H l m->∀ x∈m,(tupleKind (fV P w)).is h x.1 x.2.1:=by
  intro l m q
  induction q with
  | nil=>intro x hx; exact nomatch hx
  | @cons p q ps qs hq t ih =>
   intro x hx;rcases Qh.mp hx with e | hx
   ·subst e;exact EK ok (by rw [<- hq.1]; exact hq.2.1)
   ·exact ih x hx
 exact all r x hx
theorem Oz (ok:HOk P w H h) (e:H a=some (.dT kvs)):kvs.length<=P4/\(a==sysModules)=false /\
  ∃ xs,KT H kvs xs/\h.DictOfH (tupleKind (fV P w)) a xs:=F7 ok (.inl e)
end
def DGet (H:Hp) (a:Qd) (y:V) (r:Option V):Prop :=
 (∃ kvs k,Rd H a (.dK kvs)/\y=kV k/\r=rC kvs k)\/∃ kvs k b,Rd H a (.dT kvs)/\y=.ref b/\H b=some (.tup (k.map kV))/\r=rC kvs k
def DPut (H:Hp) (a:Qd) (y v:V) (H':Hp):Prop :=
 (∃ kvs k,H a=some (.dK kvs)/\y=kV k/\kvs.length < P4/\H'=upd H a (.dK (pH kvs k v))) \/
 ∃ kvs k b,H a=some (.dT kvs)/\y=.ref b/\H b=some (.tup (k.map kV))/\kvs.length < P4/\H'=upd H a (.dT (pH kvs k v))
section
variable {X:Cx} {pz:List (Qd×Obj)} {σ:St} {H:Hp} {s:PQ} {a:Qd} {y v:V} {u r:PP} {o:Option V} {A:QI} {E:PP->PQ->Prop}
theorem Inv.big (I:Inv X pz σ H s):sysModules < s.heap.objs.size:=by
 have h:mainGlobals < s.heap.objs.size:=(I.mod.glob.keeps I.bk).lt;exact Nat.lt_trans (by decide) h
theorem GW {Q:PP->PQ->Prop} (hu:A.units+1 < cLine) (I:Inv X pz σ H s) (g:DGet H a y (some v)) (ry:RelV y u) (h:∀ w' s',Inv X pz σ H s'->RelV v w'->Q w' s') :
  Qs (Qq X.prog X.w) A (getItem (.ref a) u) Q E s:=by
 rcases g with ⟨kvs,k,e,ey,l⟩ | ⟨kvs,k,b,e,ey,eb,l⟩
 ·subst ey;obtain ⟨z,hd,vs,rel,dd⟩:=DI I.hok e;obtain ⟨w',hw,rw'⟩:=RelO.some_of (v:=v) (o:=valueAt vs k) (by rw [l]; exact rel.val k);exact wpAny_getItem_of (DB ry) dd.mapOf hw (h w' _ (I.tok _) rw')
 ·subst ey;cases (show u=Value.ref b from ry);obtain ⟨z,hd,xs,rel,dd⟩:=F7 I.hok e;obtain ⟨w',hw,rw'⟩:=RelO.some_of (v:=v) (o:=(atKey xs k).map (·.2)) (by rw [l]; exact rel.val k);obtain ⟨p,hp,hp2⟩:=Option.map_eq_some_iff.mp hw;refine wpAny_getItem_heap (tupleKind_room_in1 hu) (EK I.hok eb) dd hp ?_;rw [hp2];exact h w' _ (I.tok _) rw'
theorem zg {h':Heap} {t':Nat} {ob:HO} (I:Inv X pz σ H s) (mu:Mut (H a)) (hs:Heap.SameBut a s.heap h') (he:∃ q,h'.get? a=some q) (new:ObjOk X.prog X.w (upd H a ob) h' a ob) :
  Inv X pz σ (upd H a ob) { s with heap:=h',toks:=t' } :=
 I.write (x:=a) (e:=a) mu (.inl rfl) (λ b q hb z=>(hs.2 b hb).trans z) he new
theorem EY {P:Ql} {H':Hp} {h':Heap} {kvs:List (Key×V)} {vs:List (Key×PP)} (z:kvs.length<=P4) (hd:(a==sysModules)=false) (rel:KV kvs vs) (dd:h'.DictOf (fV P w) a vs) :
  ObjOk P w H' h' a (.dK kvs):=⟨z,hd,vs,rel,dd⟩
theorem GV {Q:Unit->PQ->Prop} (hu:A.units+1 < cLine) (I:Inv X pz σ H s) (g:DPut H a y v H') (ry:RelV y u) (rv:RelV v r) (h:∀ s',Inv X pz σ H' s'->Q () s') :
  Qs (Qq X.prog X.w) A (setItem (.ref a) u r) Q E s:=by
 rcases g with ⟨kvs,k,e,ey,l,eH⟩ | ⟨kvs,k,b,e,ey,eb,l,eH⟩
 ·subst ey eH;obtain ⟨z,hd,vs,rel,dd⟩:=IM I.hok e;have hz:vs.length<=P4:=by rw [<- rel.length]; exact z
  have hl:(pH kvs k v).length<=P4:=by have:=qx kvs k v; omega
  refine wpAny_setItem_pairs (hsz:=hz) (DB ry) dd λ h' dd' hs=>h _ ?_;have he:∃ q,h'.get? a=some q:=let ⟨q,_,_,hq,_⟩:=dd'; ⟨q,hq⟩;exact zg I (by rw [e]; exact True.intro) hs he (EY hl hd (rel.put k rv) dd')
 ·subst ey eH;cases (show u=Value.ref b from ry);obtain ⟨z,hd,xs,rel,dd⟩:=Oz I.hok e;have hz:xs.length<=P4:=by rw [<- Paired.length rel]; exact z
  have hl:(pH kvs k v).length<=P4:=by have:=qx kvs k v; omega
  refine wpAny_setItem_heap (hsz:=hz) (tupleKind_room_in1 hu) (EK I.hok eb) dd λ h' dd' hs=>h _ ?_;obtain ⟨q,es,ep,hq,h2,h3,h4,_,h5⟩:=dd';refine zg I (by rw [e]; exact True.intro) hs ⟨q,hq⟩ ⟨hl,hd,_,(rel.put k eb rv).keeps λ c ys ec=>?_,q,es,ep,hq,h2,h3,h4,h5⟩;rw [aD (Oe ec e (λ z=>nomatch z))];exact ec
end
def Np (i:Expr):Prop:=∀ ov iv,subscripted i false ov iv=operate [ov,iv] (getItem ov iv)
theorem JF {prog:Ql} {w:World} {A:QI} {E:PP->PQ->Prop} {s:PQ} {env:Env} {value slice:Expr} {pos:Pos} {T id:String} {Q:PP->PQ->Prop}
  (hl:typeLookup (.type T) "__getitem__" = pure (some (.builtin id))) (hs:Np slice)
  (h:Qs (Qq prog w) A (eval value env) (λ o s₁=>Qs (Qq prog w) A (eval slice env) (λ i s₂=>s₂.TypeIs o T/\Qs (Qq prog w) A (getItem o i) Q E s₂) E s₁) E s) :
  Qs (Qq prog w) A (eval (.Subscript value slice pos) env) Q E s:=by
 refine Subscript_ (wpAny_mono h (λ o s₁ h₁=>wpAny_mono h₁ (λ i s₂ h₂=>?_) λ _ _ x=>x) λ _ _ x=>x);obtain ⟨hT,h₂⟩:=h₂;unfold subscriptTail;refine P1 ?_;rw [getitemInPython_of_ne hT.not_modules];refine P1 (wpAny_specialOf hT hl ?_);have fin:Qs (Qq prog w) A (subscripted slice false o i) (λ r s₃=>Qs (Qq prog w) A (letTemporaryGo value o r >>= λ _=>pure r) Q E s₃) E s₂:=by
  rw [hs o i];exact wpAny_operating (wpAny_mono h₂ (λ r s₃ h₃=>P1 (wpAny_letTemporaryGo (Qe h₃))) λ _ _ x=>x)
 first
  | exact Qe (P1 fin)
  | exact P1 (Qe (P1 fin))
  | exact P1 fin
theorem DK {pz:List (Qd×Obj)} {σ:St} {s:PQ} {a:Qd} {o:Option V} (I:Inv X pz σ H s) (g:DGet H a y o):s.TypeIs (.ref a) "dict" := by
 rcases g with ⟨kvs,k,e,_,_⟩ | ⟨kvs,k,b,e,_,_,_⟩
 ·obtain ⟨_,_,vs,_,dd⟩:=DI I.hok e;exact dd.typeIs
 ·obtain ⟨_,_,xs,_,dd⟩:=F7 I.hok e;exact dd.typeIs
def NL (td ty:TE):TE:=λ σ H Q=>td σ H λ x H1=>ty σ H1 λ y H2=>∃ a v,x=.ref a/\DGet H2 a y (some v)/\Q v H2
def NQ (td ty tv:TE):TS:=λ D σ H=>tv σ H λ v H1=>td σ H1 λ x H2=>ty σ H2 λ y H3=>∃ a H4,x=.ref a/\DPut H3 a y v H4/\D.nx σ H4
section
variable {X:Cx} {o i e value:Expr} {pos pos' tpos:Pos} {td ty tv:TE}
theorem J5 (hu:X.A.units+1 < cLine) (ho:PE X o td) (hi:PE X i ty) (hs:Np i):PE X (.Subscript o i pos) (NL td ty):=by
 intro pz s σ H Q I h;refine JF PySem.F.slot_dict_getitem.lookup hs (thn (ho pz s σ H _ I h) λ u s1 ⟨x,H1,I1,rx,q1⟩=>thn (hi pz s1 σ H1 _ I1 q1) λ iv s2 ⟨y,H2,I2,ry,a,v,ex,g,q2⟩=>?_);subst ex;obtain rfl:u=Value.ref a:=rx;exact ⟨DK I2 g,GW hu I2 g ry λ w' s3 I3 rw'=>⟨v,H2,I3,rw',q2⟩⟩
theorem JV (hu:X.A.units+1 < cLine) (ho:PE X o td) (hi:PE X i ty) (hv:PE X value tv) (hs:swapsWith value (some (.Subscript o i pos')) pos.line X.env=pure false) :
  PS X (.Assign [.Subscript o i pos'] value pos) (NQ td ty tv):=by
 intro pz s σ H D I h;refine wpAny_Assign_Subscript (thn (hv pz s σ H _ I h) λ r s1 ⟨v,H1,I1,rv,q1⟩=>thn (ho pz s1 σ H1 _ I1 q1) λ u s2 ⟨x,H2,I2,rx,q2⟩=>thn (hi pz s2 σ H2 _ I2 q2) λ iv s3 ⟨y,H3,I3,ry,a,H4,ex,g,q3⟩=>?_) hs;subst ex;obtain rfl:u=Value.ref a:=rx;exact GV hu I3 g ry rv λ s4 I4=>⟨σ,H4,I4,q3⟩
end
theorem DJ {P:Ql} (h:Heap) (hb:sysModules < h.objs.size):ObjOk P w H (h.push { cls:=.type "dict", data:=.dict #[] }) h.objs.size (.dK []) :=
 ⟨Q1 _,beq_eq_false_iff_ne.mpr (Ne.symm (Qm hb)),[],.nil,Heap.DictOf.new h⟩
def L6:TE:=λ _ H Q=>∀ p,H p=none->Q (.ref p) (upd H p (.dK []))
section
variable {X:Cx} {pos:Pos}
theorem HN:PE X (.Dict [] [] pos) L6:=λ pz s σ H Q I h =>
 wpAny_Dict_empty ⟨.ref s.heap.objs.size,_,I.laid (a:=s.heap.objs.size) (o:=.dK []) (t':=s.toks) (λ _ _ q=>PZ _ q) (PV _) (DJ s.heap I.big),rfl,h _ (I.hok.fresh (PV _))⟩
end
def BH:List (TE×TE)->St->Hp->(List (V×V)->Hp->Prop)->Prop
 | [],_,H,Q=>Q [] H
 | (tk,tv)::r,σ,H,Q=>tk σ H λ x H1=>tv σ H1 λ y H2=>BH r σ H2 λ ps H3=>Q ((x,y)::ps) H3
abbrev VV:List (V×V)->List (PP×PP)->Prop:=Paired λ p q=>RelV p.1 q.1/\RelV p.2 q.2
def PPs (X:Cx) (pos:Pos) (keys:List (Option Expr)) (values:List Expr) (trs:List (TE×TE)):Prop :=
 ∀ (pz:List (Qd×Obj)) (s:PQ) (σ:St) (H:Hp) (Q:List (V×V)->Hp->Prop),Inv X pz σ H s->BH trs σ H Q ->
  Qs (Qq X.prog X.w) X.A (evalPairs (pairTrees keys values X.env pos)) (λ vs s'=>∃ ps H',Inv X pz σ H' s'/\VV ps vs/\Q ps H') X.xe s
theorem JX:PPs X pos [] [] []:=λ pz s σ H Q I h=>pairTrees_nil_walk ⟨[],H,I,.nil,h⟩
theorem HE {k v:Expr} {ks:List (Option Expr)} {vs:List Expr} {tk tv:TE} {trs:List (TE×TE)} (hk:PE X k tk) (hv:PE X v tv) (hr:PPs X pos ks vs trs) :
  PPs X pos (some k::ks) (v::vs) ((tk,tv)::trs):=λ pz s σ H Q I h =>
 pairTrees_cons_walk (thn (hk pz s σ H _ I h) λ u s1 ⟨x,H1,I1,rx,q1⟩=>thn (hv pz s1 σ H1 _ I1 q1) λ w2 s2 ⟨y,H2,I2,ry,q2⟩ =>
  thn (hr pz s2 σ H2 _ I2 q2) λ ws s3 ⟨ps,H3,I3,rel,q3⟩=>⟨(x,y)::ps,H3,I3,.cons ⟨rx,ry⟩ rel,q3⟩)
def v6 (kvs more:List (Key×V)):List (Key×V):=more.foldl (λ acc kv=>pH acc kv.1 kv.2) kvs
theorem KV.merge:∀ {more:List (Key×V)} {rs:List (Key×PP)} {kvs:List (Key×V)} {vs:List (Key×PP)},KV more rs->KV kvs vs->KV (v6 kvs more) (merged vs rs):=by
 intro more rs kvs vs r;unfold KV at r
 induction r generalizing kvs vs with
 | nil=>intro q; exact q
 | @cons p q ps qs h t ih =>
  intro r0;have e:KV (pH kvs p.1 p.2) (stored vs q.1 q.2):=by
   have:=r0.put p.1 h.2
   rw [<- h.1]; exact this
  exact ih e
theorem vC:∀ (more kvs:List (Key×V)),(v6 kvs more).length<=kvs.length+more.length
 | [],kvs=>by show kvs.length<=kvs.length+0; omega
 | p::r,kvs=>by
  have h1:=vC r (pH kvs p.1 p.2);have h2:=qx kvs p.1 p.2;show (v6 (pH kvs p.1 p.2) r).length<=_;rw [P8]; omega
theorem At {P:Ql} {w:World}:∀ {kvs:List (Key×V)} {ws:List (PP×PP)},VV (kvs.map λ kv=>(kV kv.1,kv.2)) ws->∃ rs,Carries (fV P w) ws rs/\KV kvs rs
 | [],_,r=>by rw [Rn] at r; cases r; exact ⟨[],True.intro,.nil⟩
 | p::kvs,_,r=>by
  rw [P2] at r;cases r with
  | @cons a b as bs h t =>
   obtain ⟨rs,c,q⟩:=At (P:=P) (w:=w) t;obtain ⟨b1,b2⟩:=b;exact ⟨(p.1,b2)::rs,⟨DB h.1,rfl,c⟩,.cons ⟨rfl,h.2⟩ q⟩
def NK (trs:List (TE×TE)):TE:=λ σ H Q=>∀ p,H p=none->BH trs σ (upd H p (.dK [])) λ ps H2=>H2 p=some (.dK [])/\∃ kvs:List (Key×V),ps=kvs.map (λ kv=>(kV kv.1,kv.2))/\kvs.length<=15/\Q (.ref p) (upd H2 p (.dK (v6 [] kvs)))
theorem J4 {keys:List (Option Expr)} {values:List Expr} {trs:List (TE×TE)} (h:PPs X pos keys values trs) (hall:keys.all (·.isSome)=true) (hl:keys.length=values.length) (h0:keys≠[])
  (h15:keys.length<=15):PE X (.Dict keys values pos) (NK trs):=by
 intro pz s σ H Q I q;have hn:=I.hok.fresh (PV s.heap.objs.size);have I1:=I.laid (a:=s.heap.objs.size) (o:=.dK []) (h':=s.heap.push { cls:=.type "dict", data:=.dict #[] }) (t':=s.toks) (λ _ _ q=>PZ _ q) (PV _) (DJ s.heap I.big);refine wpAny_Dict_walk (knd:=fV X.prog X.w) hall hl h0 h15 (thn (h pz _ σ _ _ I1 (q _ hn)) λ ws s2 ⟨ps,H2,I2,rel,e,kvs,ep,lk,q2⟩=>?_);subst ep;obtain ⟨rs,c,rk⟩:=At (P:=X.prog) (w:=X.w) rel;obtain ⟨z,hd,vs0,r0,dd⟩:=IM I2.hok e;cases r0;refine ⟨rs,c,dd,λ h' dd' hs=>⟨.ref s.heap.objs.size,_,?_,rfl,q2⟩⟩;have hz:(v6 [] kvs).length<=P4:=by
  have h1:=vC kvs [];rw [List.length_nil] at h1;rw [sizeLine_eq]; omega
 have he:∃ q,h'.get? s.heap.objs.size=some q:=let ⟨q,_,_,hq,_⟩:=dd'; ⟨q,hq⟩;exact zg I2 (by rw [e]; exact True.intro) hs he (EY hz hd (rk.merge .nil) dd')
structure M1 (X:Cx) (o:Expr) (m:Str) (apos:Pos) (e:Expr) (cpos:Pos):Prop where
 base:attributeBase o m X.env (eval o X.env)=eval o X.env
 few:((backTo cpos (PX [e] X.env)).all (λ x=>!x.1)&&(backToKw cpos (keywordEach [] X.env)).all (λ x=>x.1.isSome)
  && decide (([e]:List Expr).length+([]:List Keyword).length+(if ([]:List Keyword).isEmpty then 0 else 1) < 30))=true
 line:(apos.endLine==cpos.line)=true
 trees:backTo cpos (PX [e] X.env)=[(false,eval e X.env)]
structure M2 (X:Cx) (o:Expr) (m:Str) (apos:Pos) (e f:Expr) (cpos:Pos):Prop where
 base:attributeBase o m X.env (eval o X.env)=eval o X.env
 few:((backTo cpos (PX [e,f] X.env)).all (λ x=>!x.1)&&(backToKw cpos (keywordEach [] X.env)).all (λ x=>x.1.isSome)
  && decide (([e,f]:List Expr).length+([]:List Keyword).length+(if ([]:List Keyword).isEmpty then 0 else 1) < 30))=true
 line:(apos.endLine==cpos.line)=true
 trees:backTo cpos (PX [e,f] X.env)=[(false,eval e X.env),(false,eval f X.env)]
def IsD (H:Hp) (a:Qd):Prop:=(∃ kvs,Rd H a (.dK kvs))\/∃ kvs,Rd H a (.dT kvs)
theorem MW {pz:List (Qd×Obj)} {σ:St} {s:PQ} {a:Qd} (I:Inv X pz σ H s) (d:IsD H a) :
  s.TypeIs (.ref a) "dict" /\ (∀ b,Value.ref a=.ref b->∃ ob,s.heap.get? b=some ob/\ob.dict=none)/\(a==sysModules)=false:=by
 rcases d with ⟨kvs,e⟩ | ⟨kvs,e⟩
 ·obtain ⟨_,hd,vs,_,dd⟩:=DI I.hok e;refine ⟨dd.typeIs,λ b q=>?_,hd⟩;cases q;obtain ⟨ob,_,_,h1,h2,_⟩:=dd;exact ⟨ob,h1,h2.2.1⟩
 ·obtain ⟨_,hd,xs,_,dd⟩:=F7 I.hok e;refine ⟨dd.typeIs,λ b q=>?_,hd⟩;cases q;obtain ⟨ob,_,_,h1,h2,_⟩:=dd;exact ⟨ob,h1,h2.2.1⟩
end L2
namespace L2
open PySem
variable {scope:Scope} {env:Env}
def Co (env:Env):List (Str×NameKind)->List (Str×Qd)->List (Str×Qd)
 | [],cs=>cs
 | (n,k)::r,cs=>Co env r (if k==.free then (n,(env.cells.lookup n).getD 0)::cs else cs)
def DQ (scope:Scope) (env:Env):List (Str×Qd):=Co env scope.names []
theorem vN (h:∀ x∈scope.names,x.2=.free->∃ c,env.cells.lookup x.1=some c):closureFor scope env=pure (DQ scope env):=by
 unfold closureFor DQ;have key:∀ (l:List (Str×NameKind)) (cs:List (Str×Qd)),(∀ x∈l,x.2=.free->∃ c,env.cells.lookup x.1=some c) ->
   (forIn l cs (λ x (r:List (Str×Qd))=>match x with
    | (name,kind)=>if (kind==NameKind.free)=true then do let a <- cellOf env name; pure (ForInStep.yield ((name,a)::r)) else pure (ForInStep.yield r)):Sem (List (Str×Qd)))=pure (Co env l cs):=by
  intro l
  induction l with
  | nil=>intro cs _; rfl
  | cons x r ih =>
   intro cs hx;obtain ⟨n,k⟩:=x;rw [List.forIn_cons];by_cases hk:(k==NameKind.free)=true
   ·obtain ⟨c,hc⟩:=hx (n,k) Qc (by simpa using hk);have e:cellOf env n=pure c:=by unfold cellOf; rw [show env.cells.lookup n=some c from hc]
    simp only [hk,if_true,e,pure_bind];rw [ih _ λ y hy=>hx y (P3 _ hy)];have hc':env.cells.lookup n=some c:=hc;simp only [Co,hk,if_true,hc',Option.getD_some]
   ·simp only [hk,Bool.false_eq_true,if_false,pure_bind];rw [ih _ λ y hy=>hx y (P3 _ hy)];simp only [Co,hk,Bool.false_eq_true,if_false]
 have:=key scope.names [] h
 dsimp only;rw [this];rfl
theorem DS (env:Env):∀ (l:List (Str×NameKind)) (cs:List (Str×Qd)) (p:Str×Qd),p∈Co env l cs->p∈cs\/((p.1,NameKind.free)∈l/\p.2=(env.cells.lookup p.1).getD 0)
 | [],cs,p,h=>.inl h
 | (n,k)::r,cs,p,h=>by
  unfold Co at h;rcases DS env r _ p h with h | ⟨h1,h2⟩
  ·by_cases hk:(k==NameKind.free)=true
   ·rw [if_pos hk] at h;rcases Qh.mp h with h | h
    ·have e:k=.free:=by simpa using hk
     subst h; subst e;exact .inr ⟨Qc,rfl⟩
    ·exact .inl h
   ·rw [if_neg hk] at h; exact .inl h
  ·exact .inr ⟨P3 _ h1,h2⟩
theorem DT (env:Env):∀ (l:List (Str×NameKind)) (cs:List (Str×Qd)) (n:Str),((n,NameKind.free)∈l\/∃ a,(n,a)∈cs)->∃ a,(n,a)∈Co env l cs
 | [],cs,n,h=>by
  rcases h with h | h
  ·cases h
  ·exact h
 | (m,k)::r,cs,n,h=>by
  unfold Co;refine DT env r _ n ?_;rcases h with h | ⟨a,h⟩
  ·rcases Qh.mp h with h | h
   ·cases h;exact .inr ⟨_,by rw [if_pos (by simp)]; exact Qc⟩
   ·exact .inl h
  ·refine .inr ⟨a,?_⟩
   split
   ·exact P3 _ h
   ·exact h
theorem pR {β:Type}:∀ {l:List (Str×β)} {n:Str} {a:β},(n,a)∈l->∃ b,l.lookup n=some b
 | [],_,_,h=>by cases h
 | (m,b)::r,n,a,h=>by
  rw [Ra];by_cases e:n=m
  ·subst e; simp
  ·have hb:(n==m)=false:=by simpa using e
   rw [hb];rcases Qh.mp h with h | h
   ·cases h; exact absurd rfl e
   ·exact pR h
theorem Gb (h:∀ x∈scope.names,x.2=.free->∃ c,env.cells.lookup x.1=some c) {x:Str} {c:Qd} (e:(DQ scope env).lookup x=some c):env.cells.lookup x=some c:=by
 have m:=PySem.mem_of_lookup e;rcases DS env scope.names [] (x,c) m with h' | ⟨h1,h2⟩
 ·cases h'
 ·obtain ⟨d,hd⟩:=h _ h1 rfl;have hd':env.cells.lookup x=some d:=hd;have h2':c=(env.cells.lookup x).getD 0:=h2;rw [hd'] at h2' ⊢;rw [h2']; rfl
theorem DO {x:Str} (h:(x,NameKind.free)∈scope.names):∃ c,(DQ scope env).lookup x=some c:=by
 obtain ⟨a,ha⟩:=DT env scope.names [] x (.inl h);exact pR ha
end L2
namespace L2
open PySem PySem.Spec PyProof.Rows
structure CompSc (X:Cx) (scope:Scope) (N':List Str) (mp:List (Option Nat)):Prop where
 kind:scope.kind=.function
 nocell:∀ x∈scope.names,x.2≠.cell
 names:∀ x∈scope.names,x.2=.local->scope.names.lookup x.1=some .local
 fr:∀ x∈scope.names,x.2=.free->X.env.scope.names.lookup x.1=some .cell\/X.env.scope.names.lookup x.1=some .free
 len:mp.length=N'.length
 map:∀ (i:Nat) (x:Str) (j:Nat),N'[i]?=some x->mp[i]?=some (some j)->X.N[j]?=some x/\(x,NameKind.free)∈scope.names/\((relabel scope X.env).names.lookup x=some .cell\/(relabel scope X.env).names.lookup x=some .free)
def la (mp:List (Option Nat)) (σ:St):St:=mp.map λ o=>o.bind λ j=>(σ[j]?).join
def b7 (X:Cx) (scope:Scope) (N':List Str) (s:PQ) (H:Hp) (fp:List Qd):Cx :=
 { X with N:=N',s₀:=s,H₀:=H,env:=compEnvC scope (DQ scope X.env) s.heap.objs.size X.env,outer:=X.stack,ex:=fp,fn:=λ _=>false,pn:=[],xe:=λ _ _=>False }
theorem BN {scope:Scope} {env:Env} {x:Str} (nc:∀ y∈scope.names,y.2≠.cell) (h:(relabel scope env).names.lookup x=some .cell\/(relabel scope env).names.lookup x=some .free):(x,NameKind.free)∈scope.names:=by
 have m:∃ k,(x,k)∈(relabel scope env).names/\(k=.cell\/k=.free):=by
  rcases h with h | h
  ·exact ⟨_,PySem.mem_of_lookup h,.inl rfl⟩
  ·exact ⟨_,PySem.mem_of_lookup h,.inr rfl⟩
 obtain ⟨k,hm,hk⟩:=m;unfold relabel at hm;obtain ⟨⟨n,k'⟩,hin,e⟩:=Rf.mp hm;dsimp only at e;split at e
 ·rename_i hc;have e1:n=x:=congrArg Prod.fst e;have e2:k'=.free:=by
   have:=(Rg.mp (Rg.mp hc).1).1
   simpa using this
  rw [<- e1,<- e2]; exact hin
 ·have e1:n=x:=congrArg Prod.fst e;have e2:k'=k:=congrArg Prod.snd e;rcases hk with hk | hk
  ·exact absurd (e2.trans hk) (nc _ hin)
  ·rw [<- e1,<- hk,<- e2]; exact hin
section
variable {X:Cx} {pz:List (Qd×Obj)} {σ:St} {H:Hp} {s:PQ} {scope:Scope} {N':List Str} {mp:List (Option Nat)} {fp:List Qd}
theorem CompSc.cells (ck:CompSc X scope N' mp) (ok:X.Ok):∀ x∈scope.names,x.2=.free->∃ c,X.env.cells.lookup x.1=some c:=λ x hx hf=>ok.has x.1 (ck.fr x hx hf)
theorem Inv.inner (I:Inv X pz σ H s) (ck:CompSc X scope N' mp) (hf:∀ b∈fp,uR X pz H b) (hlt:∀ b∈fp,b < s.heap.objs.size) {h₁:Heap} {tk:Nat}
  (hn:h₁.Ns s.heap.objs.size (λ _=>none)) (hk:∀ b o,s.heap.get? b=some o->h₁.get? b=some o) :
  Inv (b7 X scope N' s H fp) [] (la mp σ) H { s with heap:=h₁,toks:=tk }:=by
 have hfree:=ck.cells I.ok;have cin:∀ x c,(DQ scope X.env).lookup x=some c->X.env.cells.lookup x=some c:=λ x c e=>Gb hfree e;have clt:∀ x c,X.env.cells.lookup x=some c->c < s.heap.objs.size:=λ x c e=>by
  obtain ⟨v,q⟩:=I.cell x c e;exact q.lt
 refine ⟨⟨I.ok.mod,ck.kind,I.ok.glob,I.ok.blt,PV _,λ x y c h1 h2=>I.ok.inj x y c (cin x c h1) (cin y c h2),λ x hx=>?_,λ x c h _=>?_,I.ok.hd,I.ok.frames,.inl rfl,λ b hb=>⟨?_,λ x c e=>?_⟩,I.bs,Qg I.ok.bsz I.sz,λ b o e hb=>?_,λ b hb hs=>?_,I.stack,I.stkFree⟩,rfl,I.bare,Un.kept hk,⟨_,hn,λ i x v h1 h2 h3=>?_⟩,λ x c e=>?_,I.hok.fresh (PV _),λ x c e=>?_,λ p hp=>absurd (show p∈([]:List (Qd×Obj)) from hp) (by simp),I.hok.kept hk,?_⟩
 ·exact DO (BN ck.nocell hx)
 ·exact absurd (show false=true from h) (by decide)
 ·exact Qm (hlt b hb)
 ·exact (hf b hb).2.2.2.2.1 x c (cin x c e)
 ·have q:=(hf b hb).2.2.2.1;rcases q with q | q
  ·exact I.ok.noex b o e q
  ·exact absurd (P5 (Qb e) (Qg I.ok.bsz q)) (QY _)
 ·rcases Qh.mp (I.stkSub b hs) with z | z
  ·exact (hf b hb).2.1 z
  ·exact (hf b hb).2.2.1 z
 ·have hi:∃ j,mp[i]?=some (some j)/\σ[j]?=some (some v):=by
   unfold la at h2;rw [P9] at h2;cases q:mp[i]? with
   | none=>rw [q] at h2; cases h2
   | some o =>
    rw [q] at h2;have h2':(o.bind λ j=>(σ[j]?).join)=some v:=Option.some.inj h2;cases o with
    | none=>cases h2'
    | some j =>
     have h2'':(σ[j]?).join=some v:=h2';refine ⟨j,rfl,?_⟩;cases r:σ[j]? with
     | none=>rw [r] at h2''; cases h2''
     | some w' =>
      rw [r] at h2''
      have:w'=some v:=h2''
      rw [this]
  obtain ⟨j,hj,hσ⟩:=hi;obtain ⟨m1,m2,m3⟩:=ck.map i x j h1 hj;obtain ⟨m,hm,hl⟩:=I.loc;have vis:Vis X.env.scope x:=by
   rcases ck.fr _ m2 rfl with q | q
   ·exact .inr (.inl q)
   ·exact .inr (.inr q)
  obtain ⟨u,ru,l⟩:=hl j x v m1 hσ vis;refine ⟨u,ru,.inr ⟨m3,?_⟩⟩;obtain ⟨c,hc⟩:=DO (env:=X.env) m2;refine ⟨c,hc,?_⟩;rcases l with ⟨k,_⟩ | ⟨_,c',e',z⟩
  ·rcases ck.fr _ m2 rfl with q | q
   ·have k':X.env.scope.names.lookup x=some .local:=k;have q':X.env.scope.names.lookup x=some .cell:=q;rw [k'] at q'; cases q'
   ·have k':X.env.scope.names.lookup x=some .local:=k;have q':X.env.scope.names.lookup x=some .free:=q;rw [k'] at q'; cases q'
  ·have e2:=cin x c hc;rw [e'] at e2;cases e2;obtain ⟨o,ho,hd⟩:=z;exact ⟨o,hk _ o ho,hd⟩
 ·obtain ⟨v,o,ho,hd⟩:=I.cell x c (cin x c e);exact ⟨v,o,hk _ o ho,hd⟩
 ·exact I.freeC x c (cin x c e)
 ·show (la mp σ).length=N'.length;unfold la;rw [PJ];exact ck.len
theorem Inv.outer {σ':St} {H':Hp} {s':PQ} (I:Inv X pz σ H s) (hf:∀ b∈fp,uR X pz H b) (J:Inv (b7 X scope N' s H fp) [] σ' H' s'):Inv X pz σ H' s' :=
 I.call' (ch:=fp) J.os J.base J.hok J.bare λ b hb=>⟨(hf b hb).2.2.2.1,(hf b hb).2.1,(hf b hb).2.2.2.2.1,(hf b hb).2.2.2.2.2⟩
end
def zk (σ σ':St):Prop:=σ'.length=σ.length/\∀ (i:Nat) v,σ[i]?=some (some v)->σ'[i]?=some (some v)
def PTs (X:Cx) (ifs:List Expr) (t:TT):Prop :=
 ∀ (pz:List (Qd×Obj)) (s:PQ) (σ:St) (H:Hp) (Q:Bool->Hp->Prop),Inv X pz σ H s->t σ H Q ->
  Qs (Qq X.prog X.w) X.A (forIn ifs true λ c r=>if r=true then do let ok <- isTrue c X.env (eval c X.env); pure (ForInStep.yield ok) else pure (ForInStep.yield r)) (TP X pz σ Q) X.xe s
theorem FA {X:Cx}:PTs X [] (λ _ H Q=>Q true H):=λ _ _ _ H _ I h=>wpAny_tests_nil ⟨H,I,h⟩
theorem Fz {X:Cx} {c:Expr} {t:TT} (hc:PT X c t):PTs X [c] t:=λ pz s σ H Q I h=>wpAny_tests_one (hc pz s σ H Q I h)
def LO (J:It) (σ':St) (g:TG) (tt:TT) (te:TE) (D:Qd) (Fin:Hp->Prop) (H1:Hp):Prop :=
 ∃ W:Nat->Nat->Hp->Prop,(∃ m,W 0 m (upd H1 D (.lst [])))/\∀ i m H,W i m H ->
  (J.stop i H/\Fin H)\/(J.go i H/\∃ Nx:Hp->Prop,(∀ H',Nx H'->∃ m',m' < m/\W (i+1) m' H')/\∀ x H',J.yld i H x H'->g x σ' H' λ σ2 H2=>zk σ' σ2 /\
   tt σ2 H2 λ ok H3=>if ok=true then te σ2 H3 λ y H4=>∃ ys,H4 D=some (.lst ys)/\ys.length < P4/\Nx (upd H4 D (.lst (ys++[y]))) else Nx H3)
def Fp (mp:List (Option Nat)) (wi:TI) (g:TG) (tt:TT) (te:TE):TE:=λ σ H Q=>wi σ H λ J H1=>∀ D,H1 D=none->LO J (la mp σ) g tt te D (λ H=>Q (.ref D) H) H1
theorem uL {prog:Ql} {w:World} {A:QI} {R:Result->PQ->Prop} {s:PQ} {elt target iter:Expr} {ifs:List Expr} {scope:Scope} {pos:Pos} {it acc:PP} {env:Env} (I:Nat->PQ->Prop)
  (turn:∀ n s,I n s->Qs (Qq prog w) A (pyNext it) (λ r s₁=>match r with
   | none=>R (.ok .next) s₁
   | some v=>Qs (Qq prog w) A (letOwnedTupleGo target it v) (λ _ s₀=>Qs (Qq prog w) A (assign target env v) (λ _ s₂ =>
     Qs (Qq prog w) A (forIn ifs true λ c r=>if r=true then do let ok <- isTrue c env (eval c env); pure (ForInStep.yield ok) else pure (ForInStep.yield r)) (λ ok s₃ =>
      if ok=true then Qs (Qq prog w) A (eval elt env) (λ x s₄ =>
       Qs (Qq prog w) A (call (.builtin "list.append") [acc,x]) (λ _ s₅=>∃ m,m < n/\I m s₅) (λ _ _=>False) s₄) (λ _ _=>False) s₃
      else ∃ m,m < n/\I m s₃) (λ _ _=>False) s₂) (λ _ _=>False) s₀) (λ _ _=>False) s₁) (λ _ _=>False) s)
  (n:Nat) (h:I n s) :
  codeAny (Qq prog w) A (.compLoop (.ListComp elt [⟨target,iter,ifs,0⟩] scope pos) 0 it acc env) R s:=by
 refine codeAny_loop rfl I (λ n s hI=>?_) n h;show Qs _ A ((compTurn (.ListComp elt [⟨target,iter,ifs,0⟩] scope pos) 0 it acc env).onRaise (λ x=>do noteFrame x env; theTreesLotGoes x)) _ _ s;refine wpAny_noted ?_;rw [compTurn_list];have no:∀ {P:PP->PQ->Prop} (e:PP) (s':PQ),False->P e s':=λ _ _ f=>f.elim;refine P1 (wpAny_standAt (P1 (wpAny_mono (turn n s hI) (λ r s₁ h₁=>?_) no)));cases r with
 | none=>exact Qe h₁
 | some v =>
  refine P1 (wpAny_mono h₁ (λ _ s₀ h₀=>?_) no);refine P1 (wpAny_mono h₀ (λ _ s₂ h₂=>P1 (wpAny_mono h₂ (λ ok s₃ h₃=>?_) no)) no);cases ok with
  | false=>exact Qe ⟨rfl,h₃⟩
  | true =>
   exact P1 (P1 (wpAny_mono h₃ (λ x s₄ h₄=>P1 (wpAny_mono h₄ (λ _ s₅ h₅=>Qe (Qe ⟨rfl,h₅⟩)) no)) no))
section
variable {X:Cx} {elt iter tg:Expr} {ifs:List Expr} {scope:Scope} {pos:Pos} {N':List Str} {mp:List (Option Nat)} {wi:TI} {g:TG} {tt:TT} {te:TE}
theorem Aq {pz:List (Qd×Obj)} {σ:St} {H:Hp} {s:PQ} {J:It} {it:Qd} {fp:List Qd} {tn:Nat->Heap->Prop} {Fin:Hp->Prop} {E:PP->PQ->Prop} {RR:PP->Qd->Result->PQ->Prop}
  (hc:X.calm=true) (ck:CompSc X scope N' mp) (hb:∀ s H fp,PG (b7 X scope N' s H fp) tg g/\PTs (b7 X scope N' s H fp) ifs tt/\PE (b7 X scope N' s H fp) elt te)
  (I:Inv X pz σ H s) (T:Turn X.prog X.w X.K tg J fp it tn) (st:tn 0 s.heap) (hf:∀ b∈fp,uR X pz H b) (hq:LO J (la mp σ) g tt te s.heap.objs.size Fin H)
  (hRR:∀ (C:Qd) (s':PQ) (H':Hp),Inv X pz σ H' s'->Fin H'->(∃ m,s'.heap.Ns C m)->H' C=none->C≠X.env.locals->X.s₀.heap.objs.size<=C->(∀ x c,X.env.cells.lookup x=some c->c≠C)->(∀ p∈X.pn++pz,p.1≠C)->RR (.ref s.heap.objs.size) C (.ok .next) s') :
  Qs (Qq X.prog X.w) X.A (newList []) (λ acc s₃=>Qs (Qq X.prog X.w) X.A (newFunctionEnv scope X.env.globals (DQ scope X.env) [] X.env.qual none .none (some X.env)) (λ cenv s₄ =>
   codeAny (Qq X.prog X.w) X.A (.compStart (.ListComp elt [⟨tg,iter,ifs,0⟩] scope pos) 0 (.ref it) acc { cenv with scope:=relabel scope X.env }) (RR acc cenv.locals) s₄) E s₃) E s:=by
 refine wpAny_newObj_type (wpAny_newFunctionEnv ck.nocell (by intro y hy; simp at hy) (λ h₁ hns₁ hsb₁=>?_) ck.kind);dsimp only at hns₁ hsb₁ ⊢;have I3:Inv X pz σ (upd H s.heap.objs.size (.lst [])) { s with heap:=s.heap.push { cls:=.type "list", dict:=none,data:=.seq ([]:List PP).toArray } }:=I.lnew (its:=[]) (t':=s.toks) .nil (Q1 _);generalize hs3:({ s with heap:=s.heap.push { cls:=.type "list", dict:=none,data:=.seq ([]:List PP).toArray } }:PQ)=s3 at I3;have e3:s.heap.push { cls:=.type "list", dict:=none,data:=.seq ([]:List PP).toArray }=s3.heap:=by rw [<- hs3]
 rw [e3] at hns₁ hsb₁ ⊢;have sz3:s3.heap.objs.size=s.heap.objs.size+1:=by rw [<- e3,Heap.size_push]
 have le3:s.heap.objs.size<=s3.heap.objs.size:=by rw [sz3]; exact RA _
 have fplt:∀ b∈fp,b < s.heap.objs.size:=λ b hb=>by
  obtain ⟨o,e,_⟩:=T.obj 0 _ st b hb;exact Qb e
 have hf3:∀ b∈fp,uR X pz (upd H s.heap.objs.size (.lst [])) b:=λ b hb=>⟨by rw [aD (Qm (fplt b hb))]; exact (hf b hb).1,(hf b hb).2⟩;have k1:∀ b o,s3.heap.get? b=some o->h₁.get? b=some o:=λ b o e=>by
  rw [hsb₁.2 b (Qm (Qb e))];exact PZ _ e
 have k0:∀ b o,s.heap.get? b=some o->h₁.get? b=some o:=λ b o e=>k1 b o (by rw [<- e3]; exact PZ _ e);obtain ⟨W,⟨m0,w0⟩,turn⟩:=hq;obtain ⟨hg,ht,he⟩:=hb s3 (upd H s.heap.objs.size (.lst [])) fp;have no:∀ {P:PP->PQ->Prop} (e:PP) (s':PQ),False->P e s':=λ _ _ f=>f.elim;have stat:∀ {H':Hp},(∀ b∈fp,H' b=none)->∀ b∈fp,uR (b7 X scope N' s3 (upd H s.heap.objs.size (.lst [])) fp) [] H' b:=λ hn b hb =>
  ⟨hn b hb,Qm (P5 (fplt b hb) le3),λ z=>by
   rcases Qh.mp (I3.stkSub b z) with z | z
   ·exact (hf b hb).2.1 z
   ·exact (hf b hb).2.2.1 z,.inl hb,λ x c e=>(hf b hb).2.2.2.2.1 x c (Gb (ck.cells I.ok) e),λ p hp=>absurd (show p∈([]:List (Qd×Obj)) from hp) (by simp)⟩
 have loop:∀ tk:Nat,codeAny (Qq X.prog X.w) X.A (.compLoop (.ListComp elt [⟨tg,iter,ifs,0⟩] scope pos) 0 (.ref it) (.ref s.heap.objs.size) (compEnvC scope (DQ scope X.env) s3.heap.objs.size X.env))
   (RR (.ref s.heap.objs.size) s3.heap.objs.size) { s3 with heap:=h₁,toks:=tk }:=by
  intro tk;have I4:Inv (b7 X scope N' s3 (upd H s.heap.objs.size (.lst [])) fp) [] (la mp σ) (upd H s.heap.objs.size (.lst [])) { s3 with heap:=h₁,toks:=tk } :=
   I3.inner ck hf3 (λ b hb=>P5 (fplt b hb) le3) (by simpa using hns₁) k1
  refine uL (λ n s'=>∃ i H',Inv (b7 X scope N' s3 (upd H s.heap.objs.size (.lst [])) fp) [] (la mp σ) H' s'/\tn i s'.heap/\(∀ b∈fp,H' b=none)/\W i n H') ?_ m0
   ⟨0,_,I4,T.keep _ _ _ st λ b _ o e=>k0 b o e,λ b hb=>(hf3 b hb).1,w0⟩
  rintro n s5 ⟨i,H5,I5,st5,fr5,w5⟩
  rcases turn i n H5 w5 with ⟨stop,fin⟩ | ⟨go,Nx,hN,step⟩
  ·refine thn (T.done (b7 X scope N' s3 (upd H s.heap.objs.size (.lst [])) fp) rfl rfl rfl hc i [] s5 (la mp σ) H5 _ I5 (stat fr5) st5 stop) λ r s6 ⟨hr,I6⟩=>?_;subst hr;have IO:Inv X pz σ H5 s6:=I3.outer hf3 I6;obtain ⟨m,hm,_⟩:=I6.loc;refine hRR _ s6 H5 IO fin ⟨m,hm⟩ I6.free (Rq I3.lt) I3.sz (λ x c e=>?_) λ p hp=>?_
   ·obtain ⟨v,q⟩:=I3.cell x c e;exact Qm q.lt
   ·exact Qm (Qb (I3.pin p hp).1)
  ·refine thn (T.item (b7 X scope N' s3 (upd H s.heap.objs.size (.lst [])) fp) rfl rfl rfl hc i [] s5 (la mp σ) H5 _ I5 (stat fr5) st5 go) λ r s6 ⟨u,hr,h6⟩=>?_;subst hr;refine thn h6 λ _ s7 ⟨x,H7,I7,r7,y7,st7,fr7⟩=>?_;have I7':=I7.pinned (stat fr7) (T.obj _ _ st7);have back:∀ {σ9:St} {H9:Hp} {s9:PQ},Inv (b7 X scope N' s3 (upd H s.heap.objs.size (.lst [])) fp) ([]++zK fp s7.heap) σ9 H9 s9->zk (la mp σ) σ9->Nx H9 ->
     ∃ m,m < n/\∃ i H',Inv (b7 X scope N' s3 (upd H s.heap.objs.size (.lst [])) fp) [] (la mp σ) H' s9/\tn i s9.heap/\(∀ b∈fp,H' b=none)/\W i m H':=λ {σ9 H9 s9} I9 ks n9=>by
    obtain ⟨m',hm,w9⟩:=hN H9 n9;refine ⟨m',hm,i+1,H9,(Inv.unpinned (pz:=[]) I9).weak ks.1.symm ks.2,T.keep _ _ _ st7 λ b hb o e=>(I9.pin (b,o) (QB _ (QB _ (sI hb e)))).1,λ b hb=>?_,w9⟩;obtain ⟨o,e,d⟩:=T.obj _ _ st7 b hb;exact (I9.pin (b,o) (QB _ (QB _ (sI hb e)))).2.1
   refine thn (hg _ s7 (la mp σ) H7 x u _ I7' r7 (step x H7 y7)) λ _ s8 ⟨σ8,H8,I8,ks,q8⟩=>?_;refine thn (ht _ s8 σ8 H8 _ I8 q8) λ ok s9 ⟨H9,I9,q9⟩=>?_;cases ok with
   | false =>
    rw [if_neg PN] at q9 ⊢;exact back I9 ks q9
   | true =>
    rw [if_pos rfl] at q9 ⊢;refine thn (he _ s9 σ8 H9 _ I9 q9) λ y s10 ⟨yv,H10,I10,r10,ys,hD,hlen,nx⟩=>?_;refine thn (xQ _ s10 σ8 H10 (.ref s.heap.objs.size) [yv] (.ref s.heap.objs.size) [y] (λ _ H'=>Nx H') I10 rfl (.cons r10 .nil) ⟨_,ys,yv,rfl,rfl,hD,hlen,nx⟩) λ z s11 ⟨zv,H11,I11,_,n11⟩=>?_;exact back I11 ks n11
 subst hs3;exact codeAny_compStart_list (loop _) (T.self _ 0 _ _ _ (T.keep _ _ _ st λ b _ o e=>k0 b o e) (loop _))
theorem FF (hc:X.calm=true) (ck:CompSc X scope N' mp) (hi:PI X tg iter wi)
  (hb:∀ s H fp,PG (b7 X scope N' s H fp) tg g/\PTs (b7 X scope N' s H fp) ifs tt/\PE (b7 X scope N' s H fp) elt te)
  (hs:∀ x,foldedSetIterable iter X.env x=pure x:=by intro _; rfl):PE X (.ListComp elt [⟨tg,iter,ifs,0⟩] scope pos) (Fp mp wi g tt te):=by
 intro pz s σ H Q I h;rw [eval_ListComp];refine wpAny_comprehension_free (use:=none) rfl hs (vN (ck.cells I.ok)) ck.kind ck.names ?_;refine thn (hi pz s σ H _ I h) λ v s1 h1=>thn h1 λ itv s2 h2=>?_;obtain ⟨it,fp,tn,J,H2,e,I2,T,st2,f2,q2⟩:=h2;subst e;refine Aq hc ck hb I2 T st2 f2 (q2 _ (I2.hok.fresh (PV _))) λ C s' H' I' fin hm hC h1 h2 h3 h4=>?_;obtain ⟨m,hm⟩:=hm;refine ⟨m,hm,λ h' sb=>⟨.ref _,H',?_,rfl,fin⟩⟩;exact I'.turned (t':=s'.toks) (λ b o hb e=>(sb.2 b hb).trans e) hC h1 (.inr h2) h3 h4
theorem vW {i:Nat} {y:Str} {py spos:Pos} (hc:X.calm=true) (hN:X.N.Nodup) (hiy:X.N[i]?=some y) (hy:X.env.scope.names.lookup y=some .local) (ck:CompSc X scope N' mp) (hi:PI X tg iter wi)
  (hb:∀ s H fp,PG (b7 X scope N' s H fp) tg g/\PTs (b7 X scope N' s H fp) ifs tt/\PE (b7 X scope N' s H fp) elt te)
  (hsw:swapsWith (.ListComp elt [⟨tg,iter,ifs,0⟩] scope pos) (some (.Name y py)) spos.line X.env=pure true:=by rfl)
  (hs:∀ x,foldedSetIterable iter X.env x=pure x:=by intro _; rfl) :
  PS X (.Assign [.Name y py] (.ListComp elt [⟨tg,iter,ifs,0⟩] scope pos) spos) (Gp (Fp mp wi g tt te) (xj i)):=by
 intro pz s σ H D I h;rw [exec_Assign_Name_used _ _ _ _ hsw];refine P1 (wpAny_standAt (P1 ?_));show Qs _ X.A (do let _ <- comprehension (.ListComp elt [⟨tg,iter,ifs,0⟩] scope pos) scope X.env _ (newList []) false (eval iter X.env) (some (assign (.Name y py) X.env))) _ _ s;refine P1 (wpAny_mono (wpAny_comprehension_free (use:=some (assign (.Name y py) X.env)) (Q:=λ _ s'=>SP X pz D .next s') rfl hs (vN (ck.cells I.ok)) ck.kind ck.names ?_) (λ _ s' hq=>Qe (Qe hq)) λ _ _ e=>e);refine thn (hi pz s σ H _ I h) λ v s1 h1=>thn h1 λ itv s2 h2=>?_;obtain ⟨it,fp,tn,J,H2,e,I2,T,st2,f2,q2⟩:=h2;subst e;refine Aq hc ck hb I2 T st2 f2 (q2 _ (I2.hok.fresh (PV _))) λ C s' H' I' fin hm hC h1 h2 h3 h4=>?_;obtain ⟨m,hm⟩:=hm;refine wpAny_assign_Name (Bg (v:=.ref s2.heap.objs.size) I' hN hiy (.inl hy) rfl (λ s'' I'' ⟨a,sb,ha⟩=>?_) (.inr hy));have hCa:C≠a:=by
  rcases ha with ha | ha
  ·rw [ha]; exact h1
  ·exact λ z=>h3 _ _ ha z.symm
 refine ⟨m,hm.sameBut sb hCa,λ h' sb'=>⟨_,H',?_,fin⟩⟩;exact I''.turned (t':=s''.toks) (λ b o hb e=>(sb'.2 b hb).trans e) hC h1 (.inr h2) h3 h4
end
end L2
namespace L2.PU
open PySem PySem.Spec PyProof.Rows
variable {e tg:Expr} {es:List (PD×PD)} {a p C fa:Qd} {xs vs:List V} {ks:List (Key×V)} {ds:List PD} {b:Bool} {i k k' n kc:Nat} {x qual nm:Str} {F1 He F H H':Hp} {o:HO} {X:Cx} {K:PH} {r r':R2} {op':CmpOp} {fd:QX} {ps N N':List Str} {ppos npos tp pos apos:Pos} {mp:List (Option Nat)} {σ:St} {st:Stmt} {Q:VK} {w:World} {elts:List Expr} {scope:Scope} {pz:List (Qd×Obj)} {z:PD} {oo:PD->PD->Option PD} {θ:List Qd} {s':PQ} {h h1:Heap} {newId:String}
def nst:Expr->Bool
 | .Starred _ _=>false
 | _=>true
theorem bS {es:List Expr} {env:Env} (h:nst e=true):PX (e::es) env=(false,eval e env)::PX es env:=by
 cases e <;> first | rfl | cases h
theorem iN {pos:Pos} {env:Env}:∀ {es:List Expr},es.all nst=true->(backTo pos (PX es env)).any (·.1)=false
 | [],_=>rfl
 | e::es,h=>by
  rw [Q9,Qp] at h;rw [bS h.1];show (false||(backTo pos (PX es env)).any (·.1))=false;rw [iN h.2]; rfl
def kD:Key->PD
 | .inl i=>.int i
 | .inr x=>.str x
mutual
def Rel (K:PH) (F:Hp):PD->V->Prop
 | .none,v=>v=.non
 | .bool b,v=>v=.bl b
 | .int i,v=>v=.int i
 | .str x,v=>v=.str x
 | .tuple ds,v=>∃ a xs,v=.ref a/\SqT K F a xs/\RelL K F ds xs
 | .list ds,v=>∃ a xs,v=.ref a/\SqL K F a xs/\RelL K F ds xs
 | .dict es,v=>∃ a ks,v=.ref a/\Rd F a (.dK ks)/\RelD K F es ks
def RelL (K:PH) (F:Hp):List PD->List V->Prop
 | [],xs=>xs=[]
 | d::ds,xs=>∃ x r,xs=x::r/\Rel K F d x/\RelL K F ds r
def RelD (K:PH) (F:Hp):List (PD×PD)->List (Key×V)->Prop
 | [],ks=>ks=[]
 | (d,e)::es,ks=>∃ k x r,ks=(k,x)::r/\d=kD k/\Rel K F e x/\RelD K F es r
end
section
variable {K:PH} {F F' H H':Hp}
theorem dU (e:Same H H') (h:SqT K H a xs):SqT K H' a xs:=by
 rcases h with (h | ⟨o,h⟩) | h
 ·exact .inl (.inl (e _ _ h))
 ·exact .inl (.inr ⟨o,e _ _ h⟩)
 ·exact .inr h
theorem JQ {u:HO} (e:Same F F') (h:Rd F a u):Rd F' a u:=h.elim (λ h=>.inl (e _ _ h)) λ ⟨o,h⟩=>.inr ⟨o,e _ _ h⟩
theorem cL (h:H p=none) (o:HO):Same H (upd H p o):=λ b u q=>by rw [aD (aU q h)]; exact q
mutual
theorem Rel.mono (e:Same F F'):∀ {d:PD} {v:V},Rel K F d v->Rel K F' d v
 | .none,v,h=>by unfold Rel at h ⊢; exact h
 | .bool b,v,h=>by unfold Rel at h ⊢; exact h
 | .int i,v,h=>by unfold Rel at h ⊢; exact h
 | .str x,v,h=>by unfold Rel at h ⊢; exact h
 | .tuple ds,v,h=>by
  unfold Rel at h ⊢;obtain ⟨a,xs,h1,h2,h3⟩:=h;exact ⟨a,xs,h1,dU e h2,RelL.mono e h3⟩
 | .list ds,v,h=>by
  unfold Rel at h ⊢;obtain ⟨a,xs,h1,h2,h3⟩:=h;exact ⟨a,xs,h1,e.seq h2,RelL.mono e h3⟩
 | .dict es,v,h=>by
  unfold Rel at h ⊢;obtain ⟨a,ks,h1,h2,h3⟩:=h;exact ⟨a,ks,h1,JQ e h2,RelD.mono e h3⟩
theorem RelL.mono (e:Same F F'):∀ {ds:List PD} {xs:List V},RelL K F ds xs->RelL K F' ds xs
 | [],xs,h=>by unfold RelL at h ⊢; exact h
 | d::ds,xs,h=>by
  unfold RelL at h ⊢;obtain ⟨x,r,h1,h2,h3⟩:=h;exact ⟨x,r,h1,Rel.mono e h2,RelL.mono e h3⟩
theorem RelD.mono (e:Same F F'):∀ {es:List (PD×PD)} {ks:List (Key×V)},RelD K F es ks->RelD K F' es ks
 | [],ks,h=>by unfold RelD at h ⊢; exact h
 | (d,e')::es,ks,h=>by
  unfold RelD at h ⊢;obtain ⟨k,x,r,h1,h2,h3,h4⟩:=h;exact ⟨k,x,r,h1,h2,Rel.mono e h3,RelD.mono e h4⟩
end
theorem Rel.dct {v:V} (h:Rel K F (.dict es) v):∃ a ks,v=.ref a/\Rd F a (.dK ks)/\RelD K F es ks:=by unfold Rel at h; exact h
theorem Fx (h:Rd F a (.dK ks)) (r:RelD K F es ks):Rel K F (.dict es) (.ref a):=by unfold Rel; exact ⟨a,ks,rfl,h,r⟩
theorem RelD.nil:RelD K F [] []:=by unfold RelD; rfl
theorem RelD.nil_of (h:RelD K F [] ks):ks=[]:=by unfold RelD at h; exact h
theorem RelD.cons_of {d e:PD} (h:RelD K F ((d,e)::es) ks):∃ k x r,ks=(k,x)::r/\d=kD k/\Rel K F e x/\RelD K F es r:=by unfold RelD at h; exact h
theorem RelD.cons {k:Key} {e:PD} {x:V} {es:List (PD×PD)} {ks:List (Key×V)} (h:Rel K F e x) (t:RelD K F es ks):RelD K F ((kD k,e)::es) ((k,x)::ks):=by unfold RelD; exact ⟨k,x,ks,rfl,rfl,h,t⟩
def prs (kvs:List (Key×PD)):List (PD×PD):=kvs.map λ e=>(kD e.1,e.2)
theorem RelL.nil:RelL K F [] []:=by unfold RelL; rfl
theorem RelL.cons {d:PD} {ds:List PD} {x:V} {xs:List V} (h:Rel K F d x) (t:RelL K F ds xs):RelL K F (d::ds) (x::xs):=by unfold RelL; exact ⟨x,xs,rfl,h,t⟩
theorem RelL.nil_of (h:RelL K F [] xs):xs=[]:=by unfold RelL at h; exact h
theorem RelL.cons_of {d:PD} (h:RelL K F (d::ds) xs):∃ x r,xs=x::r/\Rel K F d x/\RelL K F ds r:=by unfold RelL at h; exact h
theorem RelL.length:∀ {ds:List PD} {xs:List V},RelL K F ds xs->xs.length=ds.length
 | [],xs,h=>by rw [h.nil_of]; rfl
 | d::ds,xs,h=>by
  obtain ⟨x,r,rfl,_,h3⟩:=h.cons_of;rw [P8,P8,RelL.length h3]
theorem RelL.append:∀ {ds es:List PD} {xs ys:List V},RelL K F ds xs->RelL K F es ys->RelL K F (ds++es) (xs++ys)
 | [],es,xs,ys,h,k=>by rw [h.nil_of]; exact k
 | d::ds,es,xs,ys,h,k=>by
  obtain ⟨x,r,rfl,h2,h3⟩:=h.cons_of;exact RelL.cons h2 (RelL.append h3 k)
theorem RelL.get:∀ {ds:List PD} {xs:List V} {i:Nat} {d:PD},RelL K F ds xs->ds[i]?=some d->∃ x,xs[i]?=some x/\Rel K F d x
 | [],_,_,_,_,e=>by simp at e
 | d::ds,xs,0,_,h,e=>by
  obtain ⟨x,r,rfl,h2,h3⟩:=h.cons_of;have e':d=_:=Option.some.inj e;exact ⟨x,rfl,e' ▸ h2⟩
 | d::ds,xs,i+1,d',h,e=>by
  obtain ⟨x,r,rfl,h2,h3⟩:=h.cons_of;exact RelL.get (i:=i) h3 (by simpa using e)
theorem RelL.take:∀ {ds:List PD} {xs:List V} (n:Nat),RelL K F ds xs->RelL K F (ds.take n) (xs.take n)
 | _,_,0,_=>by rw [List.take_zero,List.take_zero]; exact .nil
 | [],xs,n+1,h=>by rw [h.nil_of]; exact .nil
 | d::ds,xs,n+1,h=>by
  obtain ⟨x,r,rfl,h2,h3⟩:=h.cons_of;exact RelL.cons h2 (RelL.take n h3)
theorem RelL.drop:∀ {ds:List PD} {xs:List V} (n:Nat),RelL K F ds xs->RelL K F (ds.drop n) (xs.drop n)
 | _,_,0,h=>by simpa using h
 | [],xs,n+1,h=>by rw [h.nil_of]; exact .nil
 | d::ds,xs,n+1,h=>by
  obtain ⟨x,r,rfl,h2,h3⟩:=h.cons_of;exact RelL.drop n h3
theorem RelL.reverse:∀ {ds:List PD} {xs:List V},RelL K F ds xs->RelL K F ds.reverse xs.reverse
 | [],xs,h=>by rw [h.nil_of]; exact .nil
 | d::ds,xs,h=>by
  obtain ⟨x,r,rfl,h2,h3⟩:=h.cons_of;rw [RH,RH];exact RelL.append (RelL.reverse h3) (.cons h2 .nil)
theorem Rel.non {v:V} (h:Rel K F .none v):v=.non:=by unfold Rel at h; exact h
theorem Rel.bl {v:V} (h:Rel K F (.bool b) v):v=.bl b:=by unfold Rel at h; exact h
theorem Rel.int {i:Int} {v:V} (h:Rel K F (.int i) v):v=.int i:=by unfold Rel at h; exact h
theorem Rel.str {v:V} (h:Rel K F (.str x) v):v=.str x:=by unfold Rel at h; exact h
theorem Rel.tup {v:V} (h:Rel K F (.tuple ds) v):∃ a xs,v=.ref a/\SqT K F a xs/\RelL K F ds xs:=by unfold Rel at h; exact h
theorem Rel.lst {v:V} (h:Rel K F (.list ds) v):∃ a xs,v=.ref a/\SqL K F a xs/\RelL K F ds xs:=by unfold Rel at h; exact h
theorem uU:Rel K F .none .non:=by unfold Rel; rfl
theorem fE:Rel K F (.bool b) (.bl b):=by unfold Rel; rfl
theorem dQ {i:Int}:Rel K F (.int i) (.int i):=by unfold Rel; rfl
theorem sF:Rel K F (.str x) (.str x):=by unfold Rel; rfl
theorem kF (h:SqT K F a xs) (r:RelL K F ds xs):Rel K F (.tuple ds) (.ref a):=by unfold Rel; exact ⟨a,xs,rfl,h,r⟩
theorem kG (h:SqL K F a xs) (r:RelL K F ds xs):Rel K F (.list ds) (.ref a):=by unfold Rel; exact ⟨a,xs,rfl,h,r⟩
theorem RelL.ints:∀ (ns:List Int),RelL K F (ns.map Qx) (ns.map V.int)
 | []=>.nil
 | _::r=>.cons dQ (RelL.ints r)
structure Gr (F H F' H':Hp):Prop where
 ff:Same F F'
 hh:Same H H'
 fh:Same F' H'
 new:∀ b,F' b≠none->F b≠none\/H b=none
theorem Gr.refl (h:Same F H):Gr F H F H:=⟨.refl _,.refl _,h,λ _ q=>.inl q⟩
theorem Gr.trans {H1 F2 H2:Hp} (a:Gr F H F1 H1) (b:Gr F1 H1 F2 H2):Gr F H F2 H2 :=
 ⟨a.ff.trans b.ff,a.hh.trans b.hh,b.fh,λ c q=>(b.new c q).elim (λ q=>a.new c q) λ q=>.inr (a.hh.free q)⟩
theorem Gr.one (h:Same F H) (hp:H p=none):Gr F H (upd F p o) (upd H p o) where
 ff:=cL (h.free hp) o
 hh:=cL hp o
 fh:=λ b u q=>by
  by_cases e:b=p
  ·subst e; rw [aA] at q ⊢; exact q
  ·rw [aD e] at q ⊢; exact h _ _ q
 new:=λ b q=>by
  by_cases e:b=p
  ·subst e; exact .inr hp
  ·rw [aD e] at q; exact .inl q
end
inductive Sl where
 | un
 | val (d:PD)
 | own (ds:List PD)
 | odc (kvs:List (Key×PD))
 | ob (fs:Str->Option PD)
abbrev En:=List Sl
variable {η:En}
def nt:Sl->Bool
 | .own _=>true
 | .odc _=>true
 | _=>false
def CellR (K:PH) (F:Hp):Sl->HO->Prop
 | .own ds,o=>∃ xs,o=.lst xs/\RelL K F ds xs
 | .odc kvs,o=>∃ ks,o=.dK ks/\RelD K F (prs kvs) ks
 | _,_=>False
def ObF (K:PH) (C:Qd) (F:Hp) (fs:Str->Option PD) (xs:List (Str×V)):Prop:=∀ f d,fs f=some d->NoAttr K C f/\∃ v,xs.lookup f=some v/\Rel K F d v
structure EnR (K:PH) (He F H:Hp) (σ:St) (η:En):Prop where
 len:η.length=σ.length
 val:∀ (i:Nat) d,η[i]?=some (.val d)->∃ v,σ[i]?=some (some v)/\Rel K F d v
 cel:∀ (i:Nat) sl,η[i]?=some sl->nt sl=true->∃ p o,σ[i]?=some (some (.ref p))/\F p=none/\He p=none/\H p=some o/\CellR K F sl o
 apart:∀ (i j:Nat) a b,η[i]?=some a->η[j]?=some b->nt a=true->nt b=true->i≠j->σ[i]?≠σ[j]?
 obs:∀ (i:Nat) fs,η[i]?=some (.ob fs)->∃ p C dx xs,σ[i]?=some (some (.ref p))/\H p=some (.ins C dx xs)/\Cls K C/\ObF K C F fs xs
structure Bd where
 F:Hp
 H:Hp
variable {B:Bd}
structure SR (K:PH) (B:Bd) (F H:Hp) (σ:St) (η:En):Prop where
 gr:Gr B.F B.H F H
 en:EnR K B.H F H σ η
section
variable {K:PH} {B:Bd} {F H F' H':Hp} {σ:St} {η:En}
theorem CellR.mono (e:Same F F'):∀ {sl:Sl} {o:HO},CellR K F sl o->CellR K F' sl o
 | .own _,_,⟨xs,h1,h2⟩=>⟨xs,h1,h2.mono e⟩
 | .odc _,_,⟨xs,h1,h2⟩=>⟨xs,h1,h2.mono e⟩
 | .un,_,h=>h.elim
 | .val _,_,h=>h.elim
 | .ob _,_,h=>h.elim
theorem ObF.mono {fs:Str->Option PD} {xs:List (Str×V)} (e:Same F F') (h:ObF K C F fs xs):ObF K C F' fs xs:=λ f d q=>let ⟨a,v,b,c⟩:=h f d q; ⟨a,v,b,c.mono e⟩
theorem CellR.noins {sl:Sl} (h:CellR K F sl o) (C dx:Qd) (xs:List (Str×V)):o≠.ins C dx xs:=by
 cases sl with
 | own ds=>obtain ⟨ys,rfl,_⟩:=h; intro z; cases z
 | odc ds=>obtain ⟨ys,rfl,_⟩:=h; intro z; cases z
 | un=>exact h.elim
 | val _=>exact h.elim
 | ob _=>exact h.elim
theorem EnR.own (r:EnR K He F H σ η) (i:Nat) (ds:List PD) (e:η[i]?=some (.own ds)):∃ p xs,σ[i]?=some (some (.ref p))/\F p=none/\He p=none/\H p=some (.lst xs)/\RelL K F ds xs:=by
 obtain ⟨p,o,h1,h2,h3,h4,xs,rfl,h5⟩:=r.cel i _ e rfl;exact ⟨p,xs,h1,h2,h3,h4,h5⟩
theorem EnR.odc (r:EnR K He F H σ η) (i:Nat) (kvs:List (Key×PD)) (e:η[i]?=some (.odc kvs)):∃ p ks,σ[i]?=some (some (.ref p))/\F p=none/\He p=none/\H p=some (.dK ks)/\RelD K F (prs kvs) ks:=by
 obtain ⟨p,o,h1,h2,h3,h4,xs,rfl,h5⟩:=r.cel i _ e rfl;exact ⟨p,xs,h1,h2,h3,h4,h5⟩
theorem EnR.grow (r:EnR K He F H σ η) (g:Gr F H F' H'):EnR K He F' H' σ η where
 len:=r.len
 val:=λ i d e=>let ⟨v,e1,e2⟩:=r.val i d e; ⟨v,e1,e2.mono g.ff⟩
 cel:=λ i sl e hs=>by
  obtain ⟨p,o,e1,e2,e3,e4,e5⟩:=r.cel i sl e hs;refine ⟨p,o,e1,?_,e3,g.hh _ _ e4,e5.mono g.ff⟩;cases q:F' p with
  | none=>rfl
  | some o =>
   rcases g.new p (by rw [q]; simp) with z | z
   ·exact absurd e2 z
   ·rw [e4] at z; cases z
 apart:=r.apart
 obs:=λ i fs e=>let ⟨p,C,dx,xs,e1,e2,e3,e4⟩:=r.obs i fs e; ⟨p,C,dx,xs,e1,g.hh _ _ e2,e3,e4.mono g.ff⟩
theorem SR.grow (r:SR K B F H σ η) (g:Gr F H F' H'):SR K B F' H' σ η:=⟨r.gr.trans g,r.en.grow g⟩
theorem SR.same (r:SR K B F H σ η):Same F H:=r.gr.fh
theorem EnR.set (r:EnR K He F H σ η) (i:Nat) {d:PD} {v:V} (h:Rel K F d v):EnR K He F H (σ.set i (some v)) (η.set i (.val d)) where
 len:=by rw [Qa,Qa]; exact r.len
 val:=λ j d' e=>by
  by_cases hj:i=j
  ·subst hj;by_cases hl:i < η.length
   ·rw [PY hl] at e;have e':d=d':=by injection (Option.some.inj e)
    subst e';exact ⟨v,by rw [PY (by rw [<- r.len]; exact hl)],h⟩
   ·rw [Qw (by rw [Qa]; omega)] at e; cases e
  ·rw [PK hj] at e ⊢; exact r.val j d' e
 cel:=λ j sl e hs=>by
  by_cases hj:i=j
  ·subst hj;by_cases hl:i < η.length
   ·rw [PY hl] at e;have e':Sl.val d=sl:=Option.some.inj e;subst e';cases hs
   ·rw [Qw (by rw [Qa]; omega)] at e; cases e
  ·rw [PK hj] at e ⊢; exact r.cel j sl e hs
 apart:=λ j k a b ej ek ha hb hjk=>by
  have no:∀ (j:Nat) a,(η.set i (.val d))[j]?=some a->nt a=true->i≠j:=λ j a ej ha hj=>by
   subst hj;by_cases hl:i < η.length
   ·rw [PY hl] at ej;have e':Sl.val d=a:=Option.some.inj ej;subst e';cases ha
   ·rw [Qw (by rw [Qa]; omega)] at ej; cases ej
  have nj:=no j a ej ha;have nk:=no k b ek hb;rw [PK nj] at ej ⊢;rw [PK nk] at ek ⊢;exact r.apart j k a b ej ek ha hb hjk
 obs:=λ j fs e=>by
  by_cases hj:i=j
  ·subst hj;by_cases hl:i < η.length
   ·rw [PY hl] at e; cases e
   ·rw [Qw (by rw [Qa]; omega)] at e; cases e
  ·rw [PK hj] at e ⊢; exact r.obs j fs e
theorem EnR.setCell (r:EnR K He F H σ η) (i:Nat) {sl:Sl} (hsl:nt sl=true) (h1:F p=none) (h2:He p=none) (h3:H p=some o) (h4:CellR K F sl o)
  (h5:∀ (j:Nat),σ[j]?=some (some (.ref p))->∀ a,η[j]?=some a->nt a=false):EnR K He F H (σ.set i (some (.ref p))) (η.set i sl) where
 len:=by rw [Qa,Qa]; exact r.len
 val:=λ j d' e=>by
  by_cases hj:i=j
  ·subst hj;by_cases hl:i < η.length
   ·rw [PY hl] at e;have e':sl=.val d':=Option.some.inj e;subst e';cases hsl
   ·rw [Qw (by rw [Qa]; omega)] at e; cases e
  ·rw [PK hj] at e ⊢; exact r.val j d' e
 cel:=λ j a e ha=>by
  by_cases hj:i=j
  ·subst hj;by_cases hl:i < η.length
   ·rw [PY hl] at e;have e':sl=a:=Option.some.inj e;subst e';exact ⟨p,o,by rw [PY (by rw [<- r.len]; exact hl)],h1,h2,h3,h4⟩
   ·rw [Qw (by rw [Qa]; omega)] at e; cases e
  ·rw [PK hj] at e ⊢; exact r.cel j a e ha
 apart:=λ j k a b ej ek ha hb hjk=>by
  by_cases hj:i=j
  ·subst hj;have hl:i < η.length:=by
    by_cases hl:i < η.length
    ·exact hl
    ·rw [Qw (by rw [Qa]; omega)] at ej; cases ej
   rw [PK hjk] at ek ⊢;rw [PY (by rw [<- r.len]; exact hl)];exact λ z=>by rw [h5 k z.symm b ek] at hb; cases hb
  ·by_cases hk:i=k
   ·subst hk;have hl:i < η.length:=by
     by_cases hl:i < η.length
     ·exact hl
     ·rw [Qw (by rw [Qa]; omega)] at ek; cases ek
    rw [PK hj] at ej ⊢;rw [PY (by rw [<- r.len]; exact hl)];exact λ z=>by rw [h5 j z a ej] at ha; cases ha
   ·rw [PK hj] at ej ⊢;rw [PK hk] at ek ⊢;exact r.apart j k a b ej ek ha hb hjk
 obs:=λ j fs e=>by
  by_cases hj:i=j
  ·subst hj;by_cases hl:i < η.length
   ·rw [PY hl] at e;have e':sl=.ob fs:=Option.some.inj e;subst e';cases hsl
   ·rw [Qw (by rw [Qa]; omega)] at e; cases e
  ·rw [PK hj] at e ⊢; exact r.obs j fs e
theorem EnR.setOwn (r:EnR K He F H σ η) (i:Nat) (h1:F p=none) (h2:He p=none) (h3:H p=some (.lst xs)) (h4:RelL K F ds xs)
  (h5:∀ (j:Nat),σ[j]?=some (some (.ref p))->∀ a,η[j]?=some a->nt a=false):EnR K He F H (σ.set i (some (.ref p))) (η.set i (.own ds)):=r.setCell i rfl h1 h2 h3 ⟨xs,rfl,h4⟩ h5
theorem EnR.notown (r:EnR K He F H σ η) (h:H p=none):∀ (j:Nat),σ[j]?=some (some (.ref p))->∀ a,η[j]?=some a->nt a=false:=λ j e a z=>by
 cases ha:nt a with
 | false=>rfl
 | true =>
  obtain ⟨q,o,e1,_,_,e4,_⟩:=r.cel j a z ha;rw [e] at e1
  have:p=q:=by injection (Option.some.inj (Option.some.inj e1))
  rw [this,e4] at h; cases h
theorem EnR.putCell (r:EnR K He F H σ η) {sl sl':Sl} (hi:η[i]?=some sl) (hs:nt sl=true) (hs':nt sl'=true) (hσ:σ[i]?=some (some (.ref p))) (h4:CellR K F sl' o) :
  EnR K He F (upd H p o) σ (η.set i sl') where
 len:=by rw [Qa]; exact r.len
 val:=λ j d' e=>by
  by_cases hj:i=j
  ·subst hj;rw [PY (PR.mp hi).1] at e;have e':sl'=.val d':=Option.some.inj e;subst e';cases hs'
  ·rw [PK hj] at e; exact r.val j d' e
 cel:=λ j a e ha=>by
  by_cases hj:i=j
  ·subst hj;rw [PY (PR.mp hi).1] at e;have e':sl'=a:=Option.some.inj e;subst e';obtain ⟨q,o1,e1,e2,e3,e4,e5⟩:=r.cel i sl hi hs;rw [hσ] at e1
   have:p=q:=by injection (Option.some.inj (Option.some.inj e1))
   subst this;exact ⟨p,o,hσ,e2,e3,aA,h4⟩
  ·rw [PK hj] at e;obtain ⟨q,o1,e1,e2,e3,e4,e5⟩:=r.cel j a e ha;refine ⟨q,o1,e1,e2,e3,?_,e5⟩;rw [aD]
   ·exact e4
   ·intro z;subst z;exact r.apart i j sl a hi e hs ha hj (by rw [hσ,e1])
 apart:=λ j k a b ej ek ha hb hjk=>by
  have aa:∀ (j:Nat) a,(η.set i sl')[j]?=some a->nt a=true->∃ a',η[j]?=some a'/\nt a'=true:=λ j a e ha=>by
   by_cases hj:i=j
   ·subst hj; exact ⟨sl,hi,hs⟩
   ·rw [PK hj] at e; exact ⟨a,e,ha⟩
  obtain ⟨a',e1,f1⟩:=aa j a ej ha;obtain ⟨b',e2,f2⟩:=aa k b ek hb;exact r.apart j k a' b' e1 e2 f1 f2 hjk
 obs:=λ j fs e=>by
  by_cases hj:i=j
  ·subst hj;rw [PY (PR.mp hi).1] at e;have e':sl'=.ob fs:=Option.some.inj e;subst e';cases hs'
  ·rw [PK hj] at e;obtain ⟨q,C,dx,xs,e1,e2,e3,e4⟩:=r.obs j fs e;refine ⟨q,C,dx,xs,e1,?_,e3,e4⟩;obtain ⟨p',o1,f1,_,_,f4,f5⟩:=r.cel i sl hi hs;rw [hσ] at f1
   have:p=p':=by injection (Option.some.inj (Option.some.inj f1))
   subst this;rw [aD]
   ·exact e2
   ·intro z;subst z;rw [f4] at e2;exact f5.noins _ _ _ (Option.some.inj e2)
theorem EnR.putOwn (r:EnR K He F H σ η) {es:List PD} {ys:List V} (hi:η[i]?=some (.own ds)) (hσ:σ[i]?=some (some (.ref p))) (h4:RelL K F es ys) :
  EnR K He F (upd H p (.lst ys)) σ (η.set i (.own es)):=r.putCell hi rfl rfl hσ ⟨ys,rfl,h4⟩
theorem SR.freezeCell (r:SR K B F H σ η) {sl:Sl} {d:PD} (hi:η[i]?=some sl) (hs:nt sl=true) (e1:σ[i]?=some (some (.ref p))) (e2:F p=none) (e3:B.H p=none) (e4:H p=some o) (rel:Rel K (upd F p o) d (.ref p)) :
  Same F (upd F p o)/\SR K B (upd F p o) H σ (η.set i (.val d)):=by
 have sn:=cL (H:=F) e2 o;refine ⟨sn,⟨⟨r.gr.ff.trans sn,r.gr.hh,?_,?_⟩,?_⟩⟩
 ·intro b u q;by_cases e:b=p
  ·subst e; rw [aA] at q; rw [<- q]; exact e4
  ·rw [aD e] at q; exact r.gr.fh _ _ q
 ·intro b q;by_cases e:b=p
  ·subst e; exact .inr e3
  ·rw [aD e] at q; exact r.gr.new b q
 ·refine ⟨by rw [Qa]; exact r.en.len,λ j d' e=>?_,λ j a e ha=>?_,λ j k a b ej ek ha hb hjk=>?_,λ j fs e=>?_⟩
  ·by_cases hj:i=j
   ·subst hj;rw [PY (PR.mp hi).1] at e;have e':d=d':=by injection (Option.some.inj e)
    subst e';exact ⟨_,e1,rel⟩
   ·rw [PK hj] at e;obtain ⟨v,q1,q2⟩:=r.en.val j d' e;exact ⟨v,q1,q2.mono sn⟩
  ·by_cases hj:i=j
   ·subst hj;rw [PY (PR.mp hi).1] at e;have e':Sl.val d=a:=Option.some.inj e;subst e';cases ha
   ·rw [PK hj] at e;obtain ⟨q,o1,q1,q2,q3,q4,q5⟩:=r.en.cel j a e ha;refine ⟨q,o1,q1,?_,q3,q4,q5.mono sn⟩;rw [aD]
    ·exact q2
    ·intro z;subst z;exact r.en.apart i j sl a hi e hs ha hj (by rw [e1,q1])
  ·have no:∀ (j:Nat) a,(η.set i (.val d))[j]?=some a->nt a=true->i≠j:=λ j a ej ha hj=>by
    subst hj;rw [PY (PR.mp hi).1] at ej;have e':Sl.val d=a:=Option.some.inj ej;subst e';cases ha
   have nj:=no j a ej ha;have nk:=no k b ek hb;rw [PK nj] at ej;rw [PK nk] at ek;exact r.en.apart j k a b ej ek ha hb hjk
  ·by_cases hj:i=j
   ·subst hj;rw [PY (PR.mp hi).1] at e; cases e
   ·rw [PK hj] at e;obtain ⟨q,C,dx,xs,q1,q2,q3,q4⟩:=r.en.obs j fs e;exact ⟨q,C,dx,xs,q1,q2,q3,q4.mono sn⟩
theorem SR.freeze (r:SR K B F H σ η) (hi:η[i]?=some (.own ds)):∃ F' p,σ[i]?=some (some (.ref p))/\Same F F'/\SR K B F' H σ (η.set i (.val (.list ds)))/\Rel K F' (.list ds) (.ref p):=by
 obtain ⟨p,xs,e1,e2,e3,e4,e5⟩:=r.en.own i ds hi;have rel:Rel K (upd F p (.lst xs)) (.list ds) (.ref p):=kG (SqL.of aA) (e5.mono (cL (H:=F) e2 (.lst xs)));obtain ⟨h1,h2⟩:=r.freezeCell hi rfl e1 e2 e3 e4 rel;exact ⟨_,p,e1,h1,h2,rel⟩
theorem SR.freezeD (r:SR K B F H σ η) {kvs:List (Key×PD)} (hi:η[i]?=some (.odc kvs)):∃ F' p,σ[i]?=some (some (.ref p))/\Same F F'/\SR K B F' H σ (η.set i (.val (.dict (prs kvs))))/\Rel K F' (.dict (prs kvs)) (.ref p):=by
 obtain ⟨p,ks,e1,e2,e3,e4,e5⟩:=r.en.odc i kvs hi;have rel:Rel K (upd F p (.dK ks)) (.dict (prs kvs)) (.ref p):=Fx (.inl aA) (e5.mono (cL (H:=F) e2 (.dK ks)));obtain ⟨h1,h2⟩:=r.freezeCell hi rfl e1 e2 e3 e4 rel;exact ⟨_,p,e1,h1,h2,rel⟩
end
section
variable (K:PH) (B:Bd)
def tE (f:En->Option PD):TE:=λ σ H Q=>∃ F η d,SR K B F H σ η/\f η=some d/\∀ v F' H',Gr F H F' H'->Rel K F' d v->Q v H'
def tO (f:En->Option (List PD)):TE:=λ σ H Q=>∃ F η ds,SR K B F H σ η/\f η=some ds/\∀ p xs F' H',Gr F H F' H'->H p=none->F' p=none->H' p=some (.lst xs)->RelL K F' ds xs->Q (.ref p) H'
def tT (f:En->Option Bool):TT:=λ σ H Q=>∃ F η b,SR K B F H σ η/\f η=some b/\∀ F' H',Gr F H F' H'->Q b H'
def tA (f:En->Option (List PD)):TA:=λ σ H Q=>∃ F η ds,SR K B F H σ η/\f η=some ds/\∀ vs F' H',Gr F H F' H'->RelL K F' ds vs->Q vs H'
end
def E (X:Cx) (B:Bd) (e:Expr) (f:En->Option PD):Prop:=PE X e (tE X.K B f)
def EO (X:Cx) (B:Bd) (e:Expr) (f:En->Option (List PD)):Prop:=PE X e (tO X.K B f)
def T (X:Cx) (B:Bd) (e:Expr) (f:En->Option Bool):Prop:=PT X e (tT X.K B f)
def TW (X:Cx) (B:Bd) (e:Expr) (f:En->Option Bool):Prop:=PW X e (tT X.K B f)
def A (X:Cx) (B:Bd) (es:List Expr) (f:En->Option (List PD)):Prop:=PA X es (tA X.K B f)
theorem PE.imp {t t':TE} (h:PE X e t) (i:∀ σ H Q,t' σ H Q->t σ H Q):PE X e t':=λ pz s σ H Q I q=>h pz s σ H Q I (i σ H Q q)
theorem PT.imp {t t':TT} (h:PT X e t) (i:∀ σ H Q,t' σ H Q->t σ H Q):PT X e t':=λ pz s σ H Q I q=>h pz s σ H Q I (i σ H Q q)
theorem PW.imp {t t':TT} (h:PW X e t) (i:∀ σ H Q,t' σ H Q->t σ H Q):PW X e t':=λ wh pz s σ H Q I q=>h wh pz s σ H Q I (i σ H Q q)
theorem PA.imp {e:List Expr} {t t':TA} (h:PA X e t) (i:∀ σ H Q,t' σ H Q->t σ H Q):PA X e t':=λ pos pz s σ H Q I q=>h pos pz s σ H Q I (i σ H Q q)
def eV (i:Nat):En->Option PD:=λ η=>match η[i]? with | some (.val d)=>some d | _=>none
def eC (d:PD):En->Option PD:=λ _=>some d
def l1 (o:PD->Option PD) (f:En->Option PD):En->Option PD:=λ η=>(f η).bind o
def l2 (o:PD->PD->Option PD) (f g:En->Option PD):En->Option PD:=λ η=>(f η).bind λ x=>(g η).bind λ y=>o x y
def aN:En->Option (List PD):=λ _=>some []
def aC (f:En->Option PD) (g:En->Option (List PD)):En->Option (List PD):=λ η=>(f η).bind λ x=>(g η).bind λ xs=>some (x::xs)
def lA (o:List PD->Option PD) (f:En->Option (List PD)):En->Option PD:=λ η=>(f η).bind o
section
variable {X:Cx} {B:Bd} {a b c e:Expr} {es:List Expr} {f g h:En->Option PD} {fs:En->Option (List PD)} {pos:Pos}
theorem ac {α β:Type} {o:Option α} {k:α->Option β} {y:β} (h:o.bind k=some y):∃ x,o=some x/\k x=some y:=by
 cases o with
 | none=>cases h
 | some x=>exact ⟨x,rfl,h⟩
def Ad2 (K:PH) (r:R2) (o:PD->PD->Option PD):Prop :=
 ∀ F H x y dx dy d Q,Same F H->Rel K F dx x->Rel K F dy y->o dx dy=some d->(∀ v F' H',Gr F H F' H'->Rel K F' d v->Q v H')->r x y H Q
theorem t2 {o:PD->PD->Option PD} (ad:Ad2 K r o):∀ σ H Q,tE K B (l2 o f g) σ H Q->tOp r (tE K B f) (tE K B g) σ H Q:=by
 intro σ H Q ⟨F,η,d,sr,hd,q⟩;obtain ⟨x,hx,hd⟩:=ac hd;obtain ⟨y,hy,hd⟩:=ac hd;refine ⟨F,η,x,sr,hx,λ v F1 H1 g1 rv=>⟨F1,η,y,sr.grow g1,hy,λ u F2 H2 g2 ru=>?_⟩⟩;exact ad F2 H2 v u x y d Q g2.fh (rv.mono g2.ff) ru hd λ w F3 H3 g3 rw'=>q w F3 H3 ((g1.trans g2).trans g3) rw'
theorem E.op {op:Operator} {o:PD->PD->Option PD} (ho:OpR X (binaryOp op) r) (ad:Ad2 X.K r o) (ha:E X B a f) (hb:E X B b g):E X B (.BinOp a op b pos) (l2 o f g) :=
 PE.imp (Dc ho ha hb) (t2 ad)
theorem E.cmp {op:CmpOp} {o:PD->PD->Option PD} (ho:OpR X (QD op) r) (ad:Ad2 X.K r o) (hm:QH op b=false) (ha:E X B a f) (hb:E X B b g):E X B (.Compare a [op] [b] pos) (l2 o f g) :=
 PE.imp (FG ho ha hb hm) (t2 ad)
theorem E.ix {o:PD->PD->Option PD} (hr:IxR X r) (ad:Ad2 X.K r o) (ha:E X B a f) (hb:E X B b g) (hs:uZ b:=by intro _ _; rfl):E X B (.Subscript a b pos) (l2 o f g) :=
 PE.imp (HJ hr ha hb hs) (t2 ad)
theorem ay (i:Nat) (hN:X.N[i]?=some x:=by rfl) (hv:Vis X.env.scope x:=by first | exact Or.inl rfl | exact Or.inr (Or.inl rfl) | exact Or.inr (Or.inr rfl)) (hd:Nd x:=by decide)
  (hcd:(x==("__classdict__" : Str))=false:=by decide):E X B (.Name x pos) (eV i) :=
 PE.imp (qT hN hv hd hcd) λ σ H Q ⟨F,η,d,sr,hd,q⟩=>by
  unfold eV at hd;split at hd
  ·rename_i d' e;cases hd;obtain ⟨v,e1,e2⟩:=sr.en.val i d e;exact ⟨v,e1,q v F H (.refl sr.same) e2⟩
  ·cases hd
theorem CS {v:V} {d:PD} (h:∀ F,Rel K F d v):∀ σ H Q,tE K B (eC d) σ H Q->tC v σ H Q:=λ σ H Q ⟨F,η,d',sr,hd,q⟩=>by
 have e:d=d':=Option.some.inj hd;subst e;exact q v F H (.refl sr.same) (h F)
theorem aq {i:Int} {j}:E X B (.Constant (.int i) j pos) (eC (.int i)):=PE.imp HL (CS λ _=>dQ)
theorem AN {i:Bool} {j}:E X B (.Constant (.bool i) j pos) (eC (.bool i)):=PE.imp HS (CS λ _=>fE)
theorem eY {j}:E X B (.Constant .none j pos) (eC .none):=PE.imp Mm (CS λ _=>uU)
theorem ba {i:Str} {j}:E X B (.Constant (.str i) j pos) (eC (.str i)):=PE.imp Er (CS λ _=>sF)
theorem E.glob {v:V} {u:PP} {d:PD} (hm:X.mg x=some u) (r:RelV v u) (h:∀ F,Rel X.K F d v) (hg:Gl X x:=by rfl) (hd:Nd x:=by decide):E X B (.Name x pos) (eC d) :=
 PE.imp (FE hg hm r hd) (CS h)
theorem au:A X B [] aN:=PA.imp pJ λ σ H Q ⟨F,η,d,sr,hd,q⟩=>by
 cases hd;exact q [] F H (.refl sr.same) .nil
theorem ae (ha:E X B e f) (hr:A X B es fs) (hs:PX (e::es) X.env=(false,eval e X.env)::PX es X.env:=by exact bS rfl):A X B (e::es) (aC f fs):=PA.imp (iF ha hr hs) λ σ H Q ⟨F,η,d,sr,hd,q⟩=>by
 obtain ⟨x,hx,hd⟩:=ac hd;obtain ⟨y,hy,hd⟩:=ac hd;cases hd;exact ⟨F,η,x,sr,hx,λ v F1 H1 g1 rv=>⟨F1,η,y,sr.grow g1,hy,λ vs F2 H2 g2 rs=>q (v::vs) F2 H2 (g1.trans g2) (.cons (rv.mono g2.ff) rs)⟩⟩
def gL (ds:List PD):Option (List PD):=if ds.length<=P4 then some ds else none
theorem i6 {x1} (hs:A X B es fs):E X B (.Tuple es x1 pos) (lA (λ ds=>if ds.length<=P4 then some (.tuple ds) else none) fs):=PE.imp (Ep hs) λ σ H Q ⟨F,η,d,sr,hd,q⟩=>by
 obtain ⟨ds,hx,hd⟩:=ac hd;split at hd
 ·rename_i hl;cases hd;refine ⟨F,η,ds,sr,hx,λ vs F1 H1 g1 rs=>⟨by rw [rs.length]; exact hl,λ p hp=>?_⟩⟩;have g2:Gr F1 H1 (upd F1 p (.tup vs)) (upd H1 p (.tup vs)):=Gr.one g1.fh hp;exact q _ _ _ (g1.trans g2) (kF (SqT.of aA) (rs.mono g2.ff))
 ·cases hd
theorem bA (hs:A X B es fs):EO X B (.List es pos) (λ η=>(fs η).bind gL):=PE.imp (BS hs) λ σ H Q ⟨F,η,ds,sr,hd,q⟩=>by
 obtain ⟨ds',hx,hd⟩:=ac hd;unfold gL at hd;split at hd
 ·rename_i hl;cases hd;refine ⟨F,η,ds,sr,hx,λ vs F1 H1 g1 rs=>⟨by rw [rs.length]; exact hl,λ p hp=>?_⟩⟩;refine q p vs F1 (upd H1 p (.lst vs)) ?_ (g1.hh.free hp) (g1.fh.free hp) aA rs;refine ⟨g1.ff,g1.hh.trans (cL hp _),λ b u z=>?_,g1.new⟩;exact cL hp _ b u (g1.fh b u z)
 ·cases hd
def oE (f:En->Option (List PD)):En->Option PD:=λ η=>(f η).bind λ ds=>some (.list ds)
theorem bc (he:EO X B e fs):E X B e (oE fs):=PE.imp he λ σ H Q ⟨F,η,d,sr,hd,q⟩=>by
 obtain ⟨ds,hx,hd⟩:=ac hd;cases hd;refine ⟨F,η,ds,sr,hx,λ p xs F' H' g1 hp fp hp' rs=>?_⟩;have sn:=cL (H:=F') fp (.lst xs);refine q (.ref p) (upd F' p (.lst xs)) H' ⟨g1.ff.trans sn,g1.hh,λ b u z=>?_,λ b z=>?_⟩ (kG (SqL.of aA) (rs.mono sn))
 ·by_cases e:b=p
  ·subst e; rw [aA] at z; rw [<- z]; exact hp'
  ·rw [aD e] at z; exact g1.fh _ _ z
 ·by_cases e:b=p
  ·subst e; exact .inr hp
  ·rw [aD e] at z; exact g1.new b z
def asB:PD->Option Bool
 | .bool b=>some b
 | _=>none
def bT (f:En->Option PD):En->Option Bool:=λ η=>(f η).bind asB
theorem jH {d:PD} {b:Bool} (h:asB d=some b):d=.bool b:=by
 cases d <;> simp [asB] at h;rw [h]
theorem T.val (he:E X B e f) (hi:∀ whole,isTrue e X.env whole=(do let v <- whole; standAt e.pos; holding [v] (truthy v)):=by intro _; rfl):T X B e (bT f):=PT.imp (El he hi) λ σ H Q ⟨F,η,b,sr,hd,q⟩=>by
 obtain ⟨x,hx,hd⟩:=ac hd;obtain rfl:=jH hd;exact ⟨F,η,_,sr,hx,λ v F1 H1 g1 rv=>⟨b,rv.bl,q F1 H1 g1⟩⟩
theorem T.cmp {op:CmpOp} {o:PD->PD->Option PD} (ho:OpR X (QD op) r) (ad:Ad2 X.K r o) (hm:QH op b=false) (ha:E X B a f) (hb:E X B b g):T X B (.Compare a [op] [b] pos) (bT (l2 o f g)) :=
 PT.imp (BP ho ha hb hm) λ σ H Q ⟨F,η,b,sr,hd,q⟩=>by
  obtain ⟨x,hx,hd⟩:=ac hd;obtain rfl:=jH hd;exact t2 ad σ H _ ⟨F,η,_,sr,hx,λ v F1 H1 g1 rv=>⟨b,rv.bl,q F1 H1 g1⟩⟩
def lch (o o':PD->PD->Option PD) (f g h:En->Option PD):En->Option PD:=λ η=>(f η).bind λ x=>(g η).bind λ y=>(o x y).bind λ z=>(asB z).bind λ k =>
 if k=true then (h η).bind λ w=>o' y w else some (.bool false)
theorem E.chain {op:CmpOp} {o o':PD->PD->Option PD} (ho:OpR X (QD op) r) (ad:Ad2 X.K r o) (ho':OpR X (QD op') r') (ad':Ad2 X.K r' o') (ha:E X B a f) (hb:E X B b g) (hc:E X B c h)
  (hm:lastMarks [op,op'] [b,c]=false:=by with_unfolding_all rfl):E X B (.Compare a [op,op'] [b,c] pos) (lch o o' f g h):=PE.imp (HP ho ho' ha hb hc hm) λ σ H Q ⟨F,η,d,sr,hd,q⟩=>by
 obtain ⟨x,hx,hd⟩:=ac hd;obtain ⟨y,hy,hd⟩:=ac hd;obtain ⟨z,hz,hd⟩:=ac hd;obtain ⟨k,hk,hd2⟩:=ac hd;clear hd;obtain rfl:=jH hk;have hd:=hd2;refine ⟨F,η,x,sr,hx,λ v F1 H1 g1 rv=>⟨F1,η,y,sr.grow g1,hy,λ u F2 H2 g2 ru=>?_⟩⟩;refine ad F2 H2 v u x y _ _ g2.fh (rv.mono g2.ff) ru hz λ w F3 H3 g3 rw'=>⟨k,rw'.bl,?_⟩;cases k with
 | false =>
  rw [if_neg PN] at hd ⊢;cases hd;exact q _ F3 H3 ((g1.trans g2).trans g3) fE
 | true =>
  rw [if_pos rfl] at hd ⊢;obtain ⟨w2,hw2,hd⟩:=ac hd;refine ⟨F3,η,w2,(sr.grow (g1.trans g2)).grow g3,hw2,λ t F4 H4 g4 rt=>?_⟩;exact ad' F4 H4 u t y w2 d Q g4.fh (ru.mono (g3.ff.trans g4.ff)) rt hd λ w5 F5 H5 g5 r5=>q w5 F5 H5 (((g1.trans g2).trans g3).trans (g4.trans g5)) r5
theorem T.chain {op:CmpOp} {o o':PD->PD->Option PD} (ho:OpR X (QD op) r) (ad:Ad2 X.K r o) (ho':OpR X (QD op') r') (ad':Ad2 X.K r' o') (ha:E X B a f) (hb:E X B b g) (hc:E X B c h)
  (hm:lastMarks [op,op'] [b,c]=false:=by with_unfolding_all rfl):T X B (.Compare a [op,op'] [b,c] pos) (bT (lch o o' f g h)):=PT.imp (C9 ho ho' ha hb hc hm) λ σ H Q ⟨F,η,d',sr,hd',q'⟩=>by
 obtain ⟨d,hd,hdb⟩:=ac hd';obtain rfl:=jH hdb;obtain ⟨x,hx,hd⟩:=ac hd;obtain ⟨y,hy,hd⟩:=ac hd;obtain ⟨z,hz,hd⟩:=ac hd;obtain ⟨k,hk,hd2⟩:=ac hd;clear hd;obtain rfl:=jH hk;have hd:=hd2;refine ⟨F,η,x,sr,hx,λ v F1 H1 g1 rv=>⟨F1,η,y,sr.grow g1,hy,λ u F2 H2 g2 ru=>?_⟩⟩;refine ad F2 H2 v u x y _ _ g2.fh (rv.mono g2.ff) ru hz λ w F3 H3 g3 rw'=>⟨k,rw'.bl,?_⟩;cases k with
 | false =>
  rw [if_neg PN] at hd ⊢;cases hd;exact ⟨_,rfl,q' F3 H3 ((g1.trans g2).trans g3)⟩
 | true =>
  rw [if_pos rfl] at hd ⊢;obtain ⟨w2,hw2,hd⟩:=ac hd;refine ⟨F3,η,w2,(sr.grow (g1.trans g2)).grow g3,hw2,λ t F4 H4 g4 rt=>?_⟩;exact ad' F4 H4 u t y w2 _ _ g4.fh (ru.mono (g3.ff.trans g4.ff)) rt hd λ w5 F5 H5 g5 r5=>⟨_,r5.bl,q' F5 H5 (((g1.trans g2).trans g3).trans (g4.trans g5))⟩
def A8 (f g:En->Option Bool):En->Option Bool:=λ η=>(f η).bind λ c=>if c=true then g η else some false
def bOr (f g:En->Option Bool):En->Option Bool:=λ η=>(f η).bind λ c=>if c=true then some true else g η
def E9 (f:En->Option Bool):En->Option Bool:=λ η=>(f η).bind λ c=>some (!c)
variable {p q r:En->Option Bool} {rest:List Expr}
theorem T.not (ha:T X B a p):T X B (.UnaryOp .Not a pos) (E9 p):=PT.imp (Em ha) λ σ H Q ⟨F,η,b,sr,hd,q⟩=>by
 obtain ⟨x,hx,hd⟩:=ac hd;cases hd;exact ⟨F,η,x,sr,hx,q⟩
theorem TW.t (h:TW X B a p):T X B a p:=PW.pt h
theorem TW.and1 (ha:T X B a p):TW X B (.BoolOp .And [a] pos) p:=pw_and1 ha
theorem TW.or1 (ha:T X B a p):TW X B (.BoolOp .Or [a] pos) p:=pw_or1 ha
theorem TW.and (ha:T X B a p) (hb:TW X B (.BoolOp .And (b::rest) pos) q):TW X B (.BoolOp .And (a::b::rest) pos) (A8 p q):=PW.imp (pw_and ha hb) λ σ H Q ⟨F,η,b,sr,hd,k⟩=>by
 obtain ⟨x,hx,hd⟩:=ac hd;refine ⟨F,η,x,sr,hx,λ F1 H1 g1=>?_⟩;cases x with
 | false =>
  rw [if_neg PN] at hd ⊢;cases hd;exact k F1 H1 g1
 | true =>
  rw [if_pos rfl] at hd ⊢;exact ⟨F1,η,b,sr.grow g1,hd,λ F2 H2 g2=>k F2 H2 (g1.trans g2)⟩
theorem TW.or (ha:T X B a p) (hb:TW X B (.BoolOp .Or (b::rest) pos) q):TW X B (.BoolOp .Or (a::b::rest) pos) (bOr p q):=PW.imp (pw_or ha hb) λ σ H Q ⟨F,η,b,sr,hd,k⟩=>by
 obtain ⟨x,hx,hd⟩:=ac hd;refine ⟨F,η,x,sr,hx,λ F1 H1 g1=>?_⟩;cases x with
 | false =>
  rw [if_neg PN] at hd ⊢;exact ⟨F1,η,b,sr.grow g1,hd,λ F2 H2 g2=>k F2 H2 (g1.trans g2)⟩
 | true =>
  rw [if_pos rfl] at hd ⊢;cases hd;exact k F1 H1 g1
def CN (f g:En->Option PD):En->Option PD:=λ η=>(f η).bind λ x=>(asB x).bind λ c=>if c=true then g η else some (.bool false)
def Gm (f:En->Option PD):En->Option PD:=λ η=>(f η).bind λ x=>(asB x).bind λ c=>some (.bool (!c))
theorem E.one {op} (ha:E X B a f):E X B (.BoolOp op [a] pos) f:=HH ha
theorem E.and (ha:E X B a f) (hb:E X B (.BoolOp .And (b::rest) pos) g):E X B (.BoolOp .And (a::b::rest) pos) (CN f g):=PE.imp (HU ha hb) λ σ H Q ⟨F,η,b,sr,hd,k⟩=>by
 obtain ⟨x,hx,hd⟩:=ac hd;obtain ⟨c,hc,hd2⟩:=ac hd;clear hd;obtain rfl:=jH hc;have hd:=hd2;refine ⟨F,η,_,sr,hx,λ v F1 H1 g1 rv=>⟨c,rv.bl,?_⟩⟩;cases c with
 | false =>
  rw [if_neg PN] at hd ⊢;cases hd;exact k _ F1 H1 g1 fE
 | true =>
  rw [if_pos rfl] at hd ⊢;exact ⟨F1,η,b,sr.grow g1,hd,λ u F2 H2 g2=>k u F2 H2 (g1.trans g2)⟩
theorem E.not (ha:E X B a f):E X B (.UnaryOp .Not a pos) (Gm f):=PE.imp (Ml ha) λ σ H Q ⟨F,η,b,sr,hd,k⟩=>by
 obtain ⟨x,hx,hd⟩:=ac hd;obtain ⟨c,hc,hd2⟩:=ac hd;clear hd;obtain rfl:=jH hc;have hd:=hd2;cases hd;exact ⟨F,η,_,sr,hx,λ v F1 H1 g1 rv=>⟨c,rv.bl,k _ F1 H1 g1 fE⟩⟩
def vIf (c:En->Option Bool) (f g:En->Option PD):En->Option PD:=λ η=>(c η).bind λ c=>if c=true then f η else g η
theorem E.ifE (hc:T X B c p) (ha:E X B a f) (hb:E X B b g):E X B (.IfExp c a b pos) (vIf p f g):=PE.imp (Dd hc ha hb) λ σ H Q ⟨F,η,d,sr,hd,k⟩=>by
 obtain ⟨x,hx,hd⟩:=ac hd;refine ⟨F,η,x,sr,hx,λ F1 H1 g1=>?_⟩;cases x with
 | false =>
  rw [if_neg PN] at hd ⊢;exact ⟨F1,η,d,sr.grow g1,hd,λ u F2 H2 g2=>k u F2 H2 (g1.trans g2)⟩
 | true =>
  rw [if_pos rfl] at hd ⊢;exact ⟨F1,η,d,sr.grow g1,hd,λ u F2 H2 g2=>k u F2 H2 (g1.trans g2)⟩
def spP (K:PH) (fn:List PD->Option PD):Sp:=λ vs H Q _=>∃ F ds d,Same F H/\RelL K F ds vs/\fn ds=some d/\∀ v F' H',Gr F H F' H'->Rel K F' d v->Q v H'
theorem aX {ppos:Pos} {fn:List PD->Option PD} (G:FnOk X.prog X.w X.K X.mg X.base CX0 k fa fd ps (spP X.K fn)) (hr:Room k' X.A) (hkk:k<=k') (hm:X.mg x=some (.ref fa)) (hk:QQ X.K (.ref fa)=true) (hb:Binds X.K fd ps [])
  (ha:A X B (e::es) fs) (hg:Gl X x:=by rfl) (hdb:Nd x:=by decide) (he:PX (e::es) X.env=(false,eval e X.env)::PX es X.env:=by exact bS rfl) (hpl:(backTo pos (PX es X.env)).any (·.1)=false:=by exact iN rfl) :
  E X B (.Call (.Name x ppos) (e::es) [] pos) (lA fn fs):=PE.imp (BU G (hr.mono hkk) hg hm hk hb .nil Bl ha hdb he hpl) λ σ H Q ⟨F,η,d,sr,hd,q⟩=>by
 obtain ⟨ds,hx,hd⟩:=ac hd;refine ⟨F,η,ds,sr,hx,λ vs F1 H1 g1 rs=>?_⟩;show spP X.K fn (vs++[]) H1 Q E0;rw [Qr];exact ⟨F1,ds,d,g1.fh,rs,hd,λ v F2 H2 g2 rv=>q v F2 H2 (g1.trans g2) rv⟩
end
inductive Out where
 | nx (η:En)
 | rt (d:PD)
 | bk (η:En)
 | ct (η:En)
def OutOk (K:PH) (B:Bd) (F:Hp) (D:Ends):Out->Prop
 | .nx η=>∀ σ' F' H',SR K B F' H' σ' η->Same F F'->D.nx σ' H'
 | .rt d=>∀ v F' H',Gr B.F B.H F' H'->Rel K F' d v->D.rt v H'
 | .bk η=>∀ σ' F' H',SR K B F' H' σ' η->Same F F'->D.bk σ' H'
 | .ct η=>∀ σ' F' H',SR K B F' H' σ' η->Same F F'->D.ct σ' H'
def tS (K:PH) (B:Bd) (f:En->Option Out):TS:=λ D σ H=>∃ F η o,SR K B F H σ η/\f η=some o/\OutOk K B F D o
def S (X:Cx) (B:Bd) (st:Stmt) (f:En->Option Out):Prop:=PS X st (tS X.K B f)
def Ss (X:Cx) (B:Bd) (st:List Stmt) (f:En->Option Out):Prop:=PSs X st (tS X.K B f)
theorem PS.imp {e:Stmt} {t t':TS} (h:PS X e t) (i:∀ D σ H,t' D σ H->t D σ H):PS X e t':=λ pz s σ H D I q=>h pz s σ H D I (i D σ H q)
theorem PSs.imp {e:List Stmt} {t t':TS} (h:PSs X e t) (i:∀ D σ H,t' D σ H->t D σ H):PSs X e t':=λ pz s σ H D I q=>h pz s σ H D I (i D σ H q)
theorem OutOk.up {D:Ends} {o:Out} (h:OutOk K B F D o) (s:Same F F1):OutOk K B F1 D o:=by
 cases o with
 | nx η=>exact λ σ' F' H' r e=>h σ' F' H' r (s.trans e)
 | rt d=>exact h
 | bk η=>exact λ σ' F' H' r e=>h σ' F' H' r (s.trans e)
 | ct η=>exact λ σ' F' H' r e=>h σ' F' H' r (s.trans e)
def sNx:En->Option Out:=λ η=>some (.nx η)
def cT (f g:En->Option Out):En->Option Out:=λ η=>(f η).bind λ o=>match o with
 | .nx η'=>g η'
 | o=>some o
def gP (f:En->Option PD):En->Option Out:=λ η=>(f η).bind λ d=>some (.rt d)
def C2 (i:Nat):En->Option Out:=λ η=>match η[i]? with | some (.own ds)=>some (.rt (.list ds)) | _=>none
def sIf (c:En->Option Bool) (f g:En->Option Out):En->Option Out:=λ η=>(c η).bind λ b=>if b=true then f η else g η
def fC (i:Nat) (f:En->Option PD):En->Option Out:=λ η=>(f η).bind λ d=>some (.nx (η.set i (.val d)))
def oK (i:Nat) (f:En->Option (List PD)):En->Option Out:=λ η=>(f η).bind λ ds=>some (.nx (η.set i (.own ds)))
def Hq (i:Nat) (f:En->Option PD):En->Option Out:=λ η=>(f η).bind λ d=>match η[i]? with
 | some (.own ds)=>if ds.length < P4 then some (.nx (η.set i (.own (ds++[d])))) else none
 | _=>none
def zF (i:Nat) (f:En->Option (List PD)):En->Option Out:=λ η=>(f η).bind λ es=>match η[i]? with
 | some (.own ds)=>if ds.length+es.length<=P4 then some (.nx (η.set i (.own (ds++es)))) else none
 | _=>none
def frz (i:Nat) (η:En):En:=match η[i]? with | some (.own ds)=>η.set i (.val (.list ds)) | some (.odc kvs)=>η.set i (.val (.dict (prs kvs))) | _=>η
section
variable {X:Cx} {B:Bd} {st:Stmt} {sts sts':List Stmt} {u v:En->Option Out} {a b c e:Expr} {f g:En->Option PD} {fs:En->Option (List PD)} {p:En->Option Bool} {pos pos':Pos}
theorem Ss.nil:Ss X B [] sNx:=PSs.imp BQ λ D σ H ⟨F,η,o,sr,hd,q⟩=>by
 cases hd;exact q σ F H sr (.refl _)
theorem bt (h:S X B st u):Ss X B [st] u:=za h
theorem bf (h:S X B st u) (k:Ss X B sts v):Ss X B (st::sts) (cT u v):=PSs.imp (oi h k) λ D σ H ⟨F,η,o,sr,hd,q⟩=>by
 obtain ⟨o1,h1,hd⟩:=ac hd;refine ⟨F,η,o1,sr,h1,?_⟩;cases o1 with
 | nx η'=>exact λ σ' F' H' r e=>⟨F',η',o,r,hd,q.up e⟩
 | rt d=>cases hd; exact q
 | bk η'=>cases hd; exact q
 | ct η'=>cases hd; exact q
theorem S.never:S X B st (λ _=>none):=PS.imp HA λ D σ H ⟨F,η,o,sr,hd,q⟩=>by cases hd
theorem iE (he:E X B e f):S X B (.Return (some e) pos) (gP f):=PS.imp (xH he) λ D σ H ⟨F,η,o,sr,hd,q⟩=>by
 obtain ⟨d,h1,hd⟩:=ac hd;cases hd;exact ⟨F,η,d,sr,h1,λ v F' H' g rv=>q v F' H' (sr.gr.trans g) rv⟩
theorem S.retO (i:Nat) (hN:X.N[i]?=some x:=by rfl) (hv:Vis X.env.scope x:=by first | exact Or.inl rfl | exact Or.inr (Or.inl rfl) | exact Or.inr (Or.inr rfl)) (hd:Nd x:=by decide)
  (hcd:(x==("__classdict__" : Str))=false:=by decide):S X B (.Return (some (.Name x pos')) pos) (C2 i):=PS.imp (xH (qT hN hv hd hcd)) λ D σ H ⟨F,η,o,sr,hd,q⟩=>by
 unfold C2 at hd;split at hd
 ·rename_i ds e;cases hd;obtain ⟨F',p,e1,sf,sr',rel⟩:=sr.freeze e;exact ⟨_,e1,q _ F' H sr'.gr rel⟩
 ·cases hd
theorem S.ifS (hc:T X B c p) (ha:Ss X B sts u) (hb:Ss X B sts' v):S X B (.If c sts sts' pos) (sIf p u v):=PS.imp (HB hc ha hb) λ D σ H ⟨F,η,o,sr,hd,q⟩=>by
 obtain ⟨b,h1,hd⟩:=ac hd;refine ⟨F,η,b,sr,h1,λ F1 H1 g1=>?_⟩;cases b with
 | false =>
  rw [if_neg PN] at hd ⊢;exact ⟨F1,η,o,sr.grow g1,hd,q.up g1.ff⟩
 | true =>
  rw [if_pos rfl] at hd ⊢;exact ⟨F1,η,o,sr.grow g1,hd,q.up g1.ff⟩
theorem Nf:∀ D σ H,tS K B (fC i f) D σ H->Gp (tE K B f) (xj i) D σ H:=λ D σ H ⟨F,η,o,sr,hd,q⟩=>by
 obtain ⟨d,h1,hd⟩:=ac hd;cases hd;refine ⟨F,η,d,sr,h1,λ v F1 H1 g1 rv=>q _ F1 H1 ⟨sr.gr.trans g1,(sr.en.grow g1).set i rv⟩ g1.ff⟩
theorem Gg:∀ D σ H,tS K B (oK i fs) D σ H->Gp (tO K B fs) (xj i) D σ H:=λ D σ H ⟨F,η,o,sr,hd,q⟩=>by
 obtain ⟨d,h1,hd⟩:=ac hd;cases hd;refine ⟨F,η,d,sr,h1,λ p xs F1 H1 g1 hp fp hp' rs=>q _ F1 H1 ⟨sr.gr.trans g1,(sr.en.grow g1).setOwn i fp (sr.gr.hh.free hp) hp' rs λ j ej=>sr.en.notown hp j ej⟩ g1.ff⟩
theorem iZ (i:Nat) (hN:X.N.Nodup) (he:E X B e f) (hi:X.N[i]?=some x:=by rfl) (hx:Loc X.env.scope x:=by first | exact Or.inl rfl | exact Or.inr rfl) (hs:swapsWith e (some (.Name x pos')) pos.line X.env=pure false:=by rfl)
  (hf:X.fn x=true\/X.env.scope.names.lookup x=some .local:=by first | exact .inl rfl | exact .inr rfl):S X B (.Assign [.Name x pos'] e pos) (fC i f):=PS.imp (zI hN hi hx he hs hf) Nf
theorem S.setO (i:Nat) (hN:X.N.Nodup) (he:EO X B e fs) (hi:X.N[i]?=some x:=by rfl) (hx:Loc X.env.scope x:=by first | exact Or.inl rfl | exact Or.inr rfl) (hs:swapsWith e (some (.Name x pos')) pos.line X.env=pure false:=by rfl)
  (hf:X.fn x=true\/X.env.scope.names.lookup x=some .local:=by first | exact .inl rfl | exact .inr rfl):S X B (.Assign [.Name x pos'] e pos) (oK i fs):=PS.imp (zI hN hi hx he hs hf) Gg
theorem Ss.frz (i:Nat) (h:Ss X B sts u):Ss X B sts (λ η=>u (frz i η)):=PSs.imp h λ D σ H ⟨F,η,o,sr,hd,q⟩=>by
 have hd:u (PU.frz i η)=some o:=hd;unfold PU.frz at hd;split at hd
 ·rename_i ds e;obtain ⟨F',p,e1,sf,sr',rel⟩:=sr.freeze e;exact ⟨F',_,o,sr',hd,q.up sf⟩
 ·rename_i kvs e;obtain ⟨F',p,e1,sf,sr',rel⟩:=sr.freezeD e;exact ⟨F',_,o,sr',hd,q.up sf⟩
 ·exact ⟨F,η,o,sr,hd,q⟩
def ItP (K:PH) (J:It) (F:Hp) (ds:List PD):Prop:=∀ F1 H1 (i:Nat),Same F F1->Same F1 H1 ->
 (∀ d,ds[i]?=some d->J.go i H1/\∀ x H2,J.yld i H1 x H2->∃ F2,Gr F1 H1 F2 H2/\Rel K F2 d x)/\(i=ds.length->J.stop i H1)
def tI (K:PH) (B:Bd) (f:En->Option (List PD)):TI:=λ σ H R=>∃ F η ds,SR K B F H σ η/\f η=some ds/\∀ J F' H',Gr F H F' H'->ItP K J F' ds->R J H'
def I (X:Cx) (B:Bd) (tg iter:Expr) (f:En->Option (List PD)):Prop:=PI X tg iter (tI X.K B f)
theorem PI.imp {X:Cx} {it:Expr} {t t':TI} (h:PI X tg it t) (i:∀ σ H Q,t' σ H Q->t σ H Q):PI X tg it t':=λ pz s σ H Q I q=>h pz s σ H Q I (i σ H Q q)
def TgP (K:PH) (ks:List Nat) (g:TG) (t:En->PD->Option En):Prop:=∀ (B:Bd) F H σ η d x η',SR K B F H σ η->Rel K F d x->t η d=some η'->∀ Q:St->Hp->Prop,(∀ σ' F' H',SR K B F' H' σ' η'->Gr F H F' H'->σ'.length=σ.length->(∀ i,i∉ks->σ'[i]?=σ[i]?)->Q σ' H')->g x σ H Q
def tgN (i:Nat):En->PD->Option En:=λ η d=>some (η.set i (.val d))
theorem aP:TgP K [i] (xj i) (tgN i):=λ B F H σ η d x η' sr rx e Q q=>by
 cases e;exact q _ F H ⟨sr.gr,sr.en.set i rx⟩ (.refl sr.same) (Qa ..) λ j hj=>PK (λ e=>hj (by simp [e])) ..
def TgsP (K:PH) (ks:List Nat) (g:TGs) (t:En->List PD->Option En):Prop:=∀ (B:Bd) F H σ η ds xs η',SR K B F H σ η->RelL K F ds xs->t η ds=some η'->∀ Q:St->Hp->Prop,(∀ σ' F' H',SR K B F' H' σ' η'->Gr F H F' H'->σ'.length=σ.length->(∀ i,i∉ks->σ'[i]?=σ[i]?)->Q σ' H')->g xs σ H Q
def kX:En->List PD->Option En:=λ η ds=>match ds with | []=>some η | _=>none
def bG (t:En->PD->Option En) (r:En->List PD->Option En):En->List PD->Option En:=λ η ds=>match ds with | []=>none | d::ds=>(t η d).bind λ η1=>r η1 ds
theorem TgsP.nil:TgsP K [] Ov kX:=λ B F H σ η ds xs η' sr rx e Q q=>by
 cases ds with
 | nil =>
  cases e;exact ⟨rx.nil_of,q _ F H sr (.refl sr.same) rfl λ _ _=>rfl⟩
 | cons d ds=>cases e
theorem gU {K:PH} {ks ls:List Nat} {g:TG} {gs:TGs} {t:En->PD->Option En} {r:En->List PD->Option En} (h:TgP K ks g t) (k:TgsP K ls gs r):TgsP K (ks++ls) (LC g gs) (bG t r):=λ B F H σ η ds xs η' sr rx e Q q=>by
 cases ds with
 | nil=>cases e
 | cons d ds =>
  obtain ⟨x,r',rfl,h1,h2⟩:=rx.cons_of;obtain ⟨η1,e1,e2⟩:=ac e;refine ⟨x,r',rfl,h B F H σ η d x η1 sr h1 e1 _ λ σ1 F1 H1 sr1 g1 l1 n1=>?_⟩;refine k B F1 H1 σ1 η1 ds r' η' sr1 (h2.mono g1.ff) e2 _ λ σ2 F2 H2 sr2 g2 l2 n2=>?_;exact q σ2 F2 H2 sr2 (g1.trans g2) (l2.trans l1) λ i hi=>(n2 i λ z=>hi (QB _ z)).trans (n1 i λ z=>hi (Ru _ z))
def tgT (t:En->List PD->Option En):En->PD->Option En:=λ η d=>match d with | .tuple ds=>t η ds | _=>none
theorem TgP.tup {ks:List Nat} {g:TGs} {t:En->List PD->Option En} (h:TgsP K ks g t) (hn:∀ η ds η',t η ds=some η'->ds.length=n):TgP K ks (Ou K n g) (tgT t):=λ B F H σ η d x η' sr rx e Q q=>by
 cases d with
 | tuple ds =>
  obtain ⟨a,xs,rfl,hq,rs⟩:=rx.tup;exact ⟨a,xs,rfl,dU sr.same hq,by rw [rs.length]; exact hn η ds η' e,h B F H σ η ds xs η' sr rs e Q q⟩
 | none=>cases e
 | bool _=>cases e
 | int _=>cases e
 | str _=>cases e
 | list _=>cases e
 | dict _=>cases e
def sGo (t:En->PD->Option En) (body:En->Option Out):List PD->En->Option Out
 | [],η=>some (.nx η)
 | d::ds,η=>(t η d).bind λ η1=>(body η1).bind λ o=>match o with
  | .nx η2=>sGo t body ds η2
  | .ct η2=>sGo t body ds η2
  | .bk η2=>some (.nx η2)
  | .rt d=>some (.rt d)
def qS (it:En->Option (List PD)) (t:En->PD->Option En) (body:En->Option Out):En->Option Out:=λ η=>(it η).bind λ ds=>sGo t body ds η
theorem S.for {tg iter:Expr} {body:List Stmt} {gt:TG} {ks:List Nat} {t:En->PD->Option En} (hp:PassesOwn (Qq X.prog X.w) X.A X.env X.xe) (hc:X.calm=true) (hi:I X B tg iter fs) (hg:PG X tg gt) (ht:TgP X.K ks gt t) (hb:Ss X B body u)
  (hs:∀ x,foldedSetIterable iter X.env x=pure x:=by intro _; rfl):S X B (.For tg iter body [] pos) (qS fs t u):=PS.imp (HC hp hc hi hg hb hs) λ D σ H ⟨F,η,o,sr,hd,q⟩=>by
 obtain ⟨ds,h1,hd⟩:=ac hd;refine ⟨F,η,ds,sr,h1,λ J F1 H1 g1 ip=>?_⟩;refine ⟨λ i m σ H=>m=ds.length - i/\i<=ds.length/\∃ Fc ηc,SR X.K B Fc H σ ηc/\Same F1 Fc/\sGo t u (ds.drop i) ηc=some o,⟨_,rfl,Q1 _,F1,η,sr.grow g1,.refl _,by simpa using hd⟩,?_⟩
 rintro i m σc Hc ⟨rfl,hi,Fc,ηc,src,sc,hgo⟩
 obtain ⟨ip1,ip2⟩:=ip Fc Hc i sc src.same;by_cases hlt:i < ds.length
 ·have e:ds[i]?=some ds[i]:=Qk hlt;obtain ⟨go,yl⟩:=ip1 _ e;rw [Rh hlt] at hgo;unfold sGo at hgo;obtain ⟨η1,e1,hgo⟩:=ac hgo;obtain ⟨o1,e2,hgo⟩:=ac hgo;have cont:∀ (η2:En),sGo t u (ds.drop (i+1)) η2=some o->∀ σ' F' H',SR X.K B F' H' σ' η2->Same F1 F' ->
    ∃ m',m' < ds.length - i/\(λ i m σ H=>m=ds.length - i/\i<=ds.length/\∃ Fc ηc,SR X.K B Fc H σ ηc/\Same F1 Fc/\sGo t u (ds.drop i) ηc=some o) (i+1) m' σ' H':=λ η2 h2 σ' F' H' r s =>
   ⟨ds.length - (i+1),by omega,rfl,hlt,F',η2,r,s,h2⟩
  refine .inr ⟨go,λ σ' H'=>∃ m',m' < ds.length - i/\(λ i m σ H=>m=ds.length - i/\i<=ds.length/\∃ Fc ηc,SR X.K B Fc H σ ηc/\Same F1 Fc/\sGo t u (ds.drop i) ηc=some o) (i+1) m' σ' H',λ σ' H' n=>n,λ x H' y=>?_⟩;obtain ⟨F2,g2,rx⟩:=yl x H' y;refine ht B F2 H' σc ηc _ x η1 (src.grow g2) rx e1 _ λ σ3 F3 H3 sr3 g3 _ _=>?_;refine ⟨F3,η1,o1,sr3,e2,?_⟩;have s3:Same F1 F3:=sc.trans (g2.ff.trans g3.ff);cases o1 with
  | nx η2=>exact λ σ' F' H' r s=>cont η2 hgo σ' F' H' r (s3.trans s)
  | ct η2=>exact λ σ' F' H' r s=>cont η2 hgo σ' F' H' r (s3.trans s)
  | bk η2 =>
   cases hgo;exact λ σ' F' H' r s=>q σ' F' H' r (g1.ff.trans (s3.trans s))
  | rt d =>
   cases hgo;exact q
 ·have ei:i=ds.length:=by omega
  subst ei;rw [RN] at hgo;cases hgo;exact .inl ⟨ip2 rfl,q σc Fc Hc src (g1.ff.trans sc)⟩
def asL:PD->Option (List PD)
 | .list ds=>some ds
 | _=>none
def qk:PD->Option (List PD)
 | .tuple ds=>some ds
 | _=>none
def lI (k:PD->Option (List PD)) (f:En->Option PD):En->Option (List PD):=λ η=>(f η).bind k
theorem DC {a:Qd} (h:SqL K F a xs) (r:RelL K F ds xs):ItP K (Itl K a) F ds:=λ F1 H1 i s1 s2=>by
 have q:=s2.seq (s1.seq h);refine ⟨λ d e=>?_,λ e=>⟨xs,q,by rw [r.length,e]; exact PV _⟩⟩;obtain ⟨x,ex,rx⟩:=r.get e;refine ⟨⟨xs,x,q,ex⟩,λ x' H2 y=>?_⟩;obtain ⟨e2,y⟩:=y;subst e2;have z:=y xs q;rw [ex] at z;cases z;exact ⟨F1,.refl s2,rx.mono s1⟩
theorem Kv {a:Qd} (h:SqT K F a xs) (r:RelL K F ds xs):ItP K (Itt K a) F ds:=λ F1 H1 i s1 s2=>by
 have q:=dU s2 (dU s1 h);refine ⟨λ d e=>?_,λ e=>⟨xs,q,by rw [r.length,e]; exact PV _⟩⟩;obtain ⟨x,ex,rx⟩:=r.get e;refine ⟨⟨xs,x,q,ex⟩,λ x' H2 y=>?_⟩;obtain ⟨e2,y⟩:=y;subst e2;have z:=y xs q;rw [ex] at z;cases z;exact ⟨F1,.refl s2,rx.mono s1⟩
theorem I.list (he:E X B e f):I X B tg e (lI asL f):=PI.imp (FC he) λ σ H Q ⟨F,η,ds,sr,hd,q⟩=>by
 obtain ⟨d,h1,hd⟩:=ac hd;cases d <;> simp only [asL,Option.some.injEq,reduceCtorEq] at hd;subst hd;refine ⟨F,η,_,sr,h1,λ v F1 H1 g1 rv=>?_⟩;obtain ⟨a,xs,rfl,hq,rs⟩:=rv.lst;exact ⟨a,rfl,⟨xs,g1.fh.seq hq⟩,q _ F1 H1 g1 (DC hq rs)⟩
theorem I.tup {tg:Expr} (he:E X B e f):I X B tg e (lI qk f):=PI.imp (Mj he) λ σ H Q ⟨F,η,ds,sr,hd,q⟩=>by
 obtain ⟨d,h1,hd⟩:=ac hd;cases d <;> simp only [qk,Option.some.injEq,reduceCtorEq] at hd;subst hd;refine ⟨F,η,_,sr,h1,λ v F1 H1 g1 rv=>?_⟩;obtain ⟨a,xs,rfl,hq,rs⟩:=rv.tup;exact ⟨a,rfl,⟨xs,dU g1.fh hq⟩,q _ F1 H1 g1 (Kv hq rs)⟩
def BL (lo:Int) (n:Nat):List PD:=(List.range n).map λ (k:Nat)=>Qx (lo+k)
theorem Kw {lo:Int} :ItP K (Itr lo n) F (BL lo n):=λ F1 H1 i s1 s2=>by
 have hl:(BL lo n).length=n:=by unfold BL; rw [PJ,Q7]
 refine ⟨λ d e=>?_,λ e=>by show n<=i; omega⟩;have hi:i < n:=by rw [<- hl]; exact (PR.mp e).1
 refine ⟨hi,λ x H2 y=>?_⟩;obtain ⟨e2,e3⟩:=y;subst e2 e3
 have:d=.int (lo+i):=by
  unfold BL at e;rw [P9,R1 hi] at e;exact (Option.some.inj e).symm
 subst this;exact ⟨F1,.refl s2,dQ⟩
def rng1 (ds:List PD):Option (List PD):=match ds with
 | [.int j]=>if -(2 ^ 62)<=j/\j < 2 ^ 62 then some (BL 0 j.toNat) else none
 | _=>none
theorem I.rng1 {tg:Expr} {pp:Pos} (hm:X.mg "range" = none) (ha:A X B [a] fs) (hg:Gl X "range" := by rfl) (hs:PX [a] X.env=[(false,eval a X.env)]:=by exact bS rfl):I X B tg (.Call (.Name "range" pp) [a] [] pos) (λ η=>(fs η).bind PU.rng1) :=
 PI.imp (GA hg hm ha hs) λ σ H Q ⟨F,η,ds,sr,hd,q⟩=>by
  obtain ⟨es,h1,hd⟩:=ac hd;unfold PU.rng1 at hd;split at hd
  ·rename_i j;split at hd
   ·rename_i hj;cases hd;refine ⟨F,η,_,sr,h1,λ vs F1 H1 g1 rs=>?_⟩;obtain ⟨x,r,rfl,rx,rr⟩:=rs.cons_of;obtain rfl:=rr.nil_of;exact ⟨j,by rw [rx.int],hj.1,hj.2,q _ F1 H1 g1 Kw⟩
   ·cases hd
  ·cases hd
end
def wb (mp:List (Option Nat)) (η:En):En:=mp.map λ o=>match o with
 | some j=>(match η[j]? with | some (.val d)=>.val d | some (.ob fs)=>.ob fs | _=>.un)
 | none=>.un
def cGo (t:En->PD->Option En) (p:En->Option Bool) (f:En->Option PD) (η:En):List PD->Option (List PD)
 | []=>some []
 | d::ds=>(t η d).bind λ η1=>(p η1).bind λ ok=>if ok=true then (f η1).bind λ y=>(cGo t p f η ds).bind λ r=>some (y::r) else cGo t p f η ds
def cm (mp:List (Option Nat)) (fi:En->Option (List PD)) (t:En->PD->Option En) (p:En->Option Bool) (f:En->Option PD):En->Option (List PD):=λ η =>
 (fi η).bind λ ds=>if ds.length<=P4 then cGo t p f (wb mp η) ds else none
def Ts (X:Cx) (B:Bd) (ifs:List Expr) (p:En->Option Bool):Prop:=PTs X ifs (tT X.K B p)
def fg:En->Option Bool:=λ _=>some true
section
variable {X:Cx} {B:Bd}
theorem Ts.nil:Ts X B [] fg:=λ pz s σ H Q I ⟨F,η,b,sr,hd,q⟩=>by
 cases hd;exact FA pz s σ H Q I (q F H (.refl sr.same))
theorem Ts.one {c:Expr} {p:En->Option Bool} (h:T X B c p):Ts X B [c] p:=Fz h
theorem F0 {a:Sl} (e:(wb mp η)[i]?=some a):nt a=false:=by
 unfold wb at e;rw [P9] at e;cases q:mp[i]? with
 | none=>rw [q] at e; cases e
 | some o =>
  rw [q] at e;cases o with
  | none=>cases e; rfl
  | some j =>
   have e':(match η[j]? with | some (.val d)=>Sl.val d | some (.ob fs)=>.ob fs | _=>.un)=a:=Option.some.inj e;split at e' <;> (subst e'; rfl)
theorem EnR.inner (r:EnR K He F H σ η) (mp:List (Option Nat)):EnR K He F H (la mp σ) (wb mp η) where
 len:=by unfold wb la; rw [PJ,PJ]
 val:=λ i d e=>by
  unfold wb at e;rw [P9] at e;cases q:mp[i]? with
  | none=>rw [q] at e; cases e
  | some o =>
   rw [q] at e;cases o with
   | none=>cases e
   | some j =>
    have e':(match η[j]? with | some (.val d)=>Sl.val d | some (.ob fs)=>.ob fs | _=>.un)=.val d:=Option.some.inj e;split at e'
    ·rename_i d' ed
     have:d'=d:=by injection e'
     subst this;obtain ⟨v,e1,e2⟩:=r.val j d' ed;refine ⟨v,?_,e2⟩;unfold la;rw [P9,q];show some ((σ[j]?).join)=_;rw [e1];rfl
    ·cases e'
    ·cases e'
 obs:=λ i fs e=>by
  unfold wb at e;rw [P9] at e;cases q:mp[i]? with
  | none=>rw [q] at e; cases e
  | some o =>
   rw [q] at e;cases o with
   | none=>cases e
   | some j =>
    have e':(match η[j]? with | some (.val d)=>Sl.val d | some (.ob fs)=>.ob fs | _=>.un)=.ob fs:=Option.some.inj e;split at e'
    ·cases e'
    ·rename_i d' ed
     have:d'=fs:=by injection e'
     subst this;obtain ⟨p,C,dx,xs,e1,e2⟩:=r.obs j d' ed;refine ⟨p,C,dx,xs,?_,e2⟩;unfold la;rw [P9,q];show some ((σ[j]?).join)=_;rw [e1];rfl
    ·cases e'
 cel:=λ i a e ha=>by rw [F0 e] at ha; cases ha
 apart:=λ i j a b e _ ha _ _=>by rw [F0 e] at ha; cases ha
variable {elt iter tg:Expr} {ifs:List Expr} {scope:Scope} {pos:Pos} {N':List Str} {mp:List (Option Nat)} {ks:List Nat} {gt:TG} {t:En->PD->Option En} {fi:En->Option (List PD)} {p:En->Option Bool} {f:En->Option PD}
theorem Cm (ht:TgP K ks gt t) (hks:∀ k∈ks,mp[k]?=some none):∀ σ H Q,tO K B (cm mp fi t p f) σ H Q->Fp mp (tI K B fi) gt (tT K B p) (tE K B f) σ H Q:=λ σ H Q ⟨F,η,rs,sr,hd,q⟩=>by
 obtain ⟨ds,h1,hd⟩:=ac hd;split at hd
 rotate_left
 ·cases hd
 rename_i hz;refine ⟨F,η,ds,sr,h1,λ J F1 H1 g1 ip D hD=>?_⟩;have fD:F1 D=none:=g1.fh.free hD;have kept:∀ {σ2:St},σ2.length=(la mp σ).length->(∀ i,i∉ks->σ2[i]?=(la mp σ)[i]?)->zk (la mp σ) σ2:=λ {σ2} hl hn=>⟨hl,λ i v e=>by
  by_cases hi:i∈ks
  ·have z:=hks i hi;unfold la at e;rw [P9,z] at e;cases e
  ·rw [hn i hi]; exact e⟩
 refine ⟨λ i m Hc=>m=ds.length - i/\i<=ds.length/\∃ Fc ys done rest,Gr F1 H1 Fc Hc/\Fc D=none/\Hc D=some (.lst ys)/\RelL K Fc done ys/\done.length<=i/\cGo t p f (wb mp η) (ds.drop i)=some rest/\rs=done++rest,⟨_,rfl,Q1 _,F1,[],[],rs,⟨.refl _,cL hD _,λ b u z=>cL hD _ b u (g1.fh b u z),λ b z=>.inl z⟩,fD,aA,.nil,PV _,by simpa using hd,rfl⟩,?_⟩
 rintro i m Hc ⟨rfl,hi,Fc,ys,done,rest,gc,fcD,hcD,rd,hdl,hgo,hrs⟩
 obtain ⟨ip1,ip2⟩:=ip Fc Hc i gc.ff gc.fh;by_cases hlt:i < ds.length
 ·have e:ds[i]?=some ds[i]:=Qk hlt;obtain ⟨go,yl⟩:=ip1 _ e;rw [Rh hlt] at hgo;unfold cGo at hgo;obtain ⟨η1,e1,hgo⟩:=ac hgo;obtain ⟨ok,e2,hgo⟩:=ac hgo;refine .inr ⟨go,λ H'=>∃ m',m' < ds.length - i/\(m'=ds.length - (i+1)/\i+1<=ds.length/\∃ Fc ys done rest,Gr F1 H1 Fc H'/\Fc D=none/\H' D=some (.lst ys)/\RelL K Fc done ys/\done.length<=i+1/\cGo t p f (wb mp η) (ds.drop (i+1))=some rest/\rs=done++rest),λ H' n=>n,λ x H' y=>?_⟩;obtain ⟨F2,g2,rx⟩:=yl x H' y;have sin:SR K B F2 H' (la mp σ) (wb mp η):=⟨(sr.gr.trans g1).trans (gc.trans g2),((sr.en.grow g1).inner mp).grow (gc.trans g2)⟩;refine ht B F2 H' (la mp σ) (wb mp η) _ x η1 sin rx e1 _ λ σ3 F3 H3 sr3 g3 l3 n3=>⟨kept l3 n3,F3,η1,ok,sr3,e2,λ F4 H4 g4=>?_⟩;have gall:Gr Fc Hc F4 H4:=(g2.trans g3).trans g4;have nD:∀ {F5 H5:Hp},Gr Fc Hc F5 H5->F5 D=none:=λ {F5 H5} g=>by
   cases z:F5 D with
   | none=>rfl
   | some o =>
    rcases g.new D (by rw [z]; simp) with w | w
    ·exact absurd fcD w
    ·rw [hcD] at w; cases w
  cases ok with
  | false =>
   rw [if_neg PN] at hgo;refine MQ ?_;exact ⟨ds.length - (i+1),by omega,rfl,hlt,F4,ys,done,rest,gc.trans gall,nD gall,gall.hh _ _ hcD,rd.mono gall.ff,Nat.le_succ_of_le hdl,hgo,hrs⟩
  | true =>
   rw [if_pos rfl] at hgo;refine MP ?_;obtain ⟨yv,e3,hgo⟩:=ac hgo;obtain ⟨r,e4,hgo⟩:=ac hgo;cases hgo;refine ⟨F4,η1,yv,sr3.grow g4,e3,λ v F5 H5 g5 rv=>?_⟩;have ga:=gall.trans g5;have h5D:=ga.hh _ _ hcD;refine ⟨ys,h5D,by rw [rd.length]; omega,ds.length - (i+1),by omega,rfl,hlt,F5,ys++[v],done++[yv],r,?_,nD ga,aA,(rd.mono ga.ff).append (.cons rv .nil),by rw [PL,RT]; omega,e4,by rw [hrs,QP]; rfl⟩;have gt':=gc.trans ga;refine ⟨gt'.ff,λ b u z=>?_,λ b u z=>?_,gt'.new⟩
   ·have nb:b≠D:=aU z hD;rw [aD nb]; exact gt'.hh b u z
   ·have nb:b≠D:=aU z (nD ga);rw [aD nb]; exact gt'.fh b u z
 ·have ei:i=ds.length:=by omega
  subst ei;rw [RN] at hgo;cases hgo;rw [Qr] at hrs;subst hrs;exact .inl ⟨ip2 rfl,q D ys Fc Hc (g1.trans gc) (g1.hh.free hD) fcD hcD rd⟩
theorem iL (hc:X.calm=true) (ck:CompSc X scope N' mp) (ht:TgP X.K ks gt t) (hks:∀ k∈ks,mp[k]?=some none) (hi:I X B tg iter fi)
  (hb:∀ s H fp,PG (b7 X scope N' s H fp) tg gt/\Ts (b7 X scope N' s H fp) B ifs p/\E (b7 X scope N' s H fp) B elt f)
  (hs:∀ x,foldedSetIterable iter X.env x=pure x:=by intro _; rfl):EO X B (.ListComp elt [⟨tg,iter,ifs,0⟩] scope pos) (cm mp fi t p f):=PE.imp (FF hc ck hi hb hs) (Cm ht hks)
theorem S.setC (i:Nat) {y:Str} {py spos:Pos} (hc:X.calm=true) (hN:X.N.Nodup) (ck:CompSc X scope N' mp) (ht:TgP X.K ks gt t) (hks:∀ k∈ks,mp[k]?=some none) (hi:I X B tg iter fi)
  (hb:∀ s H fp,PG (b7 X scope N' s H fp) tg gt/\Ts (b7 X scope N' s H fp) B ifs p/\E (b7 X scope N' s H fp) B elt f)
  (hiy:X.N[i]?=some y:=by rfl) (hy:X.env.scope.names.lookup y=some .local:=by rfl) (hsw:swapsWith (.ListComp elt [⟨tg,iter,ifs,0⟩] scope pos) (some (.Name y py)) spos.line X.env=pure true:=by rfl)
  (hs:∀ x,foldedSetIterable iter X.env x=pure x:=by intro _; rfl):S X B (.Assign [.Name y py] (.ListComp elt [⟨tg,iter,ifs,0⟩] scope pos) spos) (oK i (cm mp fi t p f)) :=
 PS.imp (vW hc hN hiy hy ck hi hb hsw hs) λ D σ H h=>by
  have h':=Gg D σ H h;exact Cm ht hks σ H _ h'
end
def cI (n m:Nat) (g:En->Option Out) (ds:List PD):Option PD:=if ds.length=n then (g (ds.map Sl.val++Qf (m - n) .un)).bind λ o=>match o with
 | .rt d=>some d
 | .nx _=>some .none
 | _=>none else none
section
variable {P:Ql} {w:World} {K:PH} {mg:Str->Option PP} {base:Heap}
theorem CU {a:Sl} (e:(ds.map Sl.val++Qf n .un)[i]?=some a):nt a=false:=by
 by_cases hi:i < ds.length
 ·rw [PM (by rw [PJ]; exact hi),P9] at e;cases q:ds[i]? with
  | none=>rw [q] at e; cases e
  | some d'=>rw [q] at e; cases e; rfl
 ·rw [P0 (by rw [PJ]; omega),Q8] at e;split at e <;> cases e;rfl
theorem EnR.start (r:RelL K F ds vs):EnR K H F H (L2.start N vs) (ds.map Sl.val++Qf (N.length - ds.length) .un) where
 len:=by unfold L2.start; rw [PL,PL,PJ,PJ,Re,Re,r.length]
 val:=λ i d e=>by
  unfold L2.start;by_cases hi:i < ds.length
  ·rw [PM (by rw [PJ]; exact hi),P9] at e;rw [PM (by rw [PJ,r.length]; exact hi),P9];cases q:ds[i]? with
   | none=>rw [q] at e; cases e
   | some d' =>
    rw [q] at e
    have:d'=d:=by injection (Option.some.inj e)
    subst this;obtain ⟨x,e1,e2⟩:=r.get q;exact ⟨x,by rw [e1]; rfl,e2⟩
  ·rw [P0 (by rw [PJ]; omega),Q8] at e;split at e <;> cases e
 cel:=λ i a e ha=>by rw [CU e] at ha; cases ha
 obs:=λ i fs e=>by
  by_cases hi:i < ds.length
  ·rw [PM (by rw [PJ]; exact hi),P9] at e;cases q:ds[i]? with
   | none=>rw [q] at e; cases e
   | some d'=>rw [q] at e; cases e
  ·rw [P0 (by rw [PJ]; omega),Q8] at e;split at e <;> cases e
 apart:=λ i _ a _ e _ ha _ _=>by rw [CU e] at ha; cases ha
theorem fnP {f:Qd} {k:Nat} {g:En->Option Out} (Fn:Fun K x qual st f fd) (Sc:aI N ps (ah st))
  (hb:∀ (cdv:PP) (A:QI) (outer:List Env) (s:PQ) (H:Hp) (E:XK) (F:Hp),Room k (A.deeper (envOfC qual (ah st) s.heap.objs.size f cdv)) ->
   Ss (so CX0 P w K mg base N qual (ah st) f cdv A outer s H E).nox ⟨F,H⟩ (nZ st) g) :
  FnOk P w K mg base CX0 (k+1) f fd ps (spP K (cI ps.length N.length g)):=by
 have len:∀ {F:Hp} {ds:List PD} {vs:List V} {d:PD},RelL K F ds vs->cI ps.length N.length g ds=some d->ds.length=ps.length/\vs.length=ps.length:=λ {F ds vs d} r e=>by
  unfold cI at e;split at e
  ·rename_i hl;exact ⟨hl,by rw [r.length]; exact hl⟩
  ·cases e
 refine Fn.ok Sc (λ vs H Q E h=>?_) (λ cdv A outer s H vs Q E hr h=>?_)
 ·obtain ⟨F,ds,d,_,r,e,_⟩:=h;exact (len r e).2
 ·obtain ⟨F,ds,d,sm,r,e,q⟩:=h;obtain ⟨l1,l2⟩:=len r e;refine ⟨_,hb cdv A outer s H E F hr,?_⟩;unfold cI at e;rw [if_pos l1] at e;obtain ⟨o,e1,e2⟩:=ac e;refine ⟨F,_,o,⟨.refl sm,?_⟩,e1,?_⟩
  ·have z:=EnR.start (K:=K) (H:=H) (N:=N) r;rw [l1] at z;exact z
  ·cases o with
   | rt d' =>
    cases e2;exact λ v F' H' g rv=>q v F' H' g rv
   | nx η' =>
    cases e2;exact λ σ' F' H' sr _=>q .non F' H' sr.gr uU
   | bk η'=>cases e2
   | ct η'=>cases e2
theorem fn0 {f:Qd} :FnOk P w K mg base CX0 k f fd ps (spP K (λ _=>none)) :=
 ⟨λ vs H Q E h=>(by obtain ⟨_,_,_,_,_,e,_⟩:=h; cases e),λ A outer s H args us vs Q E _ _ _ _ h=>(by obtain ⟨_,_,_,_,_,e,_⟩:=h; cases e)⟩
end
section
variable {X:Cx}
mutual
theorem Rel.reads {pz:List (Qd×Obj)} {σ:St} {F H:Hp} {s:PQ} (I:Inv X pz σ H s) (sm:Same F H):∀ {d:PD} {v:V} {u:PP},Qz d=true->Rel X.K F d v->RelV v u->∃ as,Reads s.heap u d as
 | .none,v,u,_,h,r=>by
  rw [h.non] at r; cases r;exact ⟨_,.none⟩
 | .bool b,v,u,_,h,r=>by
  rw [h.bl] at r; cases r;exact ⟨_,.bool b⟩
 | .int i,v,u,_,h,r=>by
  rw [h.int] at r; obtain ⟨t,rfl⟩:=r;exact ⟨_,.int i t⟩
 | .str x,v,u,_,h,r=>by
  rw [h.str] at r; obtain ⟨t,rfl⟩:=r;exact ⟨_,.str x t⟩
 | .tuple ds,v,u,c,h,r=>by
  unfold Qz at c;obtain ⟨a,xs,rfl,hq,rs⟩:=h.tup;cases r;obtain ⟨its,rv,⟨o,ho,hc,n,hd⟩,_⟩:=I.tuple (dU sm hq);obtain ⟨as,h'⟩:=RelL.reads I sm c rs rv;exact ⟨as,.tuple ho hc hd (by simpa using h')⟩
 | .list ds,v,u,c,h,r=>by
  unfold Qz at c;obtain ⟨a,xs,rfl,hq,rs⟩:=h.lst;cases r;obtain ⟨its,rv,p,_⟩:=I.list (sm.seq hq);obtain ⟨o,ho,hc,n,hd⟩:=p.isList;obtain ⟨as,h'⟩:=RelL.reads I sm c rs rv;exact ⟨a::as,.list ho hc hd (by simpa using h')⟩
 | .dict _,v,u,c,h,r=>by unfold Qz at c; cases c
theorem RelL.reads {pz:List (Qd×Obj)} {σ:St} {F H:Hp} {s:PQ} (I:Inv X pz σ H s) (sm:Same F H):∀ {ds:List PD} {vs:List V} {us:List PP},QA ds=true->RelL X.K F ds vs->Vals vs us->∃ as,ReadsAll s.heap us ds as
 | [],vs,us,_,h,r=>by
  rw [h.nil_of] at r; cases r;exact ⟨_,.nil⟩
 | d::ds,vs,us,c,h,r=>by
  unfold QA at c;obtain ⟨c1,c2⟩:=Rg.mp c;obtain ⟨x,xs,rfl,h1,h2⟩:=h.cons_of;cases r with
  | cons r1 r2 =>
   obtain ⟨as,e1⟩:=Rel.reads I sm c1 h1 r1;obtain ⟨bs,e2⟩:=RelL.reads I sm c2 h2 r2;exact ⟨as++bs,.cons e1 e2⟩
end
def JS (K:PH) (neg:Bool):R2:=λ x y H Q=>∃ F dx dy,Same F H/\Rel K F dx x/\Rel K F dy y/\Qu dx=true/\Qu dy=true/\Q (.bl (if neg then !QK dx dy else QK dx dy)) H
theorem zM (hu:X.A.units+64 < cLine):OpR X (QD .Eq) (JS X.K false):=by
 intro pz s σ H x y v u Q I rx ry h;obtain ⟨F,dx,dy,sm,h1,h2,s1,s2,q⟩:=h;obtain ⟨as,ra⟩:=Rel.reads I sm (SeqAt.canLay_of_shaped s1) h1 rx;obtain ⟨bs,rb⟩:=Rel.reads I sm (SeqAt.canLay_of_shaped s2) h2 ry;exact SeqAt.compareEq_shaped ra rb s1 s2 hu ⟨.bl _,H,I,rfl,q⟩
theorem B3 (hu:X.A.units+64 < cLine):OpR X (QD .NotEq) (JS X.K true):=by
 intro pz s σ H x y v u Q I rx ry h;obtain ⟨F,dx,dy,sm,h1,h2,s1,s2,q⟩:=h;obtain ⟨as,ra⟩:=Rel.reads I sm (SeqAt.canLay_of_shaped s1) h1 rx;obtain ⟨bs,rb⟩:=Rel.reads I sm (SeqAt.canLay_of_shaped s2) h2 ry;exact SeqAt.compareNe_shaped ra rb s1 s2 hu ⟨.bl _,H,I,rfl,q⟩
def pEq (x y:PD):Option PD:=if Qu x=true/\Qu y=true then some (.bool (QK x y)) else none
def pNe (x y:PD):Option PD:=if Qu x=true/\Qu y=true then some (.bool (!QK x y)) else none
theorem D1:Ad2 K (JS K false) pEq:=λ F H x y dx dy d Q sm rx ry e q=>by
 unfold pEq at e;split at e
 ·rename_i hs;cases e;exact ⟨F,dx,dy,sm,rx,ry,hs.1,hs.2,q _ F H (.refl sm) fE⟩
 ·cases e
theorem Gh:Ad2 K (JS K true) pNe:=λ F H x y dx dy d Q sm rx ry e q=>by
 unfold pNe at e;split at e
 ·rename_i hs;cases e;exact ⟨F,dx,dy,sm,rx,ry,hs.1,hs.2,q _ F H (.refl sm) fE⟩
 ·cases e
def pI (C:Int->Int->Prop) [∀ i j,Decidable (C i j)] (g:Int->Int->PD) (x y:PD):Option PD:=match x,y with
 | .int i,.int j=>if C i j then some (g i j) else none
 | _,_=>none
instance:∀ i j,Decidable (CMul i j):=λ i j=>by unfold CMul; infer_instance
instance:∀ i j,Decidable (CDiv i j):=λ i j=>by unfold CDiv; infer_instance
theorem Nl {C:Int->Int->Prop} [∀ i j,Decidable (C i j)] {g:Int->Int->PD} {gv:Int->Int->V} (hg:∀ F i j,Rel K F (g i j) (gv i j)):Ad2 K (rI C gv) (pI C g):=λ F H x y dx dy d Q sm rx ry e q=>by
 cases dx <;> cases dy <;> simp only [pI,reduceCtorEq] at e;split at e
 ·rename_i hc;cases e;exact ⟨_,_,rx.int,ry.int,hc,q _ F H (.refl sm) (hg F _ _)⟩
 ·cases e
theorem sv {g:Int->Int->PD} {gv:Int->Int->V} (hg:∀ F i j,Rel K F (g i j) (gv i j)):Ad2 K (rI0 gv) (pI (λ _ _=>True) g):=λ F H x y dx dy d Q sm rx ry e q=>by
 cases dx <;> cases dy <;> simp only [pI,reduceCtorEq,if_true] at e;cases e;exact ⟨_,_,rx.int,ry.int,q _ F H (.refl sm) (hg F _ _)⟩
def wB:=pI (λ _ _=>True) λ i j=>.int (i - j)
def lz:=pI CMul λ i j=>.int (i*j)
def um:=pI CDiv λ i j=>.int (i / j)
def rQ:=pI (λ _ j=>0 < j) λ i j=>.int (i % j)
def pLt:=pI (λ _ _=>True) λ i j=>.bool (decide (i < j))
def pLe:=pI (λ _ _=>True) λ i j=>.bool (decide (i<=j))
section
variable {B:Bd} {a b:Expr} {f g:En->Option PD} {pos:Pos}
theorem E.sub (ha:E X B a f) (hb:E X B b g):E X B (.BinOp a .Sub b pos) (l2 wB f g):=E.op HZ (sv λ _ _ _=>dQ) ha hb
theorem sD (ha:E X B a f) (hb:E X B b g):E X B (.BinOp a .Mult b pos) (l2 lz f g):=E.op Mq (Nl λ _ _ _=>dQ) ha hb
theorem E.fdiv (ha:E X B a f) (hb:E X B b g):E X B (.BinOp a .FloorDiv b pos) (l2 um f g):=E.op Kb (Nl λ _ _ _=>dQ) ha hb
theorem E.mod (ha:E X B a f) (hb:E X B b g):E X B (.BinOp a .Mod b pos) (l2 rQ f g):=E.op Mr (Nl λ _ _ _=>dQ) ha hb
theorem E.eq (hr:Room k X.A) (ha:E X B a f) (hb:E X B b g):E X B (.Compare a [.Eq] [b] pos) (l2 pEq f g):=E.cmp (zM hr.units) D1 (nomark b) ha hb
theorem E.ne (hr:Room k X.A) (ha:E X B a f) (hb:E X B b g):E X B (.Compare a [.NotEq] [b] pos) (l2 pNe f g):=E.cmp (B3 hr.units) Gh (nomark b) ha hb
theorem yc (hr:Room k X.A) (ha:E X B a f) (hb:E X B b g):T X B (.Compare a [.Eq] [b] pos) (bT (l2 pEq f g)):=T.cmp (zM hr.units) D1 (nomark b) ha hb
theorem T.ne (hr:Room k X.A) (ha:E X B a f) (hb:E X B b g):T X B (.Compare a [.NotEq] [b] pos) (bT (l2 pNe f g)):=T.cmp (B3 hr.units) Gh (nomark b) ha hb
theorem T.lt (ha:E X B a f) (hb:E X B b g):T X B (.Compare a [.Lt] [b] pos) (bT (l2 pLt f g)):=T.cmp Dh (sv λ _ _ _=>fE) (nomark b) ha hb
end
def Fy (K:PH):R2:=λ x y H Q=>∃ l b xs zs,x=.ref l/\y=.ref b/\SqL K H l xs/\SqL K H b zs/\xs.length+zs.length<=P4/\∀ p,H p=none->Q (.ref p) (upd H p (.lst (xs++zs)))
theorem op_catS:OpR X (binaryOp .Add) (Fy X.K):=by
 intro pz s σ H x y v u Q I rx ry h;obtain ⟨l,b,xs,zs,rfl,rfl,hH,hB,hz,q⟩:=h;cases rx;cases ry;obtain ⟨its,r,⟨⟨c1,d1,t1,sl1⟩,n,e,ec,ed,es⟩,z⟩:=I.list hH;obtain ⟨its2,r2,⟨⟨c2,d2,t2,sl2⟩,n2,e2,ec2,ed2,es2⟩,z2⟩:=I.list hB;have hl:=r.length;have hl2:=r2.length;simp only at ec ed es ec2 ed2 es2;subst ec ed es ec2 ed2 es2;have ea:its.toArray++its2.toArray=(its++its2).toArray:=by simp
 refine concat_meets ⟨_,e,rfl⟩ ⟨_,e2,rfl⟩ PySem.noFill_list_add PySem.seq_list_add PySem.F.slot_list_add PySem.F.entry_list_add (PySem.F.args_list_add_2 _ _)
   (list_addW l b its.toArray its2.toArray n n2 none none sl1 sl2 (by rw [P6,P6]; omega)) ⟨e,e2,?_⟩
 rw [ea];exact ⟨.ref _,_,I.lnew (t':=s.toks) (r.append r2) (by rw [PL]; omega),rfl,q _ I.fresh⟩
def Ek (K:PH):R2:=λ x y H Q=>∃ a b xs ys,x=.ref a/\y=.ref b/\SqT K H a xs/\SqT K H b ys/\xs.length+ys.length<=P4 /\
 (xs=[]->Q (.ref b) H)/\(xs≠[]->ys=[]->Q (.ref a) H)/\(∀ p,H p=none->Q (.ref p) (upd H p (.tup (xs++ys))))
theorem Ia:OpR X (binaryOp .Add) (Ek X.K):=by
 intro pz s σ H x y v u Q I rx ry h;obtain ⟨a,b,xs,ys,rfl,rfl,ha,hb,hz,q0,q1,q2⟩:=h;cases rx;cases ry;obtain ⟨its,r1,p1,_⟩:=I.tuple ha;obtain ⟨its2,r2,p2,_⟩:=I.tuple hb;by_cases hx:xs=[]
 ·have hi:its=[]:=r1.nil_iff.mpr hx;obtain ⟨⟨cls,dd,data,sl⟩,ho,hc,n,hd⟩:=id p1;obtain ⟨⟨cls2,dd2,data2,sl2⟩,ho2,hc2,n2,hd2⟩:=id p2;simp only at hc hd hc2 hd2;subst hc hd hc2 hd2;exact concat_meets ⟨_,ho,rfl⟩ ⟨_,ho2,rfl⟩ noFill_tuple_add seq_tuple_add PySem.F.slot_tuple_add PySem.F.entry_tuple_add (PySem.F.args_tuple_add_2 _ _)
   (tuple_addW0 a b its.toArray its2.toArray n n2 dd dd2 sl sl2 (by simp [hi])) ⟨ho,ho2,⟨.ref b,H,I,rfl,q0 hx⟩⟩
 ·refine HT.cat_tup p1 p2 (λ z=>hx (r1.nil_iff.mp z)) (λ z=>⟨.ref a,H,I,rfl,q1 hx (r2.nil_iff.mp z)⟩) (λ z=>?_) (by rw [<- r1.length,<- r2.length]; exact hz);refine ⟨.ref s.heap.objs.size,_,I.laid (t':=s.toks) (o:=.tup (xs++ys)) (λ b ob q=>PZ _ q) (PV _) ?_,rfl,q2 _ (I.hok.fresh (PV _))⟩;exact ⟨by rw [PL]; exact hz,_,r1.append r2,IsTup.new _ _⟩
def aH (x y:PD):Option PD:=match x,y with
 | .int i,.int j=>some (.int (i+j))
 | .str i,.str j=>if i.length+j.length<=P4 then some (.str (i++j)) else none
 | .list i,.list j=>if i.length+j.length<=P4 then some (.list (i++j)) else none
 | .tuple i,.tuple j=>if i.length+j.length<=P4 then some (.tuple (i++j)) else none
 | _,_=>none
theorem FN:OpR X (binaryOp .Add) (λ x y H Q=>(∃ i j,x=.int i/\y=.int j/\Q (.int (i+j)) H)\/(∃ i j,x=.str i/\y=.str j/\i.length+j.length<=P4/\Q (.str (i++j)) H)\/Fy X.K x y H Q\/Ek X.K x y H Q) :=
 op_add.or (op_add_str.or (op_catS.or Ia))
theorem Jg:Ad2 K (λ x y H Q=>(∃ i j,x=.int i/\y=.int j/\Q (.int (i+j)) H)\/(∃ i j,x=.str i/\y=.str j/\i.length+j.length<=P4/\Q (.str (i++j)) H)\/Fy K x y H Q\/Ek K x y H Q) aH:=λ F H x y dx dy d Q sm rx ry e q=>by
 unfold aH at e;split at e
 ·cases e;exact .inl ⟨_,_,rx.int,ry.int,q _ F H (.refl sm) dQ⟩
 ·split at e
  ·rename_i hz;cases e;exact .inr (.inl ⟨_,_,rx.str,ry.str,hz,q _ F H (.refl sm) sF⟩)
  ·cases e
 ·split at e
  ·rename_i hz;cases e;obtain ⟨a,xs,rfl,h1,r1⟩:=rx.lst;obtain ⟨b,ys,rfl,h2,r2⟩:=ry.lst;refine .inr (.inr (.inl ⟨a,b,xs,ys,rfl,rfl,sm.seq h1,sm.seq h2,by rw [r1.length,r2.length]; exact hz,λ p hp=>?_⟩));have g:=Gr.one (o:=.lst (xs++ys)) sm hp;exact q _ _ _ g (kG (SqL.of aA) ((r1.append r2).mono g.ff))
  ·cases e
 ·rename_i i j;split at e
  ·rename_i hz;cases e;obtain ⟨a,xs,rfl,h1,r1⟩:=rx.tup;obtain ⟨b,ys,rfl,h2,r2⟩:=ry.tup;refine .inr (.inr (.inr ⟨a,b,xs,ys,rfl,rfl,dU sm h1,dU sm h2,by rw [r1.length,r2.length]; exact hz,λ z=>?_,λ z1 z2=>?_,λ p hp=>?_⟩))
   ·subst z
    have:=Rr r1.length.symm
    subst this;exact q _ F H (.refl sm) (kF h2 (by simpa using r2))
   ·subst z2
    have:=Rr r2.length.symm
    subst this;exact q _ F H (.refl sm) (kF h1 (by simpa using r1))
   ·have g:=Gr.one (o:=.tup (xs++ys)) sm hp;exact q _ _ _ g (kF (SqT.of aA) ((r1.append r2).mono g.ff))
  ·cases e
 ·cases e
section
variable {B:Bd} {a b e:Expr} {es:List Expr} {f g:En->Option PD} {fs:En->Option (List PD)} {pos pp:Pos}
theorem bW (ha:E X B a f) (hb:E X B b g):E X B (.BinOp a .Add b pos) (l2 aH f g):=E.op FN Jg ha hb
def sG:PD->Option PD
 | .int i=>some (.int (-i))
 | _=>none
theorem tQ (ha:E X B a f):E X B (.UnaryOp .USub a pos) (l1 sG f):=PE.imp (N7 LR ha) λ σ H Q ⟨F,η,d,sr,hd,q⟩=>by
 obtain ⟨x,hx,hd⟩:=ac hd;cases x <;> simp only [sG,reduceCtorEq,Option.some.injEq] at hd;subst hd;exact ⟨F,η,_,sr,hx,λ v F1 H1 g1 rv=>⟨_,rv.int,q _ F1 H1 g1 dQ⟩⟩
def pIx (x y:PD):Option PD:=match x,y with
 | .list ds,.int i=>atI ds i
 | .tuple ds,.int i=>atI ds i
 | .str z,.int i=>if z.length<=P4 then (atI z.cps.toList i).bind λ c=>some (.str ⟨#[c]⟩) else none
 | _,_=>none
theorem Gf {i:Int} {d:PD} (r:RelL K F ds xs) (e:atI ds i=some d):∃ x,atI xs i=some x/\Rel K F d x:=by
 unfold atI at e ⊢;rw [r.length];obtain ⟨j,h1,h2⟩:=ac e;rw [h1];obtain ⟨x,h3,h4⟩:=r.get h2;exact ⟨x,h3,h4⟩
theorem LH:Ad2 K (rIx K) pIx:=λ F H x y dx dy d Q sm rx ry e q=>by
 unfold pIx at e;split at e
 ·obtain ⟨a,xs,rfl,h1,r1⟩:=rx.lst;obtain ⟨v,h2,h3⟩:=Gf r1 e;exact .inl ⟨a,xs,_,v,rfl,ry.int,sm.seq h1,h2,q _ F H (.refl sm) h3⟩
 ·obtain ⟨a,xs,rfl,h1,r1⟩:=rx.tup;obtain ⟨v,h2,h3⟩:=Gf r1 e;exact .inr (.inl ⟨a,xs,_,v,rfl,ry.int,dU sm h1,h2,q _ F H (.refl sm) h3⟩)
 ·split at e
  ·rename_i hz;obtain ⟨c,h1,h2⟩:=ac e;cases h2;exact .inr (.inr ⟨_,_,c,rx.str,ry.int,hz,h1,q _ F H (.refl sm) sF⟩)
  ·cases e
 ·cases e
theorem di (ha:E X B a f) (hb:E X B b g) (hs:uZ b:=by intro _ _; rfl):E X B (.Subscript a b pos) (l2 pIx f g):=E.ix Iz LH ha hb hs
def oS:PD->Bool
 | .none=>true
 | .bool _=>true
 | .int _=>true
 | .str _=>true
 | _=>false
theorem Cj {d:PD} {v:V} (h:oS d=true) (r:Rel K F d v):p9 v=true:=by
 cases d <;> simp [oS] at h
 ·rw [r.non]; rfl
 ·rw [r.bl]; rfl
 ·rw [r.int]; rfl
 ·rw [r.str]; rfl
theorem Ap {K:PH} {F:Hp}:∀ {ds:List PD} {vs:List V},ds.all oS=true->RelL K F ds vs->vs.all p9=true
 | [],vs,_,r=>by rw [r.nil_of]; rfl
 | d::ds,vs,h,r=>by
  obtain ⟨x,xs,rfl,r1,r2⟩:=r.cons_of;rw [Q9,Qp] at h ⊢;exact ⟨Cj h.1 r1,Ap h.2 r2⟩
theorem M0 {d e:PD} {x y:V} (hd:oS d=true) (he:oS e=true) (r:Rel K F d x) (s:Rel K F e y):eqV x y=QK d e:=by
 cases d <;> simp [oS] at hd <;> cases e <;> simp [oS] at he
 all_goals (first | rw [r.non] | rw [r.bl] | rw [r.int] | rw [r.str]) <;> (first | rw [s.non] | rw [s.bl] | rw [s.int] | rw [s.str])
 all_goals first | rfl | simp [eqV,QK]
theorem EN {K:PH} {F:Hp} {d:PD} {x:V} (hd:oS d=true) (r:Rel K F d x):∀ {ds:List PD} {vs:List V},ds.all oS=true->RelL K F ds vs->inV x vs=ds.any λ y=>QK y d
 | [],vs,_,rs=>by rw [rs.nil_of]; rfl
 | e::ds,vs,h,rs=>by
  obtain ⟨y,xs,rfl,r1,r2⟩:=rs.cons_of;rw [Q9,Qp] at h;have ih:=EN hd r h.2 r2;unfold inV at ih ⊢;rw [QV,QV,ih,M0 h.1 hd r1 r]
def pIn (neg:Bool) (x y:PD):Option PD:=match y with
 | .list ds=>if oS x=true/\ds.all oS=true then some (.bool (if neg then !(ds.any λ y=>QK y x) else ds.any λ y=>QK y x)) else none
 | .tuple ds=>if oS x=true/\ds.all oS=true then some (.bool (if neg then !(ds.any λ y=>QK y x) else ds.any λ y=>QK y x)) else none
 | .str j=>match x with
  | .str i=>some (.bool (if neg then !(!(Builtin.Str.occurrences j i 0 j.length 1).isEmpty) else !(Builtin.Str.occurrences j i 0 j.length 1).isEmpty))
  | _=>none
 | _=>none
def Mf (K:PH) (neg:Bool):R2:=λ x y H Q=>rIn K neg x y H Q\/(∃ i j,x=.str i/\y=.str j/\Q (.bl (if neg then !(!(Builtin.Str.occurrences j i 0 j.length 1).isEmpty) else !(Builtin.Str.occurrences j i 0 j.length 1).isEmpty)) H)
theorem Ms:OpR X (QD .In) (Mf X.K false):=op_in_seq.or GF
theorem GE:OpR X (QD .NotIn) (Mf X.K true):=op_notIn_seq.or B2
theorem LJ {neg:Bool}:Ad2 K (Mf K neg) (pIn neg):=λ F H x y dx dy d Q sm rx ry e q=>by
 unfold pIn at e;split at e
 ·split at e
  ·rename_i hf;cases e;obtain ⟨b,ys,rfl,h2,r2⟩:=ry.lst;refine .inl ⟨b,ys,rfl,.inl (sm.seq h2),Cj hf.1 rx,Ap hf.2 r2,?_⟩;rw [EN hf.1 rx hf.2 r2];exact q _ F H (.refl sm) fE
  ·cases e
 ·split at e
  ·rename_i hf;cases e;obtain ⟨b,ys,rfl,h2,r2⟩:=ry.tup;refine .inl ⟨b,ys,rfl,.inr (dU sm h2),Cj hf.1 rx,Ap hf.2 r2,?_⟩;rw [EN hf.1 rx hf.2 r2];exact q _ F H (.refl sm) fE
  ·cases e
 ·split at e
  ·cases e;exact .inr ⟨_,_,rx.str,ry.str,q _ F H (.refl sm) fE⟩
  ·cases e
 ·cases e
theorem T.notIn (ha:E X B a f) (hb:E X B b g) (hm:QH .NotIn b=false:=by with_unfolding_all rfl):T X B (.Compare a [.NotIn] [b] pos) (bT (l2 (pIn true) f g)):=T.cmp GE LJ hm ha hb
theorem E.in (ha:E X B a f) (hb:E X B b g) (hm:QH .In b=false:=by with_unfolding_all rfl):E X B (.Compare a [.In] [b] pos) (l2 (pIn false) f g):=E.cmp Ms LJ hm ha hb
def AdA (K:PH) (r:List V->Hp->VK->Prop) (o:List PD->Option PD):Prop :=
 ∀ F H xs ds d Q,Same F H->RelL K F ds xs->o ds=some d->(∀ v F' H',Gr F H F' H'->Rel K F' d v->Q v H')->r xs H Q
theorem Hk {r:List V->Hp->VK->Prop} {o:List PD->Option PD} (ad:AdA K r o):∀ σ H Q,tE K B (lA o fs) σ H Q->tCB r (tA K B fs) σ H Q:=λ σ H Q ⟨F,η,d,sr,hd,q⟩=>by
 obtain ⟨ds,hx,hd⟩:=ac hd;exact ⟨F,η,ds,sr,hx,λ vs F1 H1 g1 rs=>ad F1 H1 vs ds d Q g1.fh rs hd λ v F2 H2 g2 rv=>q v F2 H2 (g1.trans g2) rv⟩
theorem E.callB {id:String} {r:List V->Hp->VK->Prop} {o:List PD->Option PD} (hc:CallR X (.builtin id) r) (ad:AdA X.K r o) (hm:X.mg x=none) (hv:bootBuiltins x=some (.builtin id)) (ha:A X B (e::es) fs) (hg:Gl X x:=by rfl) (hn:x ≠ "__name__" := by decide) (hdb:Nd x:=by decide)
  (he:PX (e::es) X.env=(false,eval e X.env)::PX es X.env:=by exact bS rfl) (hpl:(backTo pos (PX es X.env)).any (·.1)=false:=by exact iN rfl):E X B (.Call (.Name x pp) (e::es) [] pos) (lA o fs) :=
 PE.imp (wA hc hg hm hv ha hn hdb he hpl) (Hk ad)
theorem E.callTy {id:String} {r:List V->Hp->VK->Prop} {o:List PD->Option PD} (hc:CallR X (.type id) r) (ad:AdA X.K r o) (hm:X.mg x=none) (hv:bootBuiltins x=some (.type id)) (ha:A X B (e::es) fs) (hg:Gl X x:=by rfl) (hn:x ≠ "__name__" := by decide) (hdb:Nd x:=by decide)
  (he:PX (e::es) X.env=(false,eval e X.env)::PX es X.env:=by exact bS rfl) (hpl:(backTo pos (PX es X.env)).any (·.1)=false:=by exact iN rfl):E X B (.Call (.Name x pp) (e::es) [] pos) (lA o fs) :=
 PE.imp (xJ hc hg hm hv ha hn hdb he hpl) (Hk ad)
def va (ds:List PD):Option PD:=match ds with
 | [.list xs]=>some (.int xs.length)
 | [.tuple xs]=>some (.int xs.length)
 | [.str z]=>if z.length<=P4 then some (.int z.length) else none
 | _=>none
theorem Nk:AdA K (λ xs H Q=>(∃ p ys,xs=[.ref p]/\(SqL K H p ys\/SqT K H p ys)/\Q (.int ys.length) H)\/(∃ z,xs=[.str z]/\z.length<=P4/\Q (.int z.length) H)) va:=λ F H xs ds d Q sm rs e q=>by
 unfold va at e;split at e
 ·cases e;obtain ⟨x,r,rfl,rx,rr⟩:=rs.cons_of;obtain rfl:=rr.nil_of;obtain ⟨a,ys,rfl,h1,r1⟩:=rx.lst;exact .inl ⟨a,ys,rfl,.inl (sm.seq h1),by rw [r1.length]; exact q _ F H (.refl sm) dQ⟩
 ·cases e;obtain ⟨x,r,rfl,rx,rr⟩:=rs.cons_of;obtain rfl:=rr.nil_of;obtain ⟨a,ys,rfl,h1,r1⟩:=rx.tup;exact .inl ⟨a,ys,rfl,.inr (dU sm h1),by rw [r1.length]; exact q _ F H (.refl sm) dQ⟩
 ·split at e
  ·rename_i hz;cases e;obtain ⟨x,r,rfl,rx,rr⟩:=rs.cons_of;obtain rfl:=rr.nil_of;exact .inr ⟨_,by rw [rx.str],hz,q _ F H (.refl sm) dQ⟩
  ·cases e
 ·cases e
theorem E.len (hm:X.mg "len" = none) (ha:A X B [e] fs) (hg:Gl X "len" := by rfl) (he:PX [e] X.env=(false,eval e X.env)::PX [] X.env:=by exact bS rfl) (hpl:(backTo pos (PX [] X.env)).any (·.1)=false:=by rfl):E X B (.Call (.Name "len" pp) [e] [] pos) (lA va fs) :=
 E.callB (call_len_seq.or Cr) Nk hm PySem.boot_len ha hg (by decide) (by decide) he hpl
def GB (ds:List PD):Option PD:=match ds with
 | [.list xs]=>some (.tuple xs)
 | [.tuple xs]=>some (.tuple xs)
 | _=>none
theorem Ni:AdA K (λ xs H Q=>∃ p ys,xs=[.ref p]/\((SqL K H p ys/\∀ l,H l=none->Q (.ref l) (upd H l (.tup ys)))\/(SqT K H p ys/\Q (.ref p) H))) GB:=λ F H xs ds d Q sm rs e q=>by
 unfold GB at e;split at e
 ·cases e;obtain ⟨x,r,rfl,rx,rr⟩:=rs.cons_of;obtain rfl:=rr.nil_of;obtain ⟨a,ys,rfl,h1,r1⟩:=rx.lst;refine ⟨a,ys,rfl,.inl ⟨sm.seq h1,λ p hp=>?_⟩⟩;have g:=Gr.one (o:=.tup ys) sm hp;exact q _ _ _ g (kF (SqT.of aA) (r1.mono g.ff))
 ·cases e;obtain ⟨x,r,rfl,rx,rr⟩:=rs.cons_of;obtain rfl:=rr.nil_of;obtain ⟨a,ys,rfl,h1,r1⟩:=rx.tup;exact ⟨a,ys,rfl,.inr ⟨dU sm h1,q _ F H (.refl sm) (kF h1 r1)⟩⟩
 ·cases e
theorem E.tuple (hm:X.mg "tuple" = none) (ha:A X B [e] fs) (hg:Gl X "tuple" := by rfl) (he:PX [e] X.env=(false,eval e X.env)::PX [] X.env:=by exact bS rfl) (hpl:(backTo pos (PX [] X.env)).any (·.1)=false:=by rfl):E X B (.Call (.Name "tuple" pp) [e] [] pos) (lA GB fs) :=
 E.callTy A4 Ni hm (by decide +kernel) ha hg (by decide) (by decide) he hpl
end
end
def vi {α:Type} (xs:List α) (lo hi:Option Int):List α:=(xs.drop (HT.sIx xs.length 0 lo)).take (HT.sIx xs.length xs.length hi - HT.sIx xs.length 0 lo)
section
variable {X:Cx}
theorem RelL.cut (r:RelL K F ds xs) (lo hi:Option Int):RelL K F (vi ds lo hi) (yX xs lo hi):=by
 unfold vi yX;rw [r.length];exact (r.drop _).take _
theorem JI:SlR X (λ x lo hi H Q=>∃ a xs,x=.ref a/\SqT X.K H a xs/\(HT.sIx xs.length 0 lo=0/\HT.sIx xs.length xs.length hi=xs.length)/\Q (.ref a) H):=by
 intro pz s σ H x v vl vu lo hi sl Q I rx hs pl pu h;obtain ⟨a,xs,rfl,hx,hw,q⟩:=h;cases rx;obtain ⟨its,r,ht,hz⟩:=I.tuple hx;have hlen:its.toArray.size=xs.length:=by rw [P6]; exact r.length.symm
 refine ⟨"tuple", _,PyProof.Rows.slot_tuple_getitem.lookup,ht.typeIs,?_⟩;obtain ⟨os,hos,hcs,hds⟩:=id hs;have hTs:s.TypeIs (.ref sl) "slice" := ⟨os,hos,hcs⟩;unfold getItem
 try with_reducible refine wpAny_holding ?_
 first | refine P1 (Qe ?_) | skip
 refine P1 (wpAny_sequenceKey ht.typeIs (by decide) ?_);refine P1 (wpAny_callSpecial?_slot (name:=Str.ofString "__getitem__") ht.typeIs PyProof.Rows.slot_tuple_getitem
  (wpAny_call_entry PyProof.Rows.slot_tuple_getitem ht.typeIs entry_tuple_getitem ?_ (args_tuple_getitem _ _)))
 show Qs _ _ (Builtin.Tuple.tupleItemsOf (.ref a) >>= _) _ _ s;refine P1 (tupleItemsOf_ ht ?_);refine P1 (wpAny_typeOf hTs ?_);rw [if_pos (by decide)];refine P1 (HT.sliceApplied_gen hs pl pu ?_);rw [hlen];have hyes:((((HT.sIx xs.length 0 lo:Nat):Int)==0&&(1:Int)==1&&(HT.sIx xs.length xs.length hi - HT.sIx xs.length 0 lo)==xs.length)=true):=by
  rw [hw.1,hw.2]; simp
 show Qs _ _ (if (((HT.sIx xs.length 0 lo:Nat):Int)==0&&(1:Int)==1&&(HT.sIx xs.length xs.length hi - HT.sIx xs.length 0 lo)==xs.length)=true then _ else _) _ _ s;rw [if_pos hyes];have fin:EP X pz σ Q (.ref a) s:=⟨.ref a,H,I,rfl,q⟩;refine P1 ?_;unfold Builtin.Tuple.tupleIsExact;refine P1 (wpAny_typeOf ht.typeIs (Qe ?_));rw [if_pos (by decide)];exact P1 (wpAny_rule (Qe ⟨_,rfl,Qe fin⟩))
def pSl (x:PD) (lo hi:Option Int):Option PD:=match x with
 | .list ds=>some (.list (vi ds lo hi))
 | .tuple ds=>some (.tuple (vi ds lo hi))
 | _=>none
def NW (K:PH):V->Option Int->Option Int->Hp->VK->Prop:=λ x lo hi H Q=>NV K x lo hi H Q\/NU K x lo hi H Q\/(∃ a xs,x=.ref a/\SqT K H a xs/\(HT.sIx xs.length 0 lo=0/\HT.sIx xs.length xs.length hi=xs.length)/\Q (.ref a) H)
theorem NO:SlR X (NW X.K):=sl_list.or (sl_tup.or JI)
theorem LG {x:V} {dx d:PD} {lo hi:Option Int} (sm:Same F H) (rx:Rel K F dx x) (e:pSl dx lo hi=some d) (q:∀ v F' H',Gr F H F' H'->Rel K F' d v->Q v H'):NW K x lo hi H Q:=by
 unfold pSl at e;split at e
 ·cases e;obtain ⟨a,xs,rfl,h1,r1⟩:=rx.lst;refine .inl ⟨a,xs,rfl,sm.seq h1,λ p hp=>?_⟩;have g:=Gr.one (o:=.lst (yX xs lo hi)) sm hp;exact q _ _ _ g (kG (SqL.of aA) ((r1.cut lo hi).mono g.ff))
 ·cases e;obtain ⟨a,xs,rfl,h1,r1⟩:=rx.tup;by_cases hw:HT.sIx xs.length 0 lo=0/\HT.sIx xs.length xs.length hi=xs.length
  ·refine .inr (.inr ⟨a,xs,rfl,dU sm h1,hw,q _ F H (.refl sm) (kF h1 ?_)⟩)
   have:=r1.cut lo hi
   have e2:yX xs lo hi=xs:=by
    unfold yX;rw [hw.1,hw.2]
    simp
   rw [e2] at this;exact this
  ·refine .inr (.inl ⟨a,xs,rfl,dU sm h1,hw,λ p hp=>?_⟩);have g:=Gr.one (o:=.tup (yX xs lo hi)) sm hp;exact q _ _ _ g (kF (SqT.of aA) ((r1.cut lo hi).mono g.ff))
 ·cases e
section
variable {B:Bd} {a b e:Expr} {es:List Expr} {f g:En->Option PD} {fs:En->Option (List PD)} {pos pp p2:Pos} {lo hi:Option Expr} {fl fh:En->Option (Option Int)}
def tP (K:PH) (B:Bd) (f:En->Option (Option Int)):TO:=λ σ H Q=>∃ F η o,SR K B F H σ η/\f η=some o/\∀ F' H',Gr F H F' H'->Q o H'
def P (X:Cx) (B:Bd) (e:Option Expr) (f:En->Option (Option Int)):Prop:=PO X e (tP X.K B f)
def pN:En->Option (Option Int):=λ _=>some none
def asI:PD->Option Int
 | .int i=>some i
 | _=>none
theorem xt {d:PD} {i:Int} (h:asI d=some i):d=.int i:=by
 cases d <;> simp [asI] at h;rw [h]
def pS (f:En->Option PD):En->Option (Option Int):=λ η=>(f η).bind λ d=>(asI d).bind λ i=>some (some i)
theorem PO.imp {X:Cx} {e:Option Expr} {t t':TO} (h:PO X e t) (i:∀ σ H Q,t' σ H Q->t σ H Q):PO X e t':=λ pz s σ H Q I q=>h pz s σ H Q I (i σ H Q q)
theorem qg:P X B none pN:=PO.imp JZ λ σ H Q ⟨F,η,d,sr,hd,q⟩=>by
 cases hd;exact q F H (.refl sr.same)
theorem kA (h:E X B e f):P X B (some e) (pS f):=PO.imp (JY h) λ σ H Q ⟨F,η,d,sr,hd,q⟩=>by
 obtain ⟨x,hx,hd⟩:=ac hd;obtain ⟨i,hi,hd⟩:=ac hd;cases hd;obtain rfl:=xt hi;exact ⟨F,η,_,sr,hx,λ v F1 H1 g1 rv=>⟨i,rv.int,q F1 H1 g1⟩⟩
def eSl (f:En->Option PD) (fl fh:En->Option (Option Int)):En->Option PD:=λ η=>(f η).bind λ x=>(fl η).bind λ l=>(fh η).bind λ h=>pSl x l h
theorem E.sl (he:E X B e f) (hl:P X B lo fl) (hu:P X B hi fh):E X B (.Subscript e (.Slice lo hi none p2) pos) (eSl f fl fh):=PE.imp (Db NO he hl hu) λ σ H Q ⟨F,η,d,sr,hd,q⟩=>by
 obtain ⟨x,hx,hd⟩:=ac hd;obtain ⟨l,hl,hd⟩:=ac hd;obtain ⟨h,hh,hd⟩:=ac hd;refine ⟨F,η,x,sr,hx,λ v F1 H1 g1 rv=>⟨F1,η,l,sr.grow g1,hl,λ F2 H2 g2=>⟨F2,η,h,(sr.grow g1).grow g2,hh,λ F3 H3 g3=>?_⟩⟩⟩;exact LG g3.fh (rv.mono (g2.ff.trans g3.ff)) hd λ w F4 H4 g4 rw'=>q w F4 H4 (((g1.trans g2).trans g3).trans g4) rw'
def NT (K:PH):List V->Hp->VK->Prop:=λ xs H Q=>∃ (p:Qd) (ns:List Int),xs=[.ref p]/\SqL K H p (ns.map V.int)/\Q (.int ns.sum) H
theorem zJ:∀ (ns:List Int) (n:Nat),n<=ns.length->preSum (λ i=>ns.getD i 0) n=(ns.take n).sum
 | ns,0,_=>by simp [preSum]
 | ns,n+1,h=>by
  have hn:n < ns.length:=by omega
  rw [preSum,zJ ns n (by omega),List.take_succ_eq_append_getElem hn,List.sum_append];show _+ns.getD n 0=_;rw [Qy,Qk hn]
  simp
theorem IV (hc:X.calm=true):CallR X (.builtin "sum") (NT X.K):=by
 intro pz s σ H xs us Q I r h;obtain ⟨p,ns,rfl,hq,q⟩:=h;obtain ⟨u,rfl,rx⟩:=sU r;cases rx;obtain ⟨its,rv,pl,hz⟩:=I.list hq;have iv:IntsAre its ns:=EM rv;have hlt:p < s.heap.objs.size:=by
  obtain ⟨o,ho,_⟩:=pl.isList;exact Qb ho
 refine call_sum_walkG (wpAny_pyIter_list pl.isList ?_);refine ⟨s.heap.objs.size,_,_,_,_,_,λ i=>ns.getD i 0,rfl,Walks.list (A:=X.A.in1) (I.ok.hd hc) s.heap.objs.size p (Qm hlt) its.toArray,⟨⟨_,Qn _ rfl,rfl,rfl⟩,pl.isList.at λ o e=>PZ _ e⟩,?_,?_,λ h' tk t' hk=>?_⟩
 ·intro b hb;show b < (s.heap.push _).objs.size;rw [Heap.size_push];rcases Qh.mp hb with e | hb
  ·rw [e]; exact Q3 _
  ·rw [Qt.mp hb]; exact Nat.lt_succ_of_lt hlt
 ·intro i v hv;have hv':its[i]?=some v:=by simpa using hv
  obtain ⟨hi,e⟩:=PR.mp hv';have hl:=rv.length;rw [PJ] at hl;have hn:ns[i]?=some ns[i]:=Qk (by omega);obtain ⟨u,hu,ru⟩:=rv.get (i:=i) (x:=.int ns[i]) (by rw [P9,hn]; rfl);rw [hv'] at hu;cases hu;obtain ⟨t,rfl⟩:=ru;exact ⟨t,by show Value.int ns[i] t=Value.int (ns.getD i 0) t; rw [Qy,hn]; rfl⟩
 ·have hl:=rv.length;rw [PJ] at hl;have e:preSum (λ i=>ns.getD i 0) its.toArray.size=ns.sum:=by
   rw [P6,zJ ns _ (by omega),RP (by omega)]
  rw [e];refine ⟨.int ns.sum,H,I.kept (t':=tk) λ b o eb=>hk b o ?_ (PZ _ eb),⟨t',rfl⟩,q⟩;intro hb;exact absurd (Qb eb) (by rw [Qt.mp hb]; exact QY _)
def IZ:List PD->Option (List Int)
 | []=>some []
 | .int i::r=>(IZ r).bind λ ns=>some (i::ns)
 | _::_=>none
theorem BB:∀ {ds:List PD} {ns:List Int},IZ ds=some ns->ds=ns.map Qx
 | [],ns,h=>by cases h; rfl
 | .int i::r,ns,h=>by
  obtain ⟨ms,h1,h2⟩:=ac h;cases h2;rw [BB h1]; rfl
 | .none::_,_,h=>by cases h
 | .bool _::_,_,h=>by cases h
 | .str _::_,_,h=>by cases h
 | .list _::_,_,h=>by cases h
 | .tuple _::_,_,h=>by cases h
 | .dict _::_,_,h=>by cases h
theorem G1 (ns:List Int):IZ (ns.map Qx)=some ns:=by
 induction ns with
 | nil=>rfl
 | cons n r ih=>rw [P2]; unfold IZ; rw [ih]; rfl
theorem RelL.ints_of {K:PH} {F:Hp}:∀ {ns:List Int} {xs:List V},RelL K F (ns.map Qx) xs->xs=ns.map V.int
 | [],xs,h=>h.nil_of
 | n::r,xs,h=>by
  obtain ⟨x,ys,rfl,h1,h2⟩:=h.cons_of;rw [h1.int,RelL.ints_of h2]; rfl
def BV (ds:List PD):Option PD:=match ds with
 | [.list xs]=>(IZ xs).bind λ ns=>some (.int ns.sum)
 | _=>none
theorem Nj:AdA K (NT K) BV:=λ F H xs ds d Q sm rs e q=>by
 unfold BV at e;split at e
 ·obtain ⟨ns,h1,h2⟩:=ac e;cases h2
  have:=BB h1
  subst this;obtain ⟨x,r,rfl,rx,rr⟩:=rs.cons_of;obtain rfl:=rr.nil_of;obtain ⟨a,ys,rfl,hq,r1⟩:=rx.lst
  have:=r1.ints_of
  subst this;exact ⟨a,ns,rfl,sm.seq hq,q _ F H (.refl sm) dQ⟩
 ·cases e
theorem E.sum (hc:X.calm=true) (hm:X.mg "sum" = none) (ha:A X B [e] fs) (hg:Gl X "sum" := by rfl) (he:PX [e] X.env=(false,eval e X.env)::PX [] X.env:=by exact bS rfl) (hpl:(backTo pos (PX [] X.env)).any (·.1)=false:=by rfl):E X B (.Call (.Name "sum" pp) [e] [] pos) (lA BV fs) :=
 E.callB (IV hc) Nj hm (by decide +kernel) ha hg (by decide) (by decide) he hpl
theorem Cd (l b:Qd) (items items2:Array PP) (n n2:Nat) (dd2:Option Qd) (sl2:Array (Option PP)) (hc0:¬(!items.isEmpty&&Builtin.List.listTooLong (items.size+items2.size))=true) (hc1:items.size<=P4) (hs2:items.size+items2.size<=P4+1) :
  Meets (Builtin.«list.extend» ⟨[.ref l,.ref b],[]⟩) (λ _ R s=>s.heap.get? l=some { cls:=.type "list", dict:=none,data:=.seq items n,slots:=#[] }/\s.heap.get? b=some { cls:=.type "list", dict:=dd2,data:=.seq items2 n2,slots:=sl2 }/\R (.ok (.ret Value.none)) { s with heap:=s.heap.update l (Obj.mapSeq λ x=>x++items2),toks:=s.toks }) :=
 .of_wp λ prog w A R s h=>by
  obtain ⟨hp,g,d,tk,os⟩:=s; obtain ⟨hl,hb,h⟩:=h; have f1:=AutoSeq1.idx_int; have f2:=AutoSeq1.sub_tuple_tuple; have f3:=AutoSeq1.sub_list_list; have f4:=AutoSeq1.sub_tuple_list; have f5:=AutoSeq1.sub_list_tuple;have hz':(items++items2).size<=P4+1:=by rw [Array.size_append]; exact hs2
  wp_walk using (wpAny_updateSeq hl rfl (hz:=hc1) (_hz':=hz')),AutoSeq1.wpAny_loadPart' hl,AutoSeq1.wpAny_loadPart' hb; exact ⟨_,rfl,h⟩
def N1 (K:PH):V->List V->Hp->VK->Prop:=λ x vs H Q=>∃ l b xs zs,x=.ref l/\vs=[.ref b]/\H l=some (.lst xs)/\SqL K H b zs/\xs.length+zs.length<=P4/\Q .non (upd H l (.lst (xs++zs)))
theorem FR:MtM X "list.extend" (N1 X.K):=by
 intro pz s σ H x vs v us Q I rx rv h;obtain ⟨l,b,xs,zs,rfl,rfl,hH,hB,hz,q⟩:=h;cases rx;obtain ⟨u,rfl,ru⟩:=rv.one;cases ru;obtain ⟨z,its,n,r,hl,e⟩:=I.lstM hH;obtain ⟨its2,r2,⟨⟨c2,d2,t2,sl2⟩,n2,e2,ec2,ed2,es2⟩,z2⟩:=I.list hB;simp only at ec2 ed2 es2;subst ec2 ed2 es2;have hl2:=r2.length;have hsz:its.toArray.size+its2.toArray.size<=P4:=by rw [P6,P6]; omega
 have hlong:¬ (!its.toArray.isEmpty&&Builtin.List.listTooLong (its.toArray.size+its2.toArray.size))=true:=by
  rw [Dj hsz,Bool.and_false];exact PN
 refine call_meets F.slot_list_extend ⟨_,e,rfl⟩ F.entry_list_extend (F.args_list_extend_2 _ _)
  (Cd l b its.toArray its2.toArray n n2 none sl2 hlong (by rw [P6]; omega) (by omega)) ⟨e,e2,?_⟩
 refine ⟨.non,_,I.lset (its':=its++its2) hH e (by simp) (r.append r2) ?_,rfl,q⟩;rw [PL];omega
variable {apos cpos:Pos}
theorem S.ext (i:Nat) {npos:Pos} (he:E X B e f) (hN:X.N[i]?=some x:=by rfl) (hv:Vis X.env.scope x:=by first | exact Or.inl rfl | exact Or.inr (Or.inl rfl) | exact Or.inr (Or.inr rfl)) (hd:Nd x:=by decide) (hcd:(x==("__classdict__" : Str))=false:=by decide)
  (hbase:attributeBase (.Name x npos) "extend" X.env (eval (.Name x npos) X.env)=eval (.Name x npos) X.env:=by rfl)
  (hfew:((backTo cpos (PX [e] X.env)).all (λ x=>!x.1)&&(backToKw cpos (keywordEach [] X.env)).all (λ x=>x.1.isSome)
   && decide ([e].length+([]:List Keyword).length+(if ([]:List Keyword).isEmpty then 0 else 1) < 30))=true:=by rfl)
  (hline:(apos.endLine==cpos.line)=true:=by rfl) (hs:PX [e] X.env=(false,eval e X.env)::PX [] X.env:=by exact bS rfl) (hplain:(backTo cpos (PX [] X.env)).any (·.1)=false:=by rfl)
  (hsw:swapsWith (.Call (.Attribute (.Name x npos) "extend" apos) [e] [] cpos) none pos.line X.env=pure false:=by rfl) :
  S X B (.Expr (.Call (.Attribute (.Name x npos) "extend" apos) [e] [] cpos) pos) (zF i (lI asL f)) :=
 PS.imp (zb (Bk PySem.F.plainAttrs_list PySem.F.slot_list_extend PySem.F.type_list_extend FR (qT hN hv hd hcd) (ae he au hs) hbase hfew hline hs hplain) hsw) λ D σ H ⟨F,η,o,sr,hd,q⟩=>by
  obtain ⟨es,h1,hd⟩:=ac hd;split at hd
  ·rename_i ds ed;split at hd
   ·rename_i hz;cases hd;obtain ⟨dl,h2,h3⟩:=ac h1;cases dl <;> simp only [asL,Option.some.injEq,reduceCtorEq] at h3;subst h3;obtain ⟨p,xs,e1,e2,e3,e4,e5⟩:=sr.en.own i ds ed;refine ⟨_,e1,.inl ⟨rfl,xs,SqL.of e4⟩,F,η,_,sr,(by show (f η).bind _=_; rw [h2]; rfl),λ vs F1 H1 g1 rs=>?_⟩;obtain ⟨y,r,rfl,ry,rr⟩:=rs.cons_of;obtain rfl:=rr.nil_of;obtain ⟨b,zs,rfl,hq,r1⟩:=ry.lst;have sr1:=sr.grow g1;obtain ⟨p',xs',q1,q2,q3,q4,q5⟩:=sr1.en.own i ds ed;rw [e1] at q1;have ep:p=p':=by injection (Option.some.inj (Option.some.inj q1))
    subst ep;refine ⟨p,b,xs',zs,rfl,rfl,q4,g1.fh.seq hq,by rw [q5.length,r1.length]; exact hz,?_⟩;refine q σ F1 _ ⟨⟨sr1.gr.ff,λ c u z=>?_,λ c u z=>?_,sr1.gr.new⟩,sr1.en.putOwn ed e1 (q5.append r1)⟩ g1.ff
    ·have nb:c≠p:=aU z q3;rw [aD nb]; exact sr1.gr.hh c u z
    ·have nb:c≠p:=aU z q2;rw [aD nb]; exact sr1.gr.fh c u z
   ·cases hd
  ·cases hd
theorem S.app (i:Nat) {npos:Pos} (he:E X B e f) (hN:X.N[i]?=some x:=by rfl) (hv:Vis X.env.scope x:=by first | exact Or.inl rfl | exact Or.inr (Or.inl rfl) | exact Or.inr (Or.inr rfl)) (hd:Nd x:=by decide) (hcd:(x==("__classdict__" : Str))=false:=by decide)
  (hbase:attributeBase (.Name x npos) "append" X.env (eval (.Name x npos) X.env)=eval (.Name x npos) X.env:=by rfl)
  (hfew:((backTo cpos (PX [e] X.env)).all (λ x=>!x.1)&&(backToKw cpos (keywordEach [] X.env)).all (λ x=>x.1.isSome)
   && decide ([e].length+([]:List Keyword).length+(if ([]:List Keyword).isEmpty then 0 else 1) < 30))=true:=by rfl)
  (hline:(apos.endLine==cpos.line)=true:=by rfl) (hs:PX [e] X.env=(false,eval e X.env)::PX [] X.env:=by exact bS rfl) (hplain:(backTo cpos (PX [] X.env)).any (·.1)=false:=by rfl)
  (hsw:swapsWith (.Call (.Attribute (.Name x npos) "append" apos) [e] [] cpos) none pos.line X.env=pure false:=by rfl) :
  S X B (.Expr (.Call (.Attribute (.Name x npos) "append" apos) [e] [] cpos) pos) (Hq i f) :=
 PS.imp (zb (Bk PySem.F.plainAttrs_list PySem.F.slot_list_append PySem.F.type_list_append xQ (qT hN hv hd hcd) (ae he au hs) hbase hfew hline hs hplain) hsw) λ D σ H ⟨F,η,o,sr,hd,q⟩=>by
  obtain ⟨dv,h1,hd⟩:=ac hd;split at hd
  ·rename_i ds ed;split at hd
   ·rename_i hz;cases hd;obtain ⟨p,xs,e1,e2,e3,e4,e5⟩:=sr.en.own i ds ed;refine ⟨_,e1,.inl ⟨rfl,xs,SqL.of e4⟩,F,η,_,sr,(by show (f η).bind _=_; rw [h1]; rfl),λ vs F1 H1 g1 rs=>?_⟩;obtain ⟨y,r,rfl,ry,rr⟩:=rs.cons_of;obtain rfl:=rr.nil_of;have sr1:=sr.grow g1;obtain ⟨p',xs',q1,q2,q3,q4,q5⟩:=sr1.en.own i ds ed;rw [e1] at q1;have ep:p=p':=by injection (Option.some.inj (Option.some.inj q1))
    subst ep;refine ⟨p,xs',y,rfl,rfl,q4,by rw [q5.length]; exact hz,?_⟩;refine q σ F1 _ ⟨⟨sr1.gr.ff,λ c u z=>?_,λ c u z=>?_,sr1.gr.new⟩,sr1.en.putOwn ed e1 (q5.append (.cons ry .nil))⟩ g1.ff
    ·have nb:c≠p:=aU z q3;rw [aD nb]; exact sr1.gr.hh c u z
    ·have nb:c≠p:=aU z q2;rw [aD nb]; exact sr1.gr.fh c u z
   ·cases hd
  ·cases hd
end
end
def Bi (x:Str):List PD:=x.cps.toList.map λ c=>PyData.str ⟨#[c]⟩
def qa (ds:List PD) (i:Nat):List PD:=match ds with
 | []=>[]
 | d::r=>.tuple [.int i,d]::qa r (i+1)
theorem xX:∀ (ds:List PD) (k i:Nat) (d:PD),(qa ds k)[i]?=some d->∃ c,ds[i]?=some c/\d=.tuple [.int ((k+i:Nat):Int),c]
 | [],k,i,d,h=>by simp [qa] at h
 | c::r,k,0,d,h=>by
  simp [qa] at h;exact ⟨c,rfl,h.symm⟩
 | c::r,k,i+1,d,h=>by
  have h':(qa r (k+1))[i]?=some d:=by simpa [qa] using h
  obtain ⟨c',h1,h2⟩:=xX r (k+1) i d h';exact ⟨c',by simpa using h1,by rw [h2,show k+1+i=k+(i+1) by omega]⟩
theorem uY:∀ (ds:List PD) (k:Nat),(qa ds k).length=ds.length
 | [],_=>rfl
 | _::r,k=>by rw [qa,P8,P8,uY r]
def Ite (x:Str):It:=⟨λ i _=>i < x.cps.size,λ i H v H'=>∃ T c,H T=none/\x.cps[i]?=some c/\v=.ref T/\H'=upd H T (.tup [.int (i:Nat),.str ⟨#[c]⟩]),λ i _=>i=x.cps.size⟩
section
theorem Bf {P:Ql} {w:World} {K:PH} {elts:List Expr} {k:Nat} {tp:Pos} {e it:Qd} {x:Str} {St:Nat->Heap->Prop} (hei:e≠it)
  (D:∀ A:QI,A.handled=none->Draws P w A it [it] x.cps.size (λ i v=>∃ c u,x.cps[i]?=some c/\v=.str ⟨#[c]⟩ u) St) (hcell:∀ i h,St i h->∃ o,h.get? it=some o/\∀ v,o.data≠.cell v) :
  Turn P w K (.Tuple elts k tp) (Ite x) [e,it] e (λ i h=>(∃ old,IsEnum h e it i old)/\St i h) where
 mem:=by simp
 obj:=λ i h st b hb=>by
  obtain ⟨⟨old,he⟩,hs⟩:=st;rcases Qh.mp hb with rfl | hb
  ·exact ⟨_,he,λ v z=>by cases z⟩
  ·rw [Qt.mp hb];exact hcell i h hs
 keep:=λ i h h' st kk=>by
  obtain ⟨⟨old,he⟩,hs⟩:=st;refine ⟨⟨old,kk e (by simp) _ he⟩,?_⟩;exact (D { frames:=none,units:=0,depth:=0,handled:=none } rfl).frame i h h' hs λ b hb o q=>kk b (by rw [Qt.mp hb]; simp) o q
 item:=by
  intro X hP hw hK hc i pz s σ H E I hf st hg;subst hP hw hK;have W:=WalksT.enumerateD (prog:=X.prog) (w:=X.w) (A:=X.A) (D X.A.in1 (I.ok.hd hc)) e hei (by simpa using hei) (by simp);refine W.item i s _ _ hg st λ T vals h' tk Pt hT hIs Md kp=>⟨.ref T,rfl,?_⟩;refine W.go elts k tp i T _ _ _ Md λ h'' st'' kp''=>?_;obtain ⟨t,xv,⟨c,u,hcx,rfl⟩,rfl⟩:=Pt;have nT:H T=none:=I.hok.fresh hT;have aT:T∉[e,it]:=W.apart i T _ Md;have kall:∀ b o,b∉[e,it]->s.heap.get? b=some o->h''.get? b=some o:=λ b o hb q=>kp'' b o hb (kp b o hb q);have hIs'':IsTup h'' T #[.int i t,.str ⟨#[c]⟩ u]:=by
   obtain ⟨o,ho,hcl,n,hd⟩:=hIs;exact ⟨o,kp'' T o aT ho,hcl,n,hd⟩
  have ltT:∀ b o,s.heap.get? b=some o->b≠T:=λ b o q=>Qm (P5 (Qb q) hT);have nfp:∀ b o,H b=some o->b∉[e,it]:=λ b o q hb=>by rw [(hf b hb).1] at q; cases q
  have J:Inv X pz σ (upd H T (.tup [.int (i:Nat),.str ⟨#[c]⟩])) { s with heap:=h'',toks:=tk }:=by
   refine I.step (h':=h'') (g':=s.gens) (d':=s.drawn) (t':=tk) (ch:=[e,it]) (λ b hb=>⟨(hf b hb).2.2.2.1,(hf b hb).2.1,(hf b hb).2.2.2.2.1,(hf b hb).2.2.2.2.2⟩)
    (λ b o _ _ hb q _=>kall b o hb q) (λ b o _ _ hb q _=>⟨o.slots,kall b o hb q⟩) (λ b o _ q n=>by rw [aD (ltT b o q)]; exact n) (λ b o hb q=>⟨o,kall b o hb q⟩)
    (λ b xs q=>by rw [aD (aU q nT)]; exact q) (λ b o xs q=>by rw [aD (aU q nT)]; exact q) (λ b ps q=>⟨#[],by rw [aD (aU q nT),q]; simp⟩) (λ m hm=>?_) (λ b o q=>?_) I.bare
   ·obtain ⟨o,es,ep,ho,r⟩:=hm;refine ⟨o,es,ep,kall _ o (λ hb=>?_) ho,r⟩;exact (hf _ hb).2.1 rfl
   ·by_cases hb:b=T
    ·subst hb;rw [aA] at q;cases q;exact ⟨by show 2<=P4; decide,[.int i t,.str ⟨#[c]⟩ u],.cons ⟨t,rfl⟩ (.cons ⟨u,rfl⟩ .nil),hIs''⟩
    ·rw [aD hb] at q;refine (I.hok b o q).stay (λ c' v hc' z=>kall c' v ?_ z) (λ c' z=>by rw [aD (aU z nT)]; exact z) λ c' xs z=>by rw [aD (aU z nT)]; exact z
     rcases hc' with rfl | hc'
     ·exact nfp _ _ q
     ·exact nfp _ _ hc'
  refine ⟨.ref T,upd H T (.tup [.int (i:Nat),.str ⟨#[c]⟩]),J,rfl,⟨T,c,nT,hcx,rfl,rfl⟩,st'',λ b hb=>?_⟩;have nb:b≠T:=λ z=>aT (by rw [<- z]; exact hb);rw [aD nb]; exact (hf b hb).1
 done:=by
  intro X hP hw hK hc i pz s σ H E I hf st hg;subst hP hw hK;have W:=WalksT.enumerateD (prog:=X.prog) (w:=X.w) (A:=X.A) (D X.A.in1 (I.ok.hd hc)) e hei (by simpa using hei) (by simp);have hg':i=x.cps.size:=hg;rw [hg'] at st;refine W.done s _ _ st λ h' tk kp=>⟨rfl,?_⟩;have nfp:∀ b o,H b=some o->b∉[e,it]:=λ b o q hb=>by rw [(hf b hb).1] at q; cases q
  refine I.step (h':=h') (g':=s.gens) (d':=s.drawn) (t':=tk) (ch:=[e,it]) (λ b hb=>⟨(hf b hb).2.2.2.1,(hf b hb).2.1,(hf b hb).2.2.2.2.1,(hf b hb).2.2.2.2.2⟩)
   (λ b o _ _ hb q _=>kp b o hb q) (λ b o _ _ hb q _=>⟨o.slots,kp b o hb q⟩) (λ _ _ _ _ n=>n) (λ b o hb q=>⟨o,kp b o hb q⟩)
   (λ _ _ q=>q) (λ _ _ _ q=>q) (λ b ps q=>⟨#[],by rw [q]; simp⟩) (λ m hm=>?_) (λ b o q=>?_) I.bare
  ·obtain ⟨o,es,ep,ho,r⟩:=hm;exact ⟨o,es,ep,kp _ o (λ hb=>(hf _ hb).2.1 rfl) ho,r⟩
  ·refine (I.hok b o q).stay (λ c' v hc' z=>kp c' v ?_ z) (λ _ z=>z) λ _ _ z=>z;rcases hc' with rfl | hc'
   ·exact nfp _ _ q
   ·exact nfp _ _ hc'
 self:=λ A i s Q E st h=>by
  obtain ⟨⟨old,he⟩,hs⟩:=st;exact wpAny_pyIter_enum he h
variable {X:Cx} {B:Bd} {a:Expr} {fs:En->Option (List PD)} {pos pp:Pos}
def enS (ds:List PD):Option (List PD):=match ds with
 | [.str x]=>some (qa (Bi x) 0)
 | _=>none
theorem DD:ItP K (Ite x) F (qa (Bi x) 0):=λ F1 H1 i s1 s2=>by
 have hl:(qa (Bi x) 0).length=x.cps.size:=by rw [uY]; unfold Bi; rw [PJ,Array.length_toList]
 refine ⟨λ d e=>?_,λ e=>by show i=_; rw [e,hl]⟩;have hi:i < x.cps.size:=by rw [<- hl]; exact (PR.mp e).1
 refine ⟨hi,λ v H2 y=>?_⟩;obtain ⟨T,c,hT,hc,rfl,rfl⟩:=y;obtain ⟨cd,h1,h2⟩:=xX _ _ _ _ e
 have:cd=.str ⟨#[c]⟩:=by
  unfold Bi at h1;rw [P9] at h1;have hc':x.cps.toList[i]?=some c:=by simpa using hc
  rw [hc'] at h1;exact (Option.some.inj h1).symm
 subst this;rw [Nat.zero_add] at h2;subst h2;have g:=Gr.one (o:=.tup [.int (i:Nat),.str ⟨#[c]⟩]) s2 hT;exact ⟨_,g,kF (SqT.of aA) (.cons dQ (.cons sF .nil))⟩
theorem I.enum {elts:List Expr} {k:Nat} {tp:Pos} (hc:X.calm=true) (hm:X.mg "enumerate" = none) (ha:A X B [a] fs) (hg:Gl X "enumerate" := by rfl) (hs:PX [a] X.env=[(false,eval a X.env)]:=by exact bS rfl) :
  I X B (.Tuple elts k tp) (.Call (.Name "enumerate" pp) [a] [] pos) (λ η=>(fs η).bind enS):=by
 intro pz s σ H R I ⟨F,η,ds,sr,hd,q⟩;obtain ⟨es,h1,hd⟩:=ac hd;unfold enS at hd;split at hd
 ·rename_i x;cases hd;refine Call_ (uv I hg hm boot_enumerate (PyProof.Rows.callWith_type1 (thn (ha pos pz s σ H (λ vs H1=>∃ F',Gr F H F' H1/\RelL X.K F' [.str x] vs) I ⟨F,η,_,sr,h1,λ vs F' H' g r=>⟨F',g,r⟩⟩) λ us s1 ⟨vs,H1,I1,r1,F1,g1,rl⟩=>?_) hs rfl));obtain ⟨y,r,rfl,ry,rr⟩:=rl.cons_of;obtain rfl:=rr.nil_of;obtain ⟨u,rfl,ru⟩:=sU r1;rw [ry.str] at ru;obtain ⟨t,rfl⟩:=ru;refine call_enumerate_str λ h' he hit hsz hk=>?_;refine wpAny_pyIter_enum he ?_;have I2:Inv X pz σ H1 { s1 with heap:=h' }:=I1.kept (t':=s1.toks) hk;have nw:∀ b,s1.heap.objs.size<=b->uR X pz H1 b:=λ b hb=>I1.fpOk hb (I1.hok.fresh hb);have fpo:∀ b∈[s1.heap.objs.size+1,s1.heap.objs.size],uR X pz H1 b:=λ b hb=>by
   rcases Qh.mp hb with rfl | hb
   ·exact nw _ (RA _)
   ·rw [Qt.mp hb]; exact nw _ (PV _)
  have cel:∀ (ty:String) (i:Nat) (h:Heap),h.IsStrIter s1.heap.objs.size ty x t i->∃ o,h.get? s1.heap.objs.size=some o/\∀ v,o.data≠.cell v:=λ ty i h st=>by
   obtain ⟨o,ho,hcl,hd⟩:=st;exact ⟨o,ho,λ v z=>by rw [hd] at z; cases z⟩
  cases ha':x.cps.all (· < 128)
  ·have hit':h'.IsStrIter s1.heap.objs.size "str_iterator" x t 0:=by simpa [strIterType,ha'] using hit
   exact ⟨_,_,_,_,H1,rfl,I2,Bf (Nat.succ_ne_self _) (λ A hA=>Draws.strWide hA _ x t) (cel _),⟨⟨_,he⟩,hit'⟩,fpo,q _ F1 H1 g1 DD⟩
  ·have hit':h'.IsStrIter s1.heap.objs.size "str_ascii_iterator" x t 0:=by simpa [strIterType,ha'] using hit
   exact ⟨_,_,_,_,H1,rfl,I2,Bf (Nat.succ_ne_self _) (λ A hA=>Draws.strAscii hA _ x t) (cel _),⟨⟨_,he⟩,hit'⟩,fpo,q _ F1 H1 g1 DD⟩
 ·cases hd
end
theorem JG {a b:Str} (h:a.cps.toList=b.cps.toList):a=b:=by
 obtain ⟨a⟩:=a;obtain ⟨b⟩:=b
 have:a=b:=Array.toList_inj.mp h
 rw [this]
def t7 (ns:List Int):List Int:=ns.mergeSort λ a b=>decide (a<=b)
theorem Fq (ns:List Int):(t7 ns).Pairwise (·<=·):=by
 have h:=List.pairwise_mergeSort (le:=λ (a b:Int)=>decide (a<=b)) (λ a b c h k=>by simp at h k ⊢; omega) (λ a b=>by simp; omega) ns;exact h.imp λ h=>by simpa using h
theorem Gs {ns ms:List Int} (p:ms.Perm ns) (h:ms.Pairwise (·<=·)):ms=t7 ns :=
 List.Perm.eq_of_pairwise (le:=(·<=·)) (λ a b _ _ h k=>by omega) h (Fq ns) (p.trans (Rk ns _).symm)
section
variable {X:Cx}
variable {B:Bd} {a b e:Expr} {es:List Expr} {f g:En->Option PD} {fs:En->Option (List PD)} {pos pp apos cpos:Pos}
def N0 (K:PH):V->List V->Hp->VK->Prop:=λ x vs H Q=>∃ l xs y j,x=.ref l/\vs=[y]/\SqL K H l xs/\p9 y=true/\xs.all p9=true/\xs.findIdx? (λ z=>eqV z y)=some j/\Q (.int (j:Nat)) H
theorem Mw:MtM X "list.index" (N0 X.K):=by
 intro pz s σ H x vs v us Q I rx rv h;obtain ⟨l,xs,y,j,rfl,rfl,hq,fy,fxs,hj,q⟩:=h;cases rx;obtain ⟨u,rfl,ru⟩:=rv.one;obtain ⟨its,r,⟨⟨c2,d2,t2,sl2⟩,n2,e2,ec2,ed2,es2⟩,z2⟩:=I.list hq;simp only at ec2 ed2 es2;subst ec2 ed2 es2;have hl:=r.length;obtain ⟨hlt,h1,h2⟩:=List.findIdx?_eq_some_iff_getElem.mp hj;have at':∀ (m:Nat) (hm:m < xs.length),eqU y (its[m]'(by omega))=eqV xs[m] y:=λ m hm=>by
  obtain ⟨w,hw,rw'⟩:=r.get (i:=m) (x:=xs[m]) (Qk hm)
  have:its[m]'(by omega)=w:=by
   rw [Qk (by omega)] at hw;exact Option.some.inj hw
  rw [this];exact Ck rw' (Ri.mp fxs _ (List.getElem_mem hm))
 have hn:=wa;refine call_meets F.slot_list_index ⟨_,e2,rfl⟩ F.entry_list_index (F.args_list_index_2 _ _) (SeqAt.list_indexAt l its.toArray n2 none sl2 u (eqU y) j (by simp; omega) (by omega) ?_ ?_) ⟨e2,λ w hw=>pL ru fy r fxs w (by simpa using hw),?_⟩
 ·have:=at' j hlt
  simpa [this] using h1
 ·intro m hm hmj;have hm':m < xs.length:=by simp at hm; omega
  have:=at' m hm'
  have h3:=h2 m hmj;simpa [this] using h3
 ·exact ⟨.int (j:Nat),H,I.tok _,⟨_,rfl⟩,q⟩
end
def Cn (N:List Str) (sc scope:Scope) (N':List Str) (mp:List (Option Nat)):Bool :=
 decide (scope.kind=.function)&&decide (sc.kind=.function)&&decide (∀ x∈scope.names,x.2≠.cell)&&decide (∀ x∈scope.names,x.2=.local->scope.names.lookup x.1=some .local) &&
 decide (∀ x∈scope.names,x.2=.free->sc.names.lookup x.1=some .cell)&&decide (mp.length=N'.length) &&
 (N'.zip mp).all λ p=>match p.2 with
  | none=>true
  | some j=>decide (N[j]?=some p.1)&&decide (scope.names.lookup p.1=some .free)
theorem oO {env:Env} (hk:env.scope.kind=.function):∀ {names:List (Str×NameKind)} {x:Str},names.lookup x=some .free->env.kindOf x=some .cell ->
  (names.map λ (n,k)=>if (k==NameKind.free&&env.scope.kind==.function&&env.kindOf n==some .cell) then (n,NameKind.cell) else (n,k)).lookup x=some .cell
 | [],_,h,_=>by simp at h
 | (n,k)::r,x,h,hc=>by
  have ih:=@oO env hk r x;show Rl x ((if (k==NameKind.free&&env.scope.kind==.function&&env.kindOf n==some .cell)=true then (n,NameKind.cell) else (n,k))::_)=_;cases hx:x==n with
  | true =>
   have en:x=n:=by simpa using hx
   subst en;simp only [Ra,hx] at h;cases h;rw [if_pos (by rw [hk,hc]; rfl)];simp [Ra]
  | false =>
   simp only [Ra,hx] at h
   split <;> simp only [Ra,hx] <;> exact ih h hc
theorem CompSc.of (h:Cn X.N X.env.scope scope N' mp=true):CompSc X scope N' mp:=by
 unfold Cn at h;simp only [Qp,decide_eq_true_eq] at h;obtain ⟨⟨⟨⟨⟨⟨h1,h0⟩,h2⟩,h3⟩,h4⟩,h5⟩,h6⟩:=h;refine ⟨h1,h2,h3,λ x hx hf=>.inl (h4 x hx hf),h5,λ i x j e1 e2=>?_⟩;have hm:(x,some j)∈N'.zip mp:=by
  have:(N'.zip mp)[i]?=some (x,some j):=by rw [List.getElem?_zip_eq_some]; exact ⟨e1,e2⟩
  exact RX this
 have h7:=Ri.mp h6 _ hm;simp only [Qp,decide_eq_true_eq] at h7;have hmem:(x,NameKind.free)∈scope.names:=PySem.mem_of_lookup h7.2;exact ⟨h7.1,hmem,.inl (oO h0 h7.2 (h4 _ hmem rfl))⟩
theorem kU {i:Int} {t:Tok} (hm:X.mg x=some (.int i t)) (hg:Gl X x:=by rfl) (hd:Nd x:=by decide):E X B (.Name x pos) (eC (.int i)):=E.glob hm (v:=.int i) ⟨t,rfl⟩ (λ _=>dQ) hg hd
theorem E.globS {i:Str} {t:Tok} (hm:X.mg x=some (.str i t)) (hg:Gl X x:=by rfl) (hd:Nd x:=by decide):E X B (.Name x pos) (eC (.str i)):=E.glob hm (v:=.str i) ⟨t,rfl⟩ (λ _=>sF) hg hd
theorem JC {t:En->PD->Option En}:∀ η ds η',bG t kX η ds=some η'->ds.length=1:=λ η ds η' h=>by
 match ds,h with
 | [_],_=>rfl
 | _::_::_,h=>obtain ⟨_,_,h⟩:=ac h; cases h
theorem uT {t u:En->PD->Option En}:∀ η ds η',bG t (bG u kX) η ds=some η'->ds.length=2:=λ η ds η' h=>by
 match ds,h with
 | d::r,h =>
  obtain ⟨η1,_,h⟩:=ac h;rw [P8,JC _ _ _ h]
theorem bp (N:List Str) (sc:Scope) (hN:X.N=N) (hs:X.env.scope=sc) (h:Cn N sc scope N' mp=true):CompSc X scope N' mp:=CompSc.of (by rw [hN,hs]; exact h)
def tyD:PD->String
 | .none => "NoneType"
 | .bool _ => "bool"
 | .int _ => "int"
 | .str _ => "str"
 | .list _ => "list"
 | .tuple _ => "tuple"
 | .dict _ => "dict"
def isB (T:String) (d:PD):Bool:=match d with
 | .bool _=>T == "bool" || T == "int"
 | d=>tyD d==T
section
variable {X:Cx}
variable {B:Bd} {a b e:Expr} {es:List Expr} {f g:En->Option PD} {fs:En->Option (List PD)} {pos pp tp apos cpos pos':Pos} {sts:List Stmt} {u:En->Option Out} {p:En->Option Bool}
def Ja:List PD->Option (List Bool)
 | []=>some []
 | .bool i::r=>(Ja r).bind λ ns=>some (i::ns)
 | _::_=>none
theorem BC:∀ {ds:List PD} {ns:List Bool},Ja ds=some ns->ds=ns.map PyData.bool
 | [],ns,h=>by cases h; rfl
 | .bool i::r,ns,h=>by
  obtain ⟨ms,h1,h2⟩:=ac h;cases h2;rw [BC h1]; rfl
 | .none::_,_,h=>by cases h
 | .str _::_,_,h=>by cases h
 | .int _::_,_,h=>by cases h
 | .list _::_,_,h=>by cases h
 | .tuple _::_,_,h=>by cases h
 | .dict _::_,_,h=>by cases h
theorem Fa (ns:List Bool):Ja (ns.map PyData.bool)=some ns:=by
 induction ns with
 | nil=>rfl
 | cons n r ih=>rw [P2]; unfold Ja; rw [ih]; rfl
theorem RelL.bools_of {K:PH} {F:Hp}:∀ {ns:List Bool} {xs:List V},RelL K F (ns.map PyData.bool) xs->xs=ns.map V.bl
 | [],xs,h=>h.nil_of
 | n::r,xs,h=>by
  obtain ⟨x,ys,rfl,h1,h2⟩:=h.cons_of;rw [h1.bl,RelL.bools_of h2]; rfl
theorem Gy (bs:List Bool):(List.range bs.length).any (λ i=>bs.getD i false)=bs.any id:=by
 rw [Rc,List.any_eq_true,List.any_eq_true]
 constructor
 ·rintro ⟨i,hi,h⟩
  have hi:=QN.mp hi;rw [Qy,Qk hi] at h;exact ⟨_,List.getElem_mem hi,h⟩
 ·rintro ⟨x,hx,h⟩
  obtain ⟨i,hi,rfl⟩:=List.mem_iff_getElem.mp hx;exact ⟨i,QN.mpr hi,by rw [Qy,Qk hi]; exact h⟩
def Hw (K:PH) (r:List Bool->Bool):List V->Hp->VK->Prop:=λ xs H Q=>∃ (p:Qd) (bs:List Bool),xs=[.ref p]/\SqL K H p (bs.map V.bl)/\Q (.bl (r bs)) H
theorem E6 (hc:X.calm=true) {s:PQ} {p:Qd} {bs:List Bool} {Q:Bool->PP->PQ->Prop} {r:(Nat->Bool)->Nat->Bool} (I:Inv X pz σ H s) (hq:SqL X.K H p (bs.map V.bl))
  (hQ:∀ h' tk,(∀ b o,s.heap.get? b=some o->h'.get? b=some o)->Q true (.bool (r (λ i=>bs.getD i false) bs.length)) { s with heap:=h',toks:=tk }) :
  Qs (Qq X.prog X.w) X.A.in1 (pyIter (.ref p)) (λ it s₂=>∃ I fp wr n P St tr,it=.ref I/\Walks X.prog X.w X.A.in1 I fp wr n P St/\St 0 s₂.heap/\TruthOf X.prog X.w X.A.in1 P tr /\
   ∀ h' tk,(∀ b o,b∉wr->s₂.heap.get? b=some o->h'.get? b=some o)->Q true (.bool (r tr n)) { s₂ with heap:=h',toks:=tk }) X.xe s:=by
 obtain ⟨its,rv,pl,hz⟩:=I.list hq;have hl:=rv.length;rw [PJ] at hl;have hlt:p < s.heap.objs.size:=by
  obtain ⟨o,ho,_⟩:=pl.isList;exact Qb ho
 refine wpAny_pyIter_list pl.isList ?_;refine ⟨s.heap.objs.size,_,_,_,_,_,λ i=>bs.getD i false,rfl,Walks.list (A:=X.A.in1) (I.ok.hd hc) s.heap.objs.size p (Qm hlt) its.toArray,⟨⟨_,Qn _ rfl,rfl,rfl⟩,pl.isList.at λ o e=>PZ _ e⟩,?_,λ h' tk hk=>?_⟩
 ·intro i v s' Q' E' hv hq';have hv':its[i]?=some v:=by simpa using hv
  obtain ⟨hi,_⟩:=PR.mp hv';have hn:bs[i]?=some bs[i]:=Qk (by omega);obtain ⟨w,hw,rw'⟩:=rv.get (i:=i) (x:=.bl bs[i]) (by rw [P9,hn]; rfl);rw [hv'] at hw;cases hw;cases rw';have e:bs.getD i false=bs[i]:=by rw [Qy,hn]; rfl
  rw [show (λ i=>bs.getD i false) i=bs[i] from e] at hq';exact wpAny_truthy_bool hq'
 ·have e:its.toArray.size=bs.length:=by rw [P6]; exact hl.symm
  rw [e];refine hQ h' tk λ b o eb=>hk b o ?_ (PZ _ eb);intro hb;exact absurd (Qb eb) (by rw [Qt.mp hb]; exact QY _)
theorem IW (hc:X.calm=true):CallR X (.builtin "any") (Hw X.K λ bs=>bs.any id):=by
 intro pz s σ H xs us Q I r h;obtain ⟨p,bs,rfl,hq,q⟩:=h;obtain ⟨u,rfl,rx⟩:=sU r;cases rx;refine call_any_walk (E6 hc (Q:=λ _ v s'=>EP X pz σ Q v s') (r:=λ tr n=>(List.range n).any tr) I hq λ h' tk k=>?_);rw [Gy];exact ⟨.bl _,H,I.kept k,rfl,q⟩
def B0 (r:List Bool->Bool) (ds:List PD):Option PD:=match ds with
 | [.list xs]=>(Ja xs).bind λ bs=>some (.bool (r bs))
 | _=>none
theorem Jf {r:List Bool->Bool}:AdA K (Hw K r) (B0 r):=λ F H xs ds d Q sm rs e q=>by
 unfold B0 at e;split at e
 ·obtain ⟨bs,h1,h2⟩:=ac e;cases h2
  have:=BC h1
  subst this;obtain ⟨x,r,rfl,rx,rr⟩:=rs.cons_of;obtain rfl:=rr.nil_of;obtain ⟨a,ys,rfl,hq,r1⟩:=rx.lst
  have:=r1.bools_of
  subst this;exact ⟨a,bs,rfl,sm.seq hq,q _ F H (.refl sm) fE⟩
 ·cases e
def HY:=B0 λ bs=>bs.any id
theorem E.any (hc:X.calm=true) (hm:X.mg "any" = none) (ha:A X B [e] fs) (hg:Gl X "any" := by rfl) (he:PX [e] X.env=(false,eval e X.env)::PX [] X.env:=by exact bS rfl) (hpl:(backTo pos (PX [] X.env)).any (·.1)=false:=by rfl):E X B (.Call (.Name "any" pp) [e] [] pos) (lA HY fs) :=
 E.callB (IW hc) Jf hm (by decide +kernel) ha hg (by decide) (by decide) he hpl
def GD (ds:List PD):Option PD:=match ds with
 | [.int i,.int j]=>some (.int (if j > i then j else i))
 | _=>none
def GC (ds:List PD):Option PD:=match ds with
 | [.int i,.int j]=>some (.int (if j < i then j else i))
 | _=>none
theorem Jc {g:Int->Int->Int}:AdA K (λ xs H Q=>∃ i j,xs=[.int i,.int j]/\Q (.int (g i j)) H) (λ ds=>match ds with | [.int i,.int j]=>some (.int (g i j)) | _=>none):=λ F H xs ds d Q sm rs e q=>by
 dsimp only at e;split at e
 ·cases e;obtain ⟨x,r,rfl,rx,rr⟩:=rs.cons_of;obtain ⟨y,r2,rfl,ry,rr2⟩:=rr.cons_of;obtain rfl:=rr2.nil_of;exact ⟨_,_,by rw [rx.int,ry.int],q _ F H (.refl sm) dQ⟩
 ·cases e
theorem E.max (hc:X.calm=true) (hm:X.mg "max" = none) (ha:A X B [a,b] fs) (hg:Gl X "max" := by rfl) (he:PX [a,b] X.env=(false,eval a X.env)::PX [b] X.env:=by rfl) (hpl:(backTo pos (PX [b] X.env)).any (·.1)=false:=by rfl):E X B (.Call (.Name "max" pp) [a,b] [] pos) (lA GD fs) :=
 E.callB (GZ hc) Jc hm (by decide +kernel) ha hg (by decide) (by decide) he hpl
theorem E.min (hc:X.calm=true) (hm:X.mg "min" = none) (ha:A X B [a,b] fs) (hg:Gl X "min" := by rfl) (he:PX [a,b] X.env=(false,eval a X.env)::PX [b] X.env:=by rfl) (hpl:(backTo pos (PX [b] X.env)).any (·.1)=false:=by rfl):E X B (.Call (.Name "min" pp) [a,b] [] pos) (lA GC fs) :=
 E.callB (GY hc) Jc hm (by decide +kernel) ha hg (by decide) (by decide) he hpl
def ul (ds:List PD):Option PD:=match ds with
 | [.int i]=>some (.int i)
 | [.bool k]=>some (.int (if k then 1 else 0))
 | _=>none
theorem Je:AdA K (λ xs H Q=>(∃ i,xs=[.int i]/\Q (.int i) H)\/∃ k,xs=[.bl k]/\Q (.int (if k then 1 else 0)) H) ul:=λ F H xs ds d Q sm rs e q=>by
 unfold ul at e;split at e
 ·cases e;obtain ⟨x,r,rfl,rx,rr⟩:=rs.cons_of;obtain rfl:=rr.nil_of;exact .inl ⟨_,by rw [rx.int],q _ F H (.refl sm) dQ⟩
 ·cases e;obtain ⟨x,r,rfl,rx,rr⟩:=rs.cons_of;obtain rfl:=rr.nil_of;exact .inr ⟨_,by rw [rx.bl],q _ F H (.refl sm) dQ⟩
 ·cases e
theorem E.toInt (hm:X.mg "int" = none) (ha:A X B [e] fs) (hg:Gl X "int" := by rfl) (he:PX [e] X.env=(false,eval e X.env)::PX [] X.env:=by exact bS rfl) (hpl:(backTo pos (PX [] X.env)).any (·.1)=false:=by rfl):E X B (.Call (.Name "int" pp) [e] [] pos) (lA ul fs) :=
 E.callTy Bw Je hm (by decide +kernel) ha hg (by decide) (by decide) he hpl
def sWh (c:En->Option Bool) (body:En->Option Out):Nat->En->Option Out
 | 0,_=>none
 | n+1,η=>(c η).bind λ b=>if b=true then (body η).bind λ o=>match o with
  | .nx η'=>sWh c body n η'
  | .ct η'=>sWh c body n η'
  | .bk η'=>some (.nx η')
  | .rt d=>some (.rt d) else some (.nx η)
theorem S.while (n:Nat) {c:Expr} (hp:PassesOwn (Qq X.prog X.w) X.A X.env X.xe) (hc:T X B c p) (hb:Ss X B sts u):S X B (.While c sts [] pos) (sWh p u n):=PS.imp (Da hp hc hb) λ D σ H ⟨F,η,o,sr,hd,q⟩=>by
 refine ⟨λ m σ H=>∃ Fc ηc,SR X.K B Fc H σ ηc/\Same F Fc/\sWh p u m ηc=some o,⟨n,F,η,sr,.refl _,hd⟩,?_⟩
 rintro m σc Hc ⟨Fc,ηc,src,sc,hgo⟩
 cases m with
 | zero=>cases hgo
 | succ m =>
  unfold sWh at hgo;obtain ⟨b,hb',hgo⟩:=ac hgo;refine ⟨Fc,ηc,b,src,hb',λ F1 H1 g1=>?_⟩;cases b with
  | false =>
   rw [if_neg PN] at hgo;cases hgo;refine MQ ?_;exact q σc F1 H1 (src.grow g1) (sc.trans g1.ff)
  | true =>
   rw [if_pos rfl] at hgo;refine MP ?_;obtain ⟨o1,e2,hgo⟩:=ac hgo;refine ⟨λ σ' H'=>∃ m',m' < m+1/\∃ Fc ηc,SR X.K B Fc H' σ' ηc/\Same F Fc/\sWh p u m' ηc=some o,λ σ' H' z=>z,F1,ηc,o1,src.grow g1,e2,?_⟩;have s1:Same F F1:=sc.trans g1.ff;cases o1 with
   | nx η2=>exact λ σ' F' H' r s=>⟨m,Q3 _,F',η2,r,s1.trans s,hgo⟩
   | ct η2=>exact λ σ' F' H' r s=>⟨m,Q3 _,F',η2,r,s1.trans s,hgo⟩
   | bk η2 =>
    cases hgo;exact λ σ' F' H' r s=>q σ' F' H' r (s1.trans s)
   | rt d =>
    cases hgo;exact q
end
section
variable {X:Cx} {B:Bd} {e:Expr} {f:En->Option PD} {tg:Expr}
end
section
variable {X:Cx} {B:Bd} {a b e:Expr} {f g:En->Option PD} {apos cpos:Pos}
end
section
variable {X:Cx} {B:Bd} {a b e:Expr} {f g:En->Option PD} {pos:Pos}
def MU:PD->Bool
 | .none=>true
 | _=>false
def jB (neg:Bool) (x y:PD):Option PD:=match y with
 | .none=>some (.bool (if neg then !MU x else MU x))
 | _=>none
theorem FP {d:PD} {x:V} (r:Rel K F d x):decide (x=.non)=MU d:=by
 cases d with
 | none=>rw [r.non]; rfl
 | bool b=>rw [r.bl]; rfl
 | int i=>rw [r.int]; rfl
 | str s=>rw [r.str]; rfl
 | list ds=>obtain ⟨a,xs,rfl,_⟩:=r.lst; rfl
 | tuple ds=>obtain ⟨a,xs,rfl,_⟩:=r.tup; rfl
 | dict es=>obtain ⟨a,xs,rfl,_⟩:=r.dct; rfl
theorem Fd:Ad2 K (λ x y H Q=>y=.non/\Q (.bl (decide (x=.non))) H) (jB false):=λ F H x y dx dy d Q sm rx ry e q=>by
 unfold jB at e;split at e
 ·cases e;refine ⟨ry.non,?_⟩;rw [FP rx];exact q _ F H (.refl sm) fE
 ·cases e
theorem Cy:Ad2 K (λ x y H Q=>y=.non/\Q (.bl (!decide (x=.non))) H) (jB true):=λ F H x y dx dy d Q sm rx ry e q=>by
 unfold jB at e;split at e
 ·cases e;refine ⟨ry.non,?_⟩;rw [FP rx];exact q _ F H (.refl sm) fE
 ·cases e
theorem T.isN (ha:E X B a f) (hb:E X B b g) (hm:QH .Is b=false:=by rfl):T X B (.Compare a [.Is] [b] pos) (bT (l2 (jB false) f g)):=T.cmp Et Fd hm ha hb
theorem T.notN (ha:E X B a f) (hb:E X B b g) (hm:QH .IsNot b=false:=by rfl):T X B (.Compare a [.IsNot] [b] pos) (bT (l2 (jB true) f g)):=T.cmp B1 Cy hm ha hb
end
def Itv (K:PH) (a:Qd) (n:Nat):It :=
 ⟨λ i H=>i < n/\∃ xs x,SqL K H a xs/\xs[n - 1 - i]?=some x,λ i H x H'=>H'=H/\∀ xs,SqL K H a xs->xs[n - 1 - i]?=some x,λ i _=>i=n⟩
theorem G9 {P:Ql} (a it:Qd) (n:Nat):Turn P w K tg (Itv K a n) [it] it (λ i h=>h.IsRevIter it a ((n:Int) - 1 - (i:Nat))) where
 mem:=by simp
 obj:=λ i h st b hb=>by
  have e:b=it:=by simpa using hb
  subst e;obtain ⟨o,e,c,d⟩:=st;exact ⟨o,e,λ v z=>by rw [d] at z; cases z⟩
 keep:=λ i h h' st k=>st.at λ o e=>k it (by simp) o e
 item:=by
  intro X hP hw hK hc i pz s σ H E I hf st hg;subst hP hw hK;obtain ⟨hi,xs,x,hq,hx⟩:=hg;obtain ⟨its,rv,p,hz⟩:=I.list hq;obtain ⟨u,hu,ru⟩:=rv.get hx;obtain ⟨f0,f1,f2,f3,f4,f5⟩:=hf it (by simp);have ei:(n:Int) - 1 - (i:Nat)=((n - 1 - i:Nat):Int):=by omega
  rw [ei] at st;refine wpAny_pyNext_rev_item st p.isList (x:=u) (by simpa using hu) λ h' st' sb=>?_;have I1:Inv X pz σ H { s with heap:=h' }:=I.turned (t':=s.toks) (λ b o hb e=>(sb.2 b hb).trans e) f0 f1 f3 f4 f5;have st2:h'.IsRevIter it a ((n:Int) - 1 - ((i+1:Nat):Nat)):=by
   have e2:((n - 1 - i:Nat):Int) - 1=(n:Int) - 1 - ((i+1:Nat):Nat):=by omega
   rw [<- e2]; exact st'
  obtain ⟨o,e,c,d⟩:=id st';exact ⟨u,rfl,F6 (s:={ s with heap:=h' }) e c d (by decide) ⟨x,H,I1,ru,⟨rfl,λ ys hy=>by rw [I.list_inj hy hq]; exact hx⟩,st2,λ b hb=>(hf b hb).1⟩⟩
 done:=by
  intro X hP hw hK hc i pz s σ H E I hf st hg;subst hP hw hK;obtain ⟨f0,f1,f2,f3,f4,f5⟩:=hf it (by simp);have hg:i=n:=hg;have ei:(n:Int) - 1 - (i:Nat)=-1:=by omega
  rw [ei] at st;exact wpAny_pyNext_rev_end (I.ok.hd hc) st λ h' eb=>⟨rfl,I.turned (t':=s.toks) (λ b o hb e=>eb b o hb e) f0 f1 f3 f4 f5⟩
 self:=λ _ _ _ _ _ st h=>wpAny_pyIter_revIter st h
section
variable {X:Cx} {B:Bd} {a:Expr} {fs:En->Option (List PD)} {pos pp:Pos}
def rvS (ds:List PD):Option (List PD):=match ds with
 | [.list xs]=>some xs.reverse
 | _=>none
theorem Kx (hq:SqL K F p xs) (rs:RelL K F ds xs):ItP K (Itv K p ds.length) F ds.reverse:=λ F1 H1 i s1 s2=>by
 refine ⟨λ d e=>?_,λ e=>by show i=ds.length; rw [e,QJ]⟩;have hi:i < ds.length:=by
  have:=(PR.mp e).1
  rwa [QJ] at this
 rw [List.getElem?_reverse hi] at e;obtain ⟨x,hx,rx⟩:=rs.get e;have hq1:SqL K H1 p xs:=s2.seq (s1.seq hq);refine ⟨⟨hi,xs,x,hq1,hx⟩,λ v H2 y=>?_⟩;obtain ⟨rfl,y⟩:=y
 have:=(y xs hq1).symm.trans hx
 cases this;exact ⟨F1,.refl s2,rx.mono s1⟩
theorem I.rev {tg:Expr} (hc:X.calm=true) (hm:X.mg "reversed" = none) (ha:A X B [a] fs) (hg:Gl X "reversed" := by rfl) (hs:PX [a] X.env=[(false,eval a X.env)]:=by exact bS rfl) :
  I X B tg (.Call (.Name "reversed" pp) [a] [] pos) (λ η=>(fs η).bind rvS):=by
 intro pz s σ H R I ⟨F,η,ds,sr,hd,q⟩;obtain ⟨es,h1,hd⟩:=ac hd;unfold rvS at hd;split at hd
 ·rename_i x;cases hd;refine Call_ (uv I hg hm (show bootBuiltins "reversed" = some (.type "reversed") by decide +kernel) (PyProof.Rows.callWith_type1 (thn (ha pos pz s σ H (λ vs H1=>∃ F',Gr F H F' H1/\RelL X.K F' [.list x] vs) I ⟨F,η,_,sr,h1,λ vs F' H' g r=>⟨F',g,r⟩⟩) λ us s1 ⟨vs,H1,I1,r1,F1,g1,rl⟩=>?_) hs rfl));obtain ⟨y,r,rfl,ry,rr⟩:=rl.cons_of;obtain rfl:=rr.nil_of;obtain ⟨u,rfl,ru⟩:=sU r1;obtain ⟨p,xs,rfl,hq,rs⟩:=ry.lst;cases ru;obtain ⟨its,rv,pl,hz⟩:=I1.list (g1.fh.seq hq);refine call_reversed_list pl.isList ?_;have hl:its.toArray.size=x.length:=by
   have h1:=rv.length;have h2:=rs.length;rw [P6];omega
  have st:(s1.heap.push (revObj p ((its.toArray.size:Int) - 1))).IsRevIter s1.heap.objs.size p ((x.length:Int) - 1 - ((0:Nat):Nat)):=by
   refine ⟨_,Qn _ rfl,rfl,?_⟩;have e2:(its.toArray.size:Int) - 1=(x.length:Int) - 1 - ((0:Nat):Nat):=by rw [hl]; omega
   rw [<- e2]; rfl
  refine wpAny_pyIter_revIter st ?_;refine ⟨_,[s1.heap.objs.size],_,_,H1,rfl,I1.kept (t':=s1.toks) λ b o e=>PZ _ e,G9 p _ x.length,st,λ b hb=>?_,q _ F1 H1 g1 (Kx hq rs)⟩;rw [Qt.mp hb];exact I1.fpOk (PV _) (I1.hok.fresh (PV _))
 ·cases hd
end
section
variable {X:Cx} {B:Bd} {a b e:Expr} {f g:En->Option PD} {fs:En->Option (List PD)} {pos:Pos}
theorem RelL.rep (r:RelL K F ds xs):∀ k:Nat,RelL K F (Qf k ds).flatten (Qf k xs).flatten
 | 0=>by simpa using RelL.nil
 | k+1=>by
  rw [QO,QZ,QO,QZ];exact r.append (r.rep k)
def EV (fs:En->Option (List PD)) (g:En->Option PD):En->Option PD:=λ η=>(fs η).bind λ ds=>(g η).bind λ y=>(asI y).bind λ k =>
 if 0<=k/\k < 1000/\ds.length*k.toNat<=1000 then some (.list (Qf k.toNat ds).flatten) else none
theorem E.rep (ha:EO X B a fs) (hb:E X B b g):E X B (.BinOp a .Mult b pos) (EV fs g):=PE.imp (Dc H0 ha hb) λ σ H Q ⟨F,η,d,sr,hd,q⟩=>by
 obtain ⟨ds,hx,hd⟩:=ac hd;obtain ⟨y,hy,hd⟩:=ac hd;obtain ⟨k,hk,hd3⟩:=ac hd;obtain rfl:=xt hk;split at hd3
 ·rename_i hc;cases hd3;refine ⟨F,η,ds,sr,hx,λ p xs F1 H1 g1 hp fp hp' rs=>⟨F1,η,_,sr.grow g1,hy,λ v F2 H2 g2 rv=>?_⟩⟩;have hH:H2 p=some (.lst xs):=g2.hh p _ hp';have hz:xs.length*k.toNat<=1000:=by rw [rs.length]; exact hc.2.2
  refine ⟨p,k,xs,rfl,rv.int,hH,by omega,by omega,RC (Bh hz),λ l hl=>?_⟩;have g3:=Gr.one (o:=.lst (Qf k.toNat xs).flatten) g2.fh hl;exact q _ _ _ ((g1.trans g2).trans g3) (kG (SqL.of aA) ((rs.rep k.toNat).mono (g2.ff.trans g3.ff)))
 ·cases hd3
end
section
variable {X:Cx} {B:Bd} {e st:Expr} {f g:En->Option PD} {pos p2:Pos}
def pRv (x y:PD):Option PD:=match x with
 | .list ds=>(asI y).bind λ k=>if k=-1 then some (.list ds.reverse) else none
 | _=>none
theorem FJ {g:En->Option PD} {k:Int} (h:g η=some (.int k)):pS g η=some (some k):=by
 unfold pS;rw [h]; rfl
theorem E.slRev (he:E X B e f) (hs:E X B st g) (hsub:∀ o i,subscripted (.Slice none none (some st) p2) false o i=operate [o,i] (getItem o i):=by intro _ _; with_unfolding_all rfl):E X B (.Subscript e (.Slice none none (some st) p2) pos) (l2 pRv f g):=by
 intro pz s σ H Q I ⟨F,η,d,sr,hd,q⟩;obtain ⟨x,hx,hd⟩:=ac hd;obtain ⟨y,hy,hd2⟩:=ac hd;unfold pRv at hd2;split at hd2
 ·rename_i ds;obtain ⟨k,hk,hd3⟩:=ac hd2;obtain rfl:=xt hk;split at hd3
  ·rename_i hk1;subst hk1;cases hd3;refine Subscript_ (thn (he pz s σ H (λ v H1=>∃ F1,Gr F H F1 H1/\Rel X.K F1 (.list ds) v) I ⟨F,η,_,sr,hx,λ v F1 H1 g1 r=>⟨F1,g1,r⟩⟩) λ v s1 ⟨x,H1,I1,r1,F1,g1,rx⟩=>?_);refine wpAny_Slice ?_;rw [evalPart_none];refine Qe (Qe ?_);refine thn ((kA hs) pz s1 σ H1 (λ o H2=>∃ F2,Gr F1 H1 F2 H2/\o=some (-1)) I1 ⟨F1,η,some (-1),sr.grow g1,FJ hy,λ F2 H2 g2=>⟨F2,g2,rfl⟩⟩) λ vs s2 ⟨o,H2,I2,ps,F2,g2,eo⟩=>?_;subst eo;have I4:Inv X pz σ H2 { s2 with heap:=s2.heap.push { cls:=.type "slice", data:=.fields #[.none,.none,vs] } }:=I2.kept (t':=s2.toks) λ b ob q=>PZ _ q;obtain ⟨a,xs,rfl,hq,rs⟩:=rx.lst;cases r1;obtain ⟨its,r,ht,hz⟩:=I4.list (g2.hh.seq (g1.fh.seq hq));have hlen:=r.length;show Qs (Qq X.prog X.w) X.A (subscriptTail e (.Slice none none (some st) p2) (.ref a) (.ref s2.heap.objs.size)) (EP X pz σ Q) X.xe { s2 with heap:=s2.heap.push { cls:=.type "slice", data:=.fields #[.none,.none,vs] } };refine tail_any (ops:=[.ref a,.ref s2.heap.objs.size]) ht.isList.typeIs slot_list_getitem.lookup ?_ (hsub _ _);refine wpAny_getItem_list_slice ht.isList (Heap.IsSliceOf.new ..) .none .none ps (by decide) ?_ (by rw [P6] <;> omega);rw [PySem.W.krv_pick,show its.toArray.toList.reverse=its.reverse by simp];have g3:∀ l,H2 l=none->Gr F2 H2 (upd F2 l (.lst xs.reverse)) (upd H2 l (.lst xs.reverse)):=λ l hl=>Gr.one g2.fh hl;refine ⟨.ref _,_,I4.laid (t':=s2.toks) (o:=.lst xs.reverse) (λ b ob q=>PZ _ q) (PV _) ?_,rfl,q _ _ _ ((g1.trans g2).trans (g3 _ (I4.hok.fresh (PV _)))) (kG (SqL.of aA) (rs.reverse.mono (g2.ff.trans (g3 _ (I4.hok.fresh (PV _))).ff)))⟩;refine ⟨by rw [QJ]; exact hz,its.reverse,0,?_,Qn _ rfl⟩;exact r.reverse
  ·cases hd3
 ·cases hd2
end
section
variable {X:Cx} {B:Bd} {pos pp:Pos}
end
def FY:PD->Option Key
 | .int i=>some (.inl i)
 | .str x=>some (.inr x)
 | _=>none
theorem Dz (k:Key):FY (kD k)=some k:=by cases k <;> rfl
theorem JP {d:PD} {k:Key} {v:V} (h:FY d=some k) (r:Rel K F d v):v=kV k:=by
 cases d with
 | int i=>cases h; rw [r.int]; rfl
 | str x=>cases h; rw [r.str]; rfl
 | none=>cases h
 | bool b=>cases h
 | list ds=>cases h
 | tuple ds=>cases h
 | dict es=>cases h
def JU (kvs:List (Key×PD)) (k:Key) (d:PD):List (Key×PD) :=
 if (kvs.any λ kv=>decide (kv.1=k))=true then kvs.map (λ kv=>if kv.1=k then (kv.1,d) else kv) else kvs++[(k,d)]
theorem Ah {a b:Key} (h:kD a=kD b):a=b:=by
 have:=congrArg FY h
 rw [Dz,Dz] at this;exact Option.some.inj this
section
variable {K:PH} {F:Hp}
theorem RelD.any:∀ {kvs:List (Key×PD)} {ks:List (Key×V)},RelD K F (prs kvs) ks->∀ k,(kvs.any λ kv=>decide (kv.1=k))=ks.any λ kv=>decide (kv.1=k)
 | [],ks,h,k=>by rw [h.nil_of]; rfl
 | (k',d)::kvs,ks,h,k=>by
  obtain ⟨k2,x,r,rfl,e,h3,h4⟩:=RelD.cons_of (d:=kD k') (e:=d) (es:=prs kvs) h
  have:=Ah e
  subst this;rw [QV,QV,RelD.any h4 k]
theorem RelD.length:∀ {kvs:List (Key×PD)} {ks:List (Key×V)},RelD K F (prs kvs) ks->ks.length=kvs.length
 | [],ks,h=>by rw [h.nil_of]; rfl
 | (k',d)::kvs,ks,h=>by
  obtain ⟨k2,x,r,rfl,e,h3,h4⟩:=RelD.cons_of (d:=kD k') (e:=d) (es:=prs kvs) h;rw [P8,P8,RelD.length h4]
theorem RelD.repl {k:Key} {d:PD} {x:V} (hd:Rel K F d x):∀ {kvs:List (Key×PD)} {ks:List (Key×V)},RelD K F (prs kvs) ks->RelD K F (prs (kvs.map λ kv=>if kv.1=k then (kv.1,d) else kv)) (ks.map λ kv=>if kv.1=k then (kv.1,x) else kv)
 | [],ks,h=>by rw [h.nil_of]; exact .nil
 | (k',d')::kvs,ks,h=>by
  obtain ⟨k2,x',r,rfl,e,h3,h4⟩:=RelD.cons_of (d:=kD k') (e:=d') (es:=prs kvs) h
  have:=Ah e
  subst this;have ih:=RelD.repl (k:=k) hd h4;rw [P2,P2];by_cases hk:k'=k
  ·rw [if_pos hk,if_pos hk];exact RelD.cons hd ih
  ·rw [if_neg hk,if_neg hk];exact RelD.cons h3 ih
theorem RelD.snoc {k:Key} {d:PD} {x:V} (hd:Rel K F d x):∀ {kvs:List (Key×PD)} {ks:List (Key×V)},RelD K F (prs kvs) ks->RelD K F (prs (kvs++[(k,d)])) (ks++[(k,x)])
 | [],ks,h=>by rw [h.nil_of]; exact RelD.cons hd .nil
 | (k',d')::kvs,ks,h=>by
  obtain ⟨k2,x',r,rfl,e,h3,h4⟩:=RelD.cons_of (d:=kD k') (e:=d') (es:=prs kvs) h
  have:=Ah e
  subst this;exact RelD.cons h3 (RelD.snoc hd h4)
theorem RelD.put {k:Key} {d:PD} {x:V} (hd:Rel K F d x) {kvs:List (Key×PD)} (h:RelD K F (prs kvs) ks):RelD K F (prs (JU kvs k d)) (pH ks k x):=by
 unfold JU pH;rw [h.any k]
 split
 ·exact RelD.repl hd h
 ·exact RelD.snoc hd h
end
section
variable {X:Cx} {B:Bd} {o e e2 a b:Expr} {f g h:En->Option PD} {pos pos' apos cpos npos:Pos}
theorem Room.one {A:QI} (hr:Room k A):A.units+1 < cLine:=by have:=hr.units; omega
end
section
variable {X:Cx}
variable {B:Bd} {a:Expr} {f:En->Option PD} {pos:Pos}
end
section
variable {K:PH} {F F':Hp}
theorem II {d:PD} {v:V} (h:oS d=true) (r:Rel K F' d v):Rel K F d v:=by
 cases d with
 | none=>rw [r.non]; exact uU
 | bool b=>rw [r.bl]; exact fE
 | int i=>rw [r.int]; exact dQ
 | str x=>rw [r.str]; exact sF
 | list ds=>cases h
 | tuple ds=>cases h
 | dict es=>cases h
end
theorem Gr.back {F':Hp} (sm:Same F H) (g:Gr F1 H F' H'):Gr F H F H':=⟨.refl _,g.hh,sm.trans g.hh,λ _ z=>.inl z⟩
section
variable {X:Cx} {B:Bd} {e:Expr} {f:En->Option PD} {fs:En->Option (List PD)} {p:En->Option Bool}
end
section
variable {X:Cx} {B:Bd} {e o:Expr} {f g:En->Option PD} {fs:En->Option (List PD)} {pos pp rp rpos:Pos}
end
theorem Kr {k:Key} {v:PP} (h:yy k v=true):RelV (kV k) v:=by
 rcases fY h with ⟨i,t,rfl,rfl⟩ | ⟨x,t,rfl,rfl⟩
 ·exact ⟨t,rfl⟩
 ·exact ⟨t,rfl⟩
section
variable {X:Cx} {B:Bd} {pos npos:Pos} {tg:Expr}
end
section
variable {X:Cx} {B:Bd} {e o:Expr} {f g:En->Option PD} {fs:En->Option (List PD)} {pos pos' pp rp rpos:Pos}
end
section
variable {X:Cx} {B:Bd}
abbrev PF:=(En->Option PD)×(En->Option PD)
def DP (X:Cx) (B:Bd) (pos:Pos) (keys:List (Option Expr)) (values:List Expr) (ps:List PF):Prop:=PPs X pos keys values (ps.map λ p=>(tE X.K B p.1,tE X.K B p.2))
theorem DP.nil:DP X B pos [] [] []:=JX
theorem DP.cons {pos:Pos} {k v:Expr} {keys:List (Option Expr)} {values:List Expr} {f g:En->Option PD} {ps:List PF} (hk:E X B k f) (hv:E X B v g) (h:DP X B pos keys values ps):DP X B pos (some k::keys) (v::values) ((f,g)::ps):=HE hk hv h
def evP:List PF->En->Option (List (PD×PD))
 | [],_=>some []
 | (f,g)::r,η=>(f η).bind λ x=>(g η).bind λ y=>(evP r η).bind λ l=>some ((x,y)::l)
def EJ:List (PD×PD)->Option (List (Key×PD))
 | []=>some []
 | (x,y)::r=>(FY x).bind λ k=>(EJ r).bind λ l=>some ((k,y)::l)
def No (K:PH) (F:Hp):List (PD×PD)->List (V×V)->Prop
 | [],ps=>ps=[]
 | (x,y)::r,ps=>∃ u v t,ps=(u,v)::t/\Rel K F x u/\Rel K F y v/\No K F r t
theorem De {K:PH}:∀ {ps:List PF} {σ:St} {F H:Hp} {η:En} {es:List (PD×PD)} {Q:List (V×V)->Hp->Prop},SR K B F H σ η->evP ps η=some es->(∀ pvs F' H',Gr F H F' H'->No K F' es pvs->Q pvs H')->BH (ps.map λ p=>(tE K B p.1,tE K B p.2)) σ H Q
 | [],σ,F,H,η,es,Q,sr,h,q=>by
  cases h;exact q [] F H (.refl sr.same) rfl
 | (f,g)::r,σ,F,H,η,es,Q,sr,h,q=>by
  obtain ⟨x,hx,h⟩:=ac h;obtain ⟨y,hy,h⟩:=ac h;obtain ⟨l,hl,h⟩:=ac h;cases h;exact ⟨F,η,x,sr,hx,λ u F1 H1 g1 ru=>⟨F1,η,y,sr.grow g1,hy,λ v F2 H2 g2 rv=>De ((sr.grow g1).grow g2) hl λ pvs F3 H3 g3 rp =>
   q ((u,v)::pvs) F3 H3 (g1.trans (g2.trans g3)) ⟨u,v,pvs,rfl,ru.mono (g2.ff.trans g3.ff),rv.mono g3.ff,rp⟩⟩⟩
theorem Dx {K:PH} {F:Hp}:∀ {es:List (PD×PD)} {kvs:List (Key×PD)} {pvs:List (V×V)},EJ es=some kvs->No K F es pvs->∃ ks:List (Key×V),pvs=ks.map (λ kv=>(kV kv.1,kv.2))/\RelD K F (prs kvs) ks
 | [],kvs,pvs,h,r=>by
  cases h;exact ⟨[],r,.nil⟩
 | (x,y)::es,kvs,pvs,h,r=>by
  obtain ⟨k,hk,h⟩:=ac h;obtain ⟨l,hl,h⟩:=ac h;cases h;obtain ⟨u,v,t,rfl,h2,h3,h4⟩:=r;obtain ⟨ks,rfl,rd⟩:=Dx hl h4
  have:=JP hk h2
  subst this;exact ⟨(k,v)::ks,rfl,RelD.cons h3 rd⟩
def Ex (acc more:List (Key×PD)):List (Key×PD):=more.foldl (λ acc kv=>JU acc kv.1 kv.2) acc
theorem RelD.merge {K:PH} {F:Hp}:∀ {more:List (Key×PD)} {ms:List (Key×V)} {acc:List (Key×PD)} {as:List (Key×V)},RelD K F (prs more) ms->RelD K F (prs acc) as->RelD K F (prs (Ex acc more)) (v6 as ms)
 | [],ms,acc,as,h,h0=>by rw [h.nil_of]; exact h0
 | (k,d)::more,ms,acc,as,h,h0=>by
  obtain ⟨k2,x,r,rfl,e,h3,h4⟩:=RelD.cons_of (d:=kD k) (e:=d) (es:=prs more) h
  have:=Ah e
  subst this;show RelD K F (prs (Ex (JU acc k d) more)) (v6 (pH as k x) r);exact RelD.merge h4 (RelD.put h3 h0)
end
section
variable {X:Cx} {B:Bd} {a b:Expr} {f g:En->Option PD} {pos:Pos}
theorem E.le (ha:E X B a f) (hb:E X B b g):E X B (.Compare a [.LtE] [b] pos) (l2 pLe f g):=E.cmp Bm (sv λ _ _ _=>fE) (nomark b) ha hb
end
def Itel (K:PH) (l:Qd) (n:Nat):It :=
 ⟨λ i H=>i < n/\∃ xs x,SqL K H l xs/\xs.length=n/\xs[i]?=some x,λ i H v H'=>∃ T x,H T=none/\(∀ xs,SqL K H l xs->xs[i]?=some x)/\v=.ref T/\H'=upd H T (.tup [.int (i:Nat),x]),λ i H=>i=n/\∃ xs,SqL K H l xs/\xs.length=n⟩
theorem Ee {P:Ql} {w:World} {K:PH} {elts:List Expr} {k:Nat} {tp:Pos} {e it l:Qd} {n:Nat} (hei:e≠it) (hel:e≠l) (hli:l≠it) :
  Turn P w K (.Tuple elts k tp) (Itel K l n) [e,it] e (λ i h=>(∃ old,IsEnum h e it i old)/\h.IsListIter it l i) where
 mem:=by simp
 obj:=λ i h st b hb=>by
  obtain ⟨⟨old,he⟩,hs⟩:=st;rcases Qh.mp hb with rfl | hb
  ·exact ⟨_,he,λ v z=>by cases z⟩
  ·rw [Qt.mp hb];obtain ⟨o,ho,hcl,hd⟩:=hs;exact ⟨o,ho,λ v z=>by rw [hd] at z; cases z⟩
 keep:=λ i h h' st kk=>by
  obtain ⟨⟨old,he⟩,hs⟩:=st;exact ⟨⟨old,kk e (by simp) _ he⟩,hs.at λ o q=>kk it (by simp) o q⟩
 item:=by
  intro X hP hw hK hc i pz s σ H E I hf st hg;subst hP hw hK;obtain ⟨hin,xs,x,hq,hxl,hx⟩:=hg;obtain ⟨its,rv,pl,hz⟩:=I.list hq;obtain ⟨u,hu,ru⟩:=rv.get hx;have hlen:its.toArray.size=n:=by rw [P6,<- rv.length]; exact hxl
  have W:=WalksT.enumerateD (prog:=X.prog) (w:=X.w) (A:=X.A) (Draws.list (A:=X.A.in1) (I.ok.hd hc) it l hli its.toArray) e hei (by simp; exact ⟨hei,hel⟩) (by simp);refine W.item i s _ _ (by rw [hlen]; exact hin) ⟨st.1,st.2,pl.isList⟩ λ T vals h' tk Pt hT hIs Md kp=>⟨.ref T,rfl,?_⟩;refine W.go elts k tp i T _ _ _ Md λ h'' st'' kp''=>?_;obtain ⟨t,xv,hxv,rfl⟩:=Pt;have exu:xv=u:=by
   have:its.toArray[i]?=some u:=by simpa using hu
   rw [this] at hxv;exact (Option.some.inj hxv).symm
  subst exu;have nT:H T=none:=I.hok.fresh hT;have aT:T∉[e,it]:=λ hb=>by
   have:=W.apart i T _ Md
   refine this ?_;rcases Qh.mp hb with z | z
   ·rw [z]; simp
   ·rw [Qt.mp z]; simp
  have kall:∀ b o,b∉[e,it]->s.heap.get? b=some o->h''.get? b=some o:=λ b o hb q=>kp'' b o hb (kp b o hb q);have hIs'':IsTup h'' T #[.int i t,xv]:=by
   obtain ⟨o,ho,hcl,n,hd⟩:=hIs;exact ⟨o,kp'' T o aT ho,hcl,n,hd⟩
  have ltT:∀ b o,s.heap.get? b=some o->b≠T:=λ b o q=>Qm (P5 (Qb q) hT);have nfp:∀ b o,H b=some o->b∉[e,it]:=λ b o q hb=>by rw [(hf b hb).1] at q; cases q
  have J:Inv X pz σ (upd H T (.tup [.int (i:Nat),x])) { s with heap:=h'',toks:=tk }:=by
   refine I.step (h':=h'') (g':=s.gens) (d':=s.drawn) (t':=tk) (ch:=[e,it]) (λ b hb=>⟨(hf b hb).2.2.2.1,(hf b hb).2.1,(hf b hb).2.2.2.2.1,(hf b hb).2.2.2.2.2⟩)
    (λ b o _ _ hb q _=>kall b o hb q) (λ b o _ _ hb q _=>⟨o.slots,kall b o hb q⟩) (λ b o _ q n=>by rw [aD (ltT b o q)]; exact n) (λ b o hb q=>⟨o,kall b o hb q⟩)
    (λ b xs q=>by rw [aD (aU q nT)]; exact q) (λ b o xs q=>by rw [aD (aU q nT)]; exact q) (λ b ps q=>⟨#[],by rw [aD (aU q nT),q]; simp⟩) (λ m hm=>?_) (λ b o q=>?_) I.bare
   ·obtain ⟨o,es,ep,ho,r⟩:=hm;refine ⟨o,es,ep,kall _ o (λ hb=>?_) ho,r⟩;exact (hf _ hb).2.1 rfl
   ·by_cases hb:b=T
    ·subst hb;rw [aA] at q;cases q;exact ⟨by show 2<=P4; decide,[.int i t,xv],.cons ⟨t,rfl⟩ (.cons ru .nil),hIs''⟩
    ·rw [aD hb] at q;refine (I.hok b o q).stay (λ c' v hc' z=>kall c' v ?_ z) (λ c' z=>by rw [aD (aU z nT)]; exact z) λ c' xs z=>by rw [aD (aU z nT)]; exact z
     rcases hc' with rfl | hc'
     ·exact nfp _ _ q
     ·exact nfp _ _ hc'
  refine ⟨.ref T,upd H T (.tup [.int (i:Nat),x]),J,rfl,⟨T,x,nT,λ ys hy=>by rw [I.list_inj hy hq]; exact hx,rfl,rfl⟩,⟨st''.1,st''.2.1⟩,λ b hb=>?_⟩;have nb:b≠T:=λ z=>aT (by rw [<- z]; exact hb);rw [aD nb]; exact (hf b hb).1
 done:=by
  intro X hP hw hK hc i pz s σ H E I hf st hg;subst hP hw hK;obtain ⟨hin,xs,hq,hxl⟩:=hg;obtain ⟨its,rv,pl,hz⟩:=I.list hq;have hlen:its.toArray.size=n:=by rw [P6,<- rv.length]; exact hxl
  have W:=WalksT.enumerateD (prog:=X.prog) (w:=X.w) (A:=X.A) (Draws.list (A:=X.A.in1) (I.ok.hd hc) it l hli its.toArray) e hei (by simp; exact ⟨hei,hel⟩) (by simp);rw [hin,<- hlen] at st;refine W.done s _ _ ⟨st.1,st.2,pl.isList⟩ λ h' tk kp=>⟨rfl,?_⟩;have nfp:∀ b o,H b=some o->b∉[e,it]:=λ b o q hb=>by rw [(hf b hb).1] at q; cases q
  refine I.step (h':=h') (g':=s.gens) (d':=s.drawn) (t':=tk) (ch:=[e,it]) (λ b hb=>⟨(hf b hb).2.2.2.1,(hf b hb).2.1,(hf b hb).2.2.2.2.1,(hf b hb).2.2.2.2.2⟩)
   (λ b o _ _ hb q _=>kp b o hb q) (λ b o _ _ hb q _=>⟨o.slots,kp b o hb q⟩) (λ _ _ _ _ n=>n) (λ b o hb q=>⟨o,kp b o hb q⟩)
   (λ _ _ q=>q) (λ _ _ _ q=>q) (λ b ps q=>⟨#[],by rw [q]; simp⟩) (λ m hm=>?_) (λ b o q=>?_) I.bare
  ·obtain ⟨o,es,ep,ho,r⟩:=hm;exact ⟨o,es,ep,kp _ o (λ hb=>(hf _ hb).2.1 rfl) ho,r⟩
  ·refine (I.hok b o q).stay (λ c' v hc' z=>kp c' v ?_ z) (λ _ z=>z) λ _ _ z=>z;rcases hc' with rfl | hc'
   ·exact nfp _ _ q
   ·exact nfp _ _ hc'
 self:=λ A i s Q E st h=>by
  obtain ⟨⟨old,he⟩,hs⟩:=st;exact wpAny_pyIter_enum he h
section
variable {X:Cx} {B:Bd} {a:Expr} {fs:En->Option (List PD)} {pos pp:Pos}
def enL (ds:List PD):Option (List PD):=match ds with
 | [.list xs]=>some (qa xs 0)
 | _=>none
theorem GP {l:Qd} (hq:SqL K F l xs) (rs:RelL K F ds xs):ItP K (Itel K l ds.length) F (qa ds 0):=λ F1 H1 i s1 s2=>by
 have hq1:SqL K H1 l xs:=s2.seq (s1.seq hq);refine ⟨λ d e=>?_,λ e=>⟨by rw [e,uY],xs,hq1,rs.length⟩⟩;have hi:i < ds.length:=by
  have:=(PR.mp e).1
  rwa [uY] at this
 obtain ⟨cd,h1,h2⟩:=xX _ _ _ _ e;obtain ⟨x,hx,rx⟩:=rs.get h1;refine ⟨⟨hi,xs,x,hq1,rs.length,hx⟩,λ v H2 y=>?_⟩;obtain ⟨T,x',hT,hxx,rfl,rfl⟩:=y
 have:=(hxx xs hq1).symm.trans hx
 cases this;rw [Nat.zero_add] at h2;subst h2;have g:=Gr.one (o:=.tup [.int (i:Nat),x]) s2 hT;exact ⟨_,g,kF (SqT.of aA) (.cons dQ (.cons (rx.mono (s1.trans g.ff)) .nil))⟩
theorem I.enumL {elts:List Expr} {k:Nat} {tp:Pos} (hc:X.calm=true) (hm:X.mg "enumerate" = none) (ha:A X B [a] fs) (hg:Gl X "enumerate" := by rfl) (hs:PX [a] X.env=[(false,eval a X.env)]:=by exact bS rfl) :
  I X B (.Tuple elts k tp) (.Call (.Name "enumerate" pp) [a] [] pos) (λ η=>(fs η).bind enL):=by
 intro pz s σ H R I ⟨F,η,ds,sr,hd,q⟩;obtain ⟨es,h1,hd⟩:=ac hd;unfold enL at hd;split at hd
 ·rename_i x;cases hd;refine Call_ (uv I hg hm boot_enumerate (PyProof.Rows.callWith_type1 (thn (ha pos pz s σ H (λ vs H1=>∃ F',Gr F H F' H1/\RelL X.K F' [.list x] vs) I ⟨F,η,_,sr,h1,λ vs F' H' g r=>⟨F',g,r⟩⟩) λ us s1 ⟨vs,H1,I1,r1,F1,g1,rl⟩=>?_) hs rfl));obtain ⟨y,r,rfl,ry,rr⟩:=rl.cons_of;obtain rfl:=rr.nil_of;obtain ⟨u,rfl,ru⟩:=sU r1;obtain ⟨p,xs,rfl,hq,rs⟩:=ry.lst;cases ru;obtain ⟨its,rv,pl,hz⟩:=I1.list (g1.fh.seq hq);have hpl:p < s1.heap.objs.size:=by
   obtain ⟨o,ho,_⟩:=pl.isList;exact Qb ho
  refine call_enumerate_list pl.isList λ h' he hit hsz hk=>?_;refine wpAny_pyIter_enum he ?_;have I2:Inv X pz σ H1 { s1 with heap:=h' }:=I1.kept (t':=s1.toks) hk;have nw:∀ b,s1.heap.objs.size<=b->uR X pz H1 b:=λ b hb=>I1.fpOk hb (I1.hok.fresh hb);have fpo:∀ b∈[s1.heap.objs.size+1,s1.heap.objs.size],uR X pz H1 b:=λ b hb=>by
   rcases Qh.mp hb with rfl | hb
   ·exact nw _ (RA _)
   ·rw [Qt.mp hb]; exact nw _ (PV _)
  exact ⟨_,_,_,_,H1,rfl,I2,Ee (e:=s1.heap.objs.size+1) (it:=s1.heap.objs.size) (l:=p) (n:=x.length) (Nat.succ_ne_self _) (Rq (Nat.lt_succ_of_lt hpl)) (Qm hpl),⟨⟨_,he⟩,hit⟩,fpo,q _ F1 H1 g1 (GP hq rs)⟩
 ·cases hd
end
section
variable {prog:Ql} {w:World} {A:QI} {E:PP->PQ->Prop} {s:PQ} {T:String} {r d:Qd} {n:Nat} {P:Nat->PP->Prop} {OK:Heap->Prop}
theorem DN {Q:List PP->PQ->Prop} (K:PySem.W.KdlSrc prog w T r d n P OK) (hh:A.handled=none) (hok:OK s.heap) (hn:n<=P4)
  (hQ:∀ h' tk (acc':Array PP),(∀ b o,s.heap.get? b=some o->h'.get? b=some o)->s.heap.objs.size < h'.objs.size->ItemsOf P acc' n->Q acc'.toList { s with heap:=h',toks:=tk }) :
  Qs (Qq prog w) A (collect (.ref r)) Q E s:=by
 unfold collect;refine P1 (wpAny_runValue (codeAny_builtin entry_proto_collect' ?_));show Qs _ _ (do again (.builtin "list.__iadd__" ⟨[<- newList [],.ref r],[]⟩)) _ _ s;refine P1 (wpAny_newList (Qe ⟨Code.quiet_builtin _ (by decide +kernel),codeAny_builtin entry_list_iadd' ?_⟩));show Qs _ _ (Builtin.List.listExtendWith (.ref s.heap.objs.size) (.ref r) (.ref s.heap.objs.size)) _ _ { s with heap:=s.heap.push (seqObj "list" #[] 0) };have hlt:=K.there _ hok;rw [Around.under_plainId (by decide +kernel)];have fin:∀ h' tk (acc':Array PP) c',(∀ b o,s.heap.get? b=some o->h'.get? b=some o)->h'.get? s.heap.objs.size=some { cls:=.type "list", dict:=none,data:=.seq acc' c',slots:=#[] }->ItemsOf P acc' n ->
   Qs (Qq prog w) A (do
   let o <- load s.heap.objs.size
   match o.data with
   | .seq xs _=>pure xs.toList
   | _=>unsupported "internal:collect") Q E { s with heap:=h',toks:=tk }:=λ h' tk acc' c' hk hS' hacc=>P1 (wpAny_load hS' (Qe (hQ h' tk acc' hk (Qb hS') hacc)))
 refine wpAny_mono (PySem.W.kdl_extend (s:={ s with heap:=s.heap.push (seqObj "list" #[] 0) }) (R:=λ r s'=>∃ h' tk acc' c',r=.ok (.ret (.ref s.heap.objs.size))/\s'={ s with heap:=h',toks:=tk }/\(∀ b o,s.heap.get? b=some o->h'.get? b=some o) /\
   h'.get? s.heap.objs.size=some { cls:=.type "list", dict:=none,data:=.seq acc' c',slots:=#[] }/\ItemsOf P acc' n) K hh (K.keep _ _ hok λ b _ o e=>PZ _ e) s.heap.objs.size (Rq hlt.1) (Rq hlt.2) (.ref s.heap.objs.size) 0 (Qn _ rfl)
   (λ h' tk acc' c' hk hS' hacc=>⟨h',tk,acc',c',rfl,rfl,λ b o e=>hk b o (Qm (Qb e)) (PZ _ e),hS',hacc⟩) hn) (λ f s' hf=>?_) λ e s' he=>?_
 ·cases f with
  | done f =>
   obtain ⟨h',tk,acc',c',e1,e2,e3,e4,e5⟩:=hf;cases e1;subst e2;exact fin h' tk acc' c' e3 e4 e5
  | again c =>
   refine ⟨hf.1,codeAny_mono hf.2 λ r s' hr=>?_⟩;obtain ⟨h',tk,acc',c',e1,e2,e3,e4,e5⟩:=hr;subst e1 e2;exact fin h' tk acc' c' e3 e4 e5
 ·obtain ⟨h',tk,acc',c',e1,_⟩:=he;cases e1
end
section
variable {prog:Ql} {w:World} {A:QI} {E:PP->PQ->Prop} {s:PQ} {T:String} {r d:Qd} {n:Nat} {P:Nat->PP->Prop} {OK:Heap->Prop}
theorem CV {Q:PP->PQ->Prop} {ns:List Int} (K:PySem.W.KdlSrc prog w T r d n P OK) (hh:A.handled=none) (hok:OK s.heap) (h64:n < 64)
  (hP:∀ acc:Array PP,ItemsOf P acc n->IntsAre acc.toList ns)
  (h:∀ (h':Heap) (p:Qd) (tk c:Nat) (out:Array PP) (ns':List Int),IntsAre out.toList ns'->ns'.Perm ns->ns'.Pairwise (·<=·)->(∀ b o,s.heap.get? b=some o->h'.get? b=some o)->s.heap.objs.size<=p->h'.get? p=some (seqObj "list" out c)->Q (.ref p) { s with heap:=h',toks:=tk }) :
  Qs (Qq prog w) A (call (.builtin "sorted") [.ref r]) Q E s:=by
 refine Calls.call_function_entry kind_sorted plain_sorted entry_sorted (args_sorted1 _) ?_;unfold Builtin.«sorted»;refine P1 (m:=checkCount "sorted" 1 1 _) (Qe ?_);refine P1 (DN K hh hok (by rw [sizeLine_eq]; omega) λ h' tk acc' kp hsz hit=>?_);have hl:acc'.toList.length < 64:=by rw [Array.length_toList,hit.1]; exact h64
 refine P1 (wpAny_newList ?_ (hsz:=by rw [sizeLine_eq]; omega));have hoL:(h'.push (seqObj "list" acc'.toList.toArray 0)).get? h'.objs.size=some (seqObj "list" acc'.toList.toArray 0):=Qn _ rfl;show Qs _ _ _ _ _ { s with heap:=h'.push (seqObj "list" acc'.toList.toArray 0),toks:=tk };refine P1 (wpAny_holding (wpAny_call_entry slot_list_sort ⟨_,hoL,rfl⟩ entry_list_sort (list_sort_tree hoL (hP acc' hit) hl λ out ns' a1 a2 a3=>⟨_,rfl,?_⟩) (args_list_sort _)));obtain ⟨c,hc⟩:=sortedHeap_at (out:=out) hoL;refine Qe ⟨_,rfl,h _ _ tk c out ns' a1 a2 a3 (λ b o e=>?_) ?_ hc⟩
 ·have h1:=kp b o e;have lt:=Qb h1;show (sortedHeap (h'.push (seqObj "list" acc'.toList.toArray 0)) h'.objs.size acc'.toList out).get? b=some o;rw [sortedHeap_old (Qm lt) (by rw [size_push']; exact Nat.lt_succ_of_lt lt)];exact PZ _ h1
 ·exact RC hsz
end
section
variable {X:Cx} {B:Bd} {e:Expr} {f g:En->Option PD} {fs:En->Option (List PD)} {pos pp:Pos}
def JR:List V->Hp->VK->Prop:=λ xs H Q=>∃ (p:Qd) (ks:List (Key×V)) (ns:List Int),xs=[.ref p]/\Rd H p (.dK ks)/\ks.map (·.1)=ns.map Sum.inl/\ns.length < 64/\∀ l,H l=none->Q (.ref l) (upd H l (.lst ((t7 ns).map V.int)))
theorem Bt {P:Ql} {w:World}:∀ (ns:List Int) (vs:List (Key×PP)) (l:List PP),vs.map (·.1)=ns.map Sum.inl->l.length=vs.length->(∀ (j:Nat) v,l[j]?=some v->∃ k x,vs[j]?=some (k,x)/\(fV P w).is k v=true)->IntsAre l ns
 | [],vs,l,h1,h2,_=>by
  have:vs=[]:=by simpa using h1
  subst this
  have:l=[]:=Rr h2
  subst this;exact .nil
 | n::ns,vs,l,h1,h2,h3=>by
  cases vs with
  | nil=>simp at h1
  | cons b bs =>
   cases l with
   | nil=>simp at h2
   | cons v l =>
    obtain ⟨k,x,e1,e2⟩:=h3 0 v rfl;have eb:b=(k,x):=by simpa using e1
    rw [P2,P2] at h1;injection h1 with h4 h5
    have hk:k=Sum.inl n:=by rw [eb] at h4; exact h4
    subst hk;obtain ⟨t,rfl⟩:=(show ∃ t,v=Value.int n t from Kr (k:=Sum.inl n) (show yy (Sum.inl n) v=true from e2));refine .cons n t (Bt (P:=P) (w:=w) ns bs l h5 (by simpa using h2) λ j v' hv=>?_);obtain ⟨k',x',f1,f2⟩:=h3 (j+1) v' (by simpa using hv);exact ⟨k',x',by simpa using f1,f2⟩
theorem DW (hh:X.A.handled=none):CallR X (.builtin "sorted") JR:=by
 intro pz s σ H xs us Q I r h;obtain ⟨p,ks,ns,rfl,hp,hk,h64,q⟩:=h;obtain ⟨u,rfl,ru⟩:=sU r;cases ru;obtain ⟨z,hd,vs,rel,o,es,ep,g,c⟩:=DI I.hok hp;have hl:ks.length=vs.length:=rel.length;have da:s.heap.DictAt (fV X.prog X.w) p vs ep:=⟨o,es,g,c.1,c.2.1,c.2.2⟩;have hkv:vs.map (·.1)=ns.map Sum.inl:=by rw [<- rel.keys]; exact hk
 have hln:vs.length=ns.length:=by have:=congrArg List.length hkv; simpa using this
 refine CV (ns:=ns) (PySem.W.kdl_dict hd) hh da (by rw [hln]; exact h64) (λ acc hit=>Bt ns vs acc.toList hkv (by rw [Array.length_toList]; exact hit.1) λ k v hv=>hit.2 k v (by simpa using hv)) λ h' l tk c out ns' hS hpm hs kp hle hat=>?_;have e:=Gs hpm hs;subst e;have hv:=xD hS;refine ⟨.ref l,_,I.laid (t':=tk) (o:=.lst ((t7 ns).map V.int)) kp hle ?_,rfl,q _ (I.hok.fresh hle)⟩;refine ⟨?_,out.toList,c,hv,by simpa using hat⟩;rw [PJ,hpm.length_eq,<- hln,<- hl];exact z
end
mutual
def cst:Expr->Option PD
 | .Constant (.int i) _ _=>some (.int i)
 | .Constant (.str x) _ _=>some (.str x)
 | .Constant (.bool b) _ _=>some (.bool b)
 | .Constant .none _ _=>some .none
 | .UnaryOp .USub a _=>(cst a).bind sG
 | .Tuple es _ _=>(csts es).bind λ ds=>if ds.length<=1000 then some (.tuple ds) else none
 | .List es _=>(csts es).bind λ ds=>if ds.length<=1000 then some (.list ds) else none
 | _=>none
def csts:List Expr->Option (List PD)
 | []=>some []
 | e::r=>(cst e).bind λ d=>(csts r).bind λ ds=>some (d::ds)
end
theorem KM {d:PD} (h:cst e=some d):nst e=true:=by
 cases e <;> first | rfl | (unfold cst at h; cases h)
section
variable {X:Cx} {B:Bd}
theorem Gd (h:n<=1000):n<=P4:=Qg h (by show 1000<=2 ^ 24; decide)
theorem E.same {f g:En->Option PD} (h:E X B e f) (k:∀ η,g η=f η):E X B e g:=by
 have:g=f:=funext k
 rw [this]; exact h
theorem A.same {e:List Expr} {f g:En->Option (List PD)} (h:A X B e f) (k:∀ η,g η=f η):A X B e g:=by
 have:g=f:=funext k
 rw [this]; exact h
mutual
theorem E3:∀ {e:Expr} {d:PD},cst e=some d->E X B e (eC d)
 | .Constant (.int i) _ _,d,h=>by unfold cst at h; cases h; exact aq
 | .Constant (.str x) _ _,d,h=>by unfold cst at h; cases h; exact ba
 | .Constant (.bool b) _ _,d,h=>by unfold cst at h; cases h; exact AN
 | .Constant .none _ _,d,h=>by unfold cst at h; cases h; exact eY
 | .UnaryOp .USub a _,d,h=>by
  unfold cst at h;obtain ⟨x,h1,h2⟩:=ac h;exact E.same (tQ (E3 h1)) λ η=>h2.symm
 | .Tuple es _ _,d,h=>by
  unfold cst at h;obtain ⟨ds,h1,h2⟩:=ac h;split at h2
  ·rename_i hl;cases h2;exact E.same (i6 (Cl h1)) λ η=>(if_pos (Gd hl)).symm
  ·cases h2
 | .List es _,d,h=>by
  unfold cst at h;obtain ⟨ds,h1,h2⟩:=ac h;split at h2
  ·rename_i hl;cases h2;refine E.same (bc (bA (Cl h1))) λ η=>?_;show some (PyData.list ds)=((gL ds).bind λ ds=>some (PyData.list ds));unfold gL;rw [if_pos (Gd hl)]; rfl
  ·cases h2
theorem Cl:∀ {es:List Expr} {ds:List PD},csts es=some ds->A X B es (λ _=>some ds)
 | [],ds,h=>by unfold csts at h; cases h; exact au
 | e::r,ds,h=>by
  unfold csts at h;obtain ⟨d,h1,h⟩:=ac h;obtain ⟨ds',h2,h⟩:=ac h;cases h;exact A.same (ae (E3 h1) (Cl h2) (bS (KM h1))) λ η=>rfl
end
theorem E.cst {e:Expr} {d:PD} (h:PU.cst e=some d):E X B e (eC d):=E3 h
end
def Itz (K:PH) (l1 l2:Qd) (n:Nat):It :=
 ⟨λ i H=>i < n/\∃ xs ys x y,SqL K H l1 xs/\SqL K H l2 ys/\min xs.length ys.length=n/\xs[i]?=some x/\ys[i]?=some y,λ i H v H'=>∃ T x y,H T=none/\(∀ xs,SqL K H l1 xs->xs[i]?=some x)/\(∀ ys,SqL K H l2 ys->ys[i]?=some y)/\v=.ref T/\H'=upd H T (.tup [x,y]),λ i H=>i=n/\∃ xs ys,SqL K H l1 xs/\SqL K H l2 ys/\min xs.length ys.length=n⟩
theorem G8 {P:Ql} {w:World} {K:PH} {elts:List Expr} {k:Nat} {tp:Pos} {z TI TO i1 i2 l1 l2:Qd} {n:Nat} (D:ZipApart z TI TO i1 i2 l1 l2) :
  Turn P w K (.Tuple elts k tp) (Itz K l1 l2 n) [z,TI,TO,i1,i2] z (λ i h=>IsZip h z TI TO .none/\IsPair h TI (.ref i1) (.ref i2)/\(∃ a b,IsPair h TO a b)/\h.IsListIter i1 l1 i/\h.IsListIter i2 l2 i) where
 mem:=by simp
 obj:=λ i h st b hb=>by
  obtain ⟨hz,h1,⟨a,c,h2⟩,h3,h4⟩:=st;simp only [Qh,Rj,or_false] at hb;rcases hb with rfl | rfl | rfl | rfl | rfl
  ·exact ⟨_,hz,λ v z=>by cases z⟩
  ·exact ⟨_,h1,λ v z=>by cases z⟩
  ·exact ⟨_,h2,λ v z=>by cases z⟩
  ·obtain ⟨o,ho,hcl,hd⟩:=h3;exact ⟨o,ho,λ v z=>by rw [hd] at z; cases z⟩
  ·obtain ⟨o,ho,hcl,hd⟩:=h4;exact ⟨o,ho,λ v z=>by rw [hd] at z; cases z⟩
 keep:=λ i h h' st kk=>by
  obtain ⟨hz,h1,⟨a,c,h2⟩,h3,h4⟩:=st;exact ⟨kk z (by simp) _ hz,kk TI (by simp) _ h1,⟨a,c,kk TO (by simp) _ h2⟩,h3.at λ o q=>kk i1 (by simp) o q,h4.at λ o q=>kk i2 (by simp) o q⟩
 item:=by
  intro X hP hw hK hc i pz s σ H E I hf st hg;subst hP hw hK;obtain ⟨hin,xs,ys,x,y,hq1,hq2,hxl,hx,hy⟩:=hg;obtain ⟨its1,rv1,pl1,hz1⟩:=I.list hq1;obtain ⟨its2,rv2,pl2,hz2⟩:=I.list hq2;obtain ⟨u1,hu1,ru1⟩:=rv1.get hx;obtain ⟨u2,hu2,ru2⟩:=rv2.get hy;have hlen:min its1.toArray.size its2.toArray.size=n:=by rw [P6,P6,<- rv1.length,<- rv2.length]; exact hxl
  have W:=WalksT.zip2 (prog:=X.prog) (w:=X.w) (A:=X.A) (I.ok.hd hc) z TI TO i1 i2 l1 l2 D its1.toArray its2.toArray;obtain ⟨s1,s2,s3,s4,s5⟩:=st;refine W.item i s _ _ (by rw [hlen]; exact hin) ⟨s1,s2,s3,s4,s5,pl1.isList,pl2.isList⟩ λ T vals h' tk Pt hT hIs Md kp=>⟨.ref T,rfl,?_⟩;refine W.go elts k tp i T _ _ _ Md λ h'' st'' kp''=>?_;obtain ⟨xv,yv,hxv,hyv,rfl⟩:=Pt;have exu:xv=u1:=by
   have:its1.toArray[i]?=some u1:=by simpa using hu1
   rw [this] at hxv;exact (Option.some.inj hxv).symm
  have eyu:yv=u2:=by
   have:its2.toArray[i]?=some u2:=by simpa using hu2
   rw [this] at hyv;exact (Option.some.inj hyv).symm
  subst exu eyu;have nT:H T=none:=I.hok.fresh hT;have aT0:T∉[z,TO,i1,i2]:=W.apart i T _ Md;have ltT:∀ b o,s.heap.get? b=some o->b≠T:=λ b o q=>Qm (P5 (Qb q) hT);have aT:T∉[z,TI,TO,i1,i2]:=λ hb=>by
   simp only [Qh,Rj,or_false,not_or] at hb aT0;rcases hb with e | e | e | e | e
   ·exact aT0.1 e
   ·exact ltT TI _ s2 e.symm
   ·exact aT0.2.1 e
   ·exact aT0.2.2.1 e
   ·exact aT0.2.2.2 e
  have wr:∀ b,b∉[z,TI,TO,i1,i2]->b∉[z,TO,i1,i2]:=λ b hb hm=>hb (by simp only [Qh,Rj,or_false] at hm ⊢; rcases hm with e | e | e | e <;> simp [e]);have kall:∀ b o,b∉[z,TI,TO,i1,i2]->s.heap.get? b=some o->h''.get? b=some o:=λ b o hb q=>kp'' b o (wr b hb) (kp b o (wr b hb) q);have hIs'':IsTup h'' T #[xv,yv]:=by
   obtain ⟨o,ho,hcl,n,hd⟩:=hIs;exact ⟨o,kp'' T o aT0 ho,hcl,n,hd⟩
  have nfp:∀ b o,H b=some o->b∉[z,TI,TO,i1,i2]:=λ b o q hb=>by rw [(hf b hb).1] at q; cases q
  have J:Inv X pz σ (upd H T (.tup [x,y])) { s with heap:=h'',toks:=tk }:=by
   refine I.step (h':=h'') (g':=s.gens) (d':=s.drawn) (t':=tk) (ch:=[z,TI,TO,i1,i2]) (λ b hb=>⟨(hf b hb).2.2.2.1,(hf b hb).2.1,(hf b hb).2.2.2.2.1,(hf b hb).2.2.2.2.2⟩)
    (λ b o _ _ hb q _=>kall b o hb q) (λ b o _ _ hb q _=>⟨o.slots,kall b o hb q⟩) (λ b o _ q n=>by rw [aD (ltT b o q)]; exact n) (λ b o hb q=>⟨o,kall b o hb q⟩)
    (λ b xs q=>by rw [aD (aU q nT)]; exact q) (λ b o xs q=>by rw [aD (aU q nT)]; exact q) (λ b ps q=>⟨#[],by rw [aD (aU q nT),q]; simp⟩) (λ m hm=>?_) (λ b o q=>?_) I.bare
   ·obtain ⟨o,es,ep,ho,r⟩:=hm;refine ⟨o,es,ep,kall _ o (λ hb=>?_) ho,r⟩;exact (hf _ hb).2.1 rfl
   ·by_cases hb:b=T
    ·subst hb;rw [aA] at q;cases q;exact ⟨by show 2<=P4; decide,[xv,yv],.cons ru1 (.cons ru2 .nil),hIs''⟩
    ·rw [aD hb] at q;refine (I.hok b o q).stay (λ c' v hc' z=>kall c' v ?_ z) (λ c' z=>by rw [aD (aU z nT)]; exact z) λ c' xs z=>by rw [aD (aU z nT)]; exact z
     rcases hc' with rfl | hc'
     ·exact nfp _ _ q
     ·exact nfp _ _ hc'
  refine ⟨.ref T,upd H T (.tup [x,y]),J,rfl,⟨T,x,y,nT,λ zs hz=>by rw [I.list_inj hz hq1]; exact hx,λ zs hz=>by rw [I.list_inj hz hq2]; exact hy,rfl,rfl⟩,⟨st''.1,st''.2.1,st''.2.2.1,st''.2.2.2.1,st''.2.2.2.2.1⟩,λ b hb=>?_⟩;have nb:b≠T:=λ z=>aT (by rw [<- z]; exact hb);rw [aD nb]; exact (hf b hb).1
 done:=by
  intro X hP hw hK hc i pz s σ H E I hf st hg;subst hP hw hK;obtain ⟨hin,xs,ys,hq1,hq2,hxl⟩:=hg;obtain ⟨its1,rv1,pl1,hz1⟩:=I.list hq1;obtain ⟨its2,rv2,pl2,hz2⟩:=I.list hq2;have hlen:min its1.toArray.size its2.toArray.size=n:=by rw [P6,P6,<- rv1.length,<- rv2.length]; exact hxl
  have W:=WalksT.zip2 (prog:=X.prog) (w:=X.w) (A:=X.A) (I.ok.hd hc) z TI TO i1 i2 l1 l2 D its1.toArray its2.toArray;rw [hin,<- hlen] at st;obtain ⟨s1,s2,s3,s4,s5⟩:=st;have wr:∀ b,b∉[z,TI,TO,i1,i2]->b∉[z,TO,i1,i2]:=λ b hb hm=>hb (by simp only [Qh,Rj,or_false] at hm ⊢; rcases hm with e | e | e | e <;> simp [e]);refine W.done s _ _ ⟨s1,s2,s3,s4,s5,pl1.isList,pl2.isList⟩ λ h' tk kp=>⟨rfl,?_⟩;have nfp:∀ b o,H b=some o->b∉[z,TI,TO,i1,i2]:=λ b o q hb=>by rw [(hf b hb).1] at q; cases q
  refine I.step (h':=h') (g':=s.gens) (d':=s.drawn) (t':=tk) (ch:=[z,TI,TO,i1,i2]) (λ b hb=>⟨(hf b hb).2.2.2.1,(hf b hb).2.1,(hf b hb).2.2.2.2.1,(hf b hb).2.2.2.2.2⟩)
   (λ b o _ _ hb q _=>kp b o (wr b hb) q) (λ b o _ _ hb q _=>⟨o.slots,kp b o (wr b hb) q⟩) (λ _ _ _ _ n=>n) (λ b o hb q=>⟨o,kp b o (wr b hb) q⟩)
   (λ _ _ q=>q) (λ _ _ _ q=>q) (λ b ps q=>⟨#[],by rw [q]; simp⟩) (λ m hm=>?_) (λ b o q=>?_) I.bare
  ·obtain ⟨o,es,ep,ho,r⟩:=hm;exact ⟨o,es,ep,kp _ o (wr _ λ hb=>(hf _ hb).2.1 rfl) ho,r⟩
  ·refine (I.hok b o q).stay (λ c' v hc' z=>kp c' v (wr _ ?_) z) (λ _ z=>z) λ _ _ z=>z;rcases hc' with rfl | hc'
   ·exact nfp _ _ q
   ·exact nfp _ _ hc'
 self:=λ A i s Q E st h=>wpAny_pyIter_zip st.1 h
section
variable {X:Cx} {B:Bd} {a b:Expr} {fs:En->Option (List PD)} {pos pp:Pos}
def zpD:List PD->List PD->List PD
 | x::xs,y::ys=>.tuple [x,y]::zpD xs ys
 | _,_=>[]
def zpL (ds:List PD):Option (List PD):=match ds with
 | [.list xs,.list ys]=>some (zpD xs ys)
 | _=>none
theorem BD:∀ xs ys:List PD,(zpD xs ys).length=min xs.length ys.length
 | [],ys=>by simp [zpD]
 | x::xs,[]=>by simp [zpD]
 | x::xs,y::ys=>by rw [zpD,P8,BD xs ys,P8,P8]; omega
theorem Fk:∀ (xs ys:List PD) (i:Nat) (d:PD),(zpD xs ys)[i]?=some d->∃ x y,xs[i]?=some x/\ys[i]?=some y/\d=.tuple [x,y]
 | [],ys,i,d,h=>by simp [zpD] at h
 | x::xs,[],i,d,h=>by simp [zpD] at h
 | x::xs,y::ys,0,d,h=>by simp [zpD] at h; exact ⟨x,y,rfl,rfl,h.symm⟩
 | x::xs,y::ys,i+1,d,h=>by
  rw [zpD,List.getElem?_cons_succ] at h;obtain ⟨a,b,h1,h2,h3⟩:=Fk xs ys i d h;exact ⟨a,b,by simpa using h1,by simpa using h2,h3⟩
theorem Ku {l1 l2:Qd} {es:List PD} {ys:List V} (hq1:SqL K F l1 xs) (hq2:SqL K F l2 ys) (r1:RelL K F ds xs) (r2:RelL K F es ys):ItP K (Itz K l1 l2 (min ds.length es.length)) F (zpD ds es):=λ F1 H1 i s1 s2=>by
 have q1:SqL K H1 l1 xs:=s2.seq (s1.seq hq1);have q2:SqL K H1 l2 ys:=s2.seq (s1.seq hq2);have hl:min xs.length ys.length=min ds.length es.length:=by rw [r1.length,r2.length]
 refine ⟨λ d e=>?_,λ e=>⟨by rw [e,BD],xs,ys,q1,q2,hl⟩⟩;have hi:i < min ds.length es.length:=by
  have:=(PR.mp e).1
  rwa [BD] at this
 obtain ⟨x,y,h1,h2,h3⟩:=Fk _ _ _ _ e;obtain ⟨vx,hx,rx⟩:=r1.get h1;obtain ⟨vy,hy,ry⟩:=r2.get h2;refine ⟨⟨hi,xs,ys,vx,vy,q1,q2,hl,hx,hy⟩,λ v H2 z=>?_⟩;obtain ⟨T,x',y',hT,hxx,hyy,rfl,rfl⟩:=z;have e1:=(hxx xs q1).symm.trans hx;have e2:=(hyy ys q2).symm.trans hy;cases e1;cases e2;subst h3;have g:=Gr.one (o:=.tup [vx,vy]) s2 hT;exact ⟨_,g,kF (SqT.of aA) (.cons (rx.mono (s1.trans g.ff)) (.cons (ry.mono (s1.trans g.ff)) .nil))⟩
end
section
variable {X:Cx} {B:Bd} {a b:Expr} {fs:En->Option (List PD)} {pos pp:Pos}
theorem I.zip {elts:List Expr} {k:Nat} {tp:Pos} (hm:X.mg "zip" = none) (ha:A X B [a,b] fs) (hg:Gl X "zip" := by rfl) (hs:PX [a,b] X.env=(false,eval a X.env)::PX [b] X.env:=by exact bS rfl) (hpl:(backTo pos (PX [b] X.env)).any (·.1)=false:=by exact iN rfl) :
  I X B (.Tuple elts k tp) (.Call (.Name "zip" pp) [a,b] [] pos) (λ η=>(fs η).bind zpL):=by
 intro pz s σ H R I ⟨F,η,ds,sr,hd,q⟩;obtain ⟨es,h1,hd⟩:=ac hd;unfold zpL at hd;split at hd
 ·rename_i x y;cases hd;refine Call_ (uv I hg hm boot_zip (PyProof.Rows.callWith_type1 (thn (ha pos pz s σ H (λ vs H1=>∃ F',Gr F H F' H1/\RelL X.K F' [.list x,.list y] vs) I ⟨F,η,_,sr,h1,λ vs F' H' g r=>⟨F',g,r⟩⟩) λ us s1 ⟨vs,H1,I1,r1,F1,g1,rl⟩=>?_) hs hpl));obtain ⟨v1,r,rfl,ry1,rr⟩:=rl.cons_of;obtain ⟨v2,r',rfl,ry2,rr⟩:=rr.cons_of;obtain rfl:=rr.nil_of;obtain ⟨p1,xs,rfl,hq1,rs1⟩:=ry1.lst;obtain ⟨p2,ys,rfl,hq2,rs2⟩:=ry2.lst;obtain ⟨u1,u2,rfl,ru1,ru2⟩:=Fl r1;cases ru1;cases ru2;obtain ⟨its1,rv1,pl1,hz1⟩:=I1.list (g1.fh.seq hq1);obtain ⟨its2,rv2,pl2,hz2⟩:=I1.list (g1.fh.seq hq2);have hpl1:p1 < s1.heap.objs.size:=by
   obtain ⟨o,ho,_⟩:=pl1.isList;exact Qb ho
  have hpl2:p2 < s1.heap.objs.size:=by
   obtain ⟨o,ho,_⟩:=pl2.isList;exact Qb ho
  refine call_zip_2 pl1.isList pl2.isList λ h' hz hTI hTO hi1 hi2 hsz hk=>?_;refine wpAny_pyIter_zip hz ?_;have I2:Inv X pz σ H1 { s1 with heap:=h' }:=I1.kept (t':=s1.toks) hk;have nw:∀ b,s1.heap.objs.size<=b->uR X pz H1 b:=λ b hb=>I1.fpOk hb (I1.hok.fresh hb);have fpo:∀ b∈[s1.heap.objs.size+4,s1.heap.objs.size+2,s1.heap.objs.size+3,s1.heap.objs.size,s1.heap.objs.size+1],uR X pz H1 b:=λ b hb=>nw b (by
   simp only [Qh,Rj,or_false] at hb;rcases hb with rfl | rfl | rfl | rfl | rfl <;> omega)
  exact ⟨_,_,_,_,H1,rfl,I2,G8 (n:=min x.length y.length) (zipApart_new hpl1 hpl2),⟨hz,hTI,⟨_,_,hTO⟩,hi1,hi2⟩,fpo,q _ F1 H1 g1 (Ku hq1 hq2 rs1 rs2)⟩
 ·cases hd
end
section
variable {X:Cx} {B:Bd} {e:Expr} {fs:En->Option (List PD)} {pos pp:Pos}
def Hv (K:PH):List V->Hp->VK->Prop:=λ xs H Q=>∃ (p:Qd) (ys:List V),xs=[.ref p]/\SqL K H p ys/\∀ l,H l=none->Q (.ref l) (upd H l (.lst ys))
theorem Au:CallR X (.type "list") (Hv X.K):=by
 intro pz s σ H xs us Q I r h;obtain ⟨p,ys,rfl,hp,q⟩:=h;obtain ⟨u,rfl,ru⟩:=sU r;cases ru;obtain ⟨its,rv,pl,hz⟩:=I.list hp;obtain ⟨o,ho,hc,n,hd⟩:=pl.isList;have hz':ys.length<=P4:=by first | exact hz | (rw [rv.length]; exact hz)
 refine call_list_seq (hsz:=by rw [P6,<- rv.length]; exact hz') p (.inl rfl) ho hc hd λ h' c' hk hD=>?_;exact ⟨.ref s.heap.objs.size,_,I.laid (t':=s.toks) hk (PV _) (o:=.lst ys) ⟨hz',its,c',rv,hD⟩,rfl,q _ (I.hok.fresh (PV _))⟩
def BY (ds:List PD):Option PD:=match ds with
 | [.list xs]=>some (.list xs)
 | _=>none
theorem Jd:AdA K (Hv K) BY:=λ F H xs ds d Q sm rs e q=>by
 unfold BY at e;split at e
 ·rename_i es;cases e;obtain ⟨x,r,rfl,rx,rr⟩:=rs.cons_of;obtain rfl:=rr.nil_of;obtain ⟨a,ys,rfl,hq,r1⟩:=rx.lst;refine ⟨a,ys,rfl,sm.seq hq,λ p hp=>?_⟩;have g:=Gr.one (o:=.lst ys) sm hp;exact q _ _ _ g (kG (SqL.of aA) (r1.mono g.ff))
 ·cases e
theorem E.listL (hm:X.mg "list" = none) (ha:A X B [e] fs) (hg:Gl X "list" := by rfl) (he:PX [e] X.env=(false,eval e X.env)::PX [] X.env:=by exact bS rfl) (hpl:(backTo pos (PX [] X.env)).any (·.1)=false:=by rfl):E X B (.Call (.Name "list" pp) [e] [] pos) (lA BY fs) :=
 E.callTy Au Jd hm (by decide +kernel) ha hg (by decide) (by decide) he hpl
def sBk:En->Option Out:=λ η=>some (.bk η)
theorem S.brk:S X B (.Break pos) sBk:=PS.imp HD λ D σ H ⟨F,η,o,sr,hd,q⟩=>by
 cases hd;exact q σ F H sr (.refl _)
end
inductive D where
 | d (x:PD)
 | r (n:Nat)
variable {kvs:List (Key×D)}
inductive Cell where
 | obj (k:Nat) (fs:List (Str×D))
 | lst (ds:List D)
 | dct (kvs:List (Key×D))
 | fz (x:PD)
variable {c:Cell}
abbrev Sto:=List Cell
variable {fn:List D->Sto->Option (D×Sto)}
abbrev MEn:=List (Option D)
def DR (K:PH) (θ:List Qd) (F:Hp):D->V->Prop
 | .d x,v=>Rel K F x v
 | .r n,v=>∃ a,θ[n]?=some a/\v=.ref a
abbrev DRs (K:PH) (θ:List Qd) (F:Hp):List D->List V->Prop:=Paired (DR K θ F)
abbrev DRf (K:PH) (θ:List Qd) (F:Hp):List (Str×D)->List (Str×V)->Prop:=Paired λ p q=>p.1=q.1/\DR K θ F p.2 q.2
abbrev DRk (K:PH) (θ:List Qd) (F:Hp):List (Key×D)->List (Key×V)->Prop:=Paired λ p q=>p.1=q.1/\DR K θ F p.2 q.2
def CelR (K:PH) (cl:Nat->Qd) (θ:List Qd) (F H:Hp) (a:Qd):Cell->Prop
 | .obj k fs=>F a=none/\Cls K (cl k)/\(∀ f∈fs.map (·.1),NoAttr K (cl k) f)/\∃ dx xs,H a=some (.ins (cl k) dx xs)/\DRf K θ F fs xs
 | .lst ds=>F a=none/\∃ xs,H a=some (.lst xs)/\DRs K θ F ds xs
 | .dct kvs=>F a=none/\∃ ks,H a=some (.dK ks)/\DRk K θ F kvs ks
 | .fz x=>Rel K F x (.ref a)/\∃ o,H a=some o
structure MR (K:PH) (cl:Nat->Qd) (θ:List Qd) (F H:Hp) (s:Sto):Prop where
 sm:Same F H
 len:θ.length=s.length
 nd:θ.Nodup
 cel:∀ (n:Nat) a c,θ[n]?=some a->s[n]?=some c->CelR K cl θ F H a c
structure MV (K:PH) (θ:List Qd) (F:Hp) (σ:St) (η:MEn):Prop where
 len:η.length=σ.length
 val:∀ (i:Nat) d,η[i]?=some (some d)->∃ v,σ[i]?=some (some v)/\DR K θ F d v
section
variable {K:PH} {cl:Nat->Qd} {θ θ':List Qd} {F F' H H':Hp} {s:Sto} {σ:St} {η:MEn}
theorem nS {α:Type} {l l':List α} (h:l<+:l') {a:α} (e:l[n]?=some a):l'[n]?=some a:=by
 obtain ⟨t,rfl⟩:=h;rw [PM (PR.mp e).1]; exact e
theorem DR.mono (hp:θ<+:θ') (hs:Same F F'):∀ {d:D} {v:V},DR K θ F d v->DR K θ' F' d v
 | .d _,_,h=>Rel.mono hs h
 | .r _,_,⟨a,e1,e2⟩=>⟨a,nS hp e1,e2⟩
theorem DRs.mono (hp:θ<+:θ') (hs:Same F F') {ds:List D} (h:DRs K θ F ds vs):DRs K θ' F' ds vs:=Paired.mapP h λ _ _ r=>DR.mono hp hs r
theorem DRf.mono (hp:θ<+:θ') (hs:Same F F') {ds:List (Str×D)} {vs:List (Str×V)} (h:DRf K θ F ds vs):DRf K θ' F' ds vs:=Paired.mapP h λ _ _ r=>⟨r.1,DR.mono hp hs r.2⟩
theorem DRk.mono (hp:θ<+:θ') (hs:Same F F') {ds:List (Key×D)} {vs:List (Key×V)} (h:DRk K θ F ds vs):DRk K θ' F' ds vs:=Paired.mapP h λ _ _ r=>⟨r.1,DR.mono hp hs r.2⟩
theorem MV.mono (hp:θ<+:θ') (hs:Same F F') (h:MV K θ F σ η):MV K θ' F' σ η:=⟨h.len,λ i d e=>let ⟨v,e1,e2⟩:=h.val i d e; ⟨v,e1,e2.mono hp hs⟩⟩
theorem MV.set (h:MV K θ F σ η) (i:Nat) {d:D} {v:V} (r:DR K θ F d v):MV K θ F (σ.set i (some v)) (η.set i (some d)):=by
 refine ⟨by rw [Qa,Qa]; exact h.len,λ j d' e=>?_⟩;by_cases hj:i=j
 ·subst hj;by_cases hl:i < η.length
  ·rw [PY hl] at e;have e':d=d':=Option.some.inj (Option.some.inj e);subst e';exact ⟨v,by rw [PY (by rw [<- h.len]; exact hl)],r⟩
  ·rw [Qw (by rw [Qa]; omega)] at e; cases e
 ·rw [PK hj] at e ⊢; exact h.val j d' e
theorem DRs.get {ds:List D} (h:DRs K θ F ds vs) {d:D} (e:ds[i]?=some d):∃ v,vs[i]?=some v/\DR K θ F d v:=by
 induction h generalizing i with
 | nil=>simp at e
 | @cons a b as bs r t ih =>
  cases i with
  | zero=>simp at e; subst e; exact ⟨b,rfl,r⟩
  | succ i=>exact ih (by simpa using e)
theorem MR.grow (m:MR K cl θ F H s) (g:Gr F H F' H'):MR K cl θ F' H' s where
 sm:=g.fh
 len:=m.len
 nd:=m.nd
 cel:=λ n a c e1 e2=>by
  have q:=m.cel n a c e1 e2;have fr:F a=none->∀ o,H a=some o->F' a=none:=λ hF o hH=>by
   cases z:F' a with
   | none=>rfl
   | some u =>
    rcases g.new a (by rw [z]; simp) with y | y
    ·exact absurd hF y
    ·rw [hH] at y; cases y
  cases c with
  | obj k fs =>
   obtain ⟨h1,h2,h3,dx,xs,h4,h5⟩:=q;exact ⟨fr h1 _ h4,h2,h3,dx,xs,g.hh _ _ h4,h5.mono (Qi _) g.ff⟩
  | lst ds =>
   obtain ⟨h1,xs,h4,h5⟩:=q;exact ⟨fr h1 _ h4,xs,g.hh _ _ h4,h5.mono (Qi _) g.ff⟩
  | dct kvs =>
   obtain ⟨h1,xs,h4,h5⟩:=q;exact ⟨fr h1 _ h4,xs,g.hh _ _ h4,h5.mono (Qi _) g.ff⟩
  | fz x=>exact ⟨Rel.mono g.ff q.1,let ⟨o,e⟩:=q.2; ⟨o,g.hh _ _ e⟩⟩
def Mu:Cell->Bool
 | .fz _=>false
 | _=>true
theorem CelR.mut (h:CelR K cl θ F H a c) (hm:Mu c=true):F a=none/\∃ o,H a=some o:=by
 cases c with
 | obj k fs=>obtain ⟨h1,_,_,dx,xs,h4,_⟩:=h; exact ⟨h1,_,h4⟩
 | lst ds=>obtain ⟨h1,xs,h4,_⟩:=h; exact ⟨h1,_,h4⟩
 | dct kvs=>obtain ⟨h1,xs,h4,_⟩:=h; exact ⟨h1,_,h4⟩
 | fz x=>cases hm
theorem CelR.else {b:Qd} (h:CelR K cl θ F H a c) (hne:a≠b):CelR K cl θ F (upd H b o) a c:=by
 cases c with
 | obj k fs=>obtain ⟨h1,h2,h3,dx,xs,h4,h5⟩:=h; exact ⟨h1,h2,h3,dx,xs,by rw [aD hne]; exact h4,h5⟩
 | lst ds=>obtain ⟨h1,xs,h4,h5⟩:=h; exact ⟨h1,xs,by rw [aD hne]; exact h4,h5⟩
 | dct kvs=>obtain ⟨h1,xs,h4,h5⟩:=h; exact ⟨h1,xs,by rw [aD hne]; exact h4,h5⟩
 | fz x=>exact ⟨h.1,let ⟨o,e⟩:=h.2; ⟨o,by rw [aD hne]; exact e⟩⟩
theorem CelR.pre (hp:θ<+:θ') (h:CelR K cl θ F H a c):CelR K cl θ' F H a c:=by
 cases c with
 | obj k fs=>obtain ⟨h1,h2,h3,dx,xs,h4,h5⟩:=h; exact ⟨h1,h2,h3,dx,xs,h4,h5.mono hp (.refl _)⟩
 | lst ds=>obtain ⟨h1,xs,h4,h5⟩:=h; exact ⟨h1,xs,h4,h5.mono hp (.refl _)⟩
 | dct kvs=>obtain ⟨h1,xs,h4,h5⟩:=h; exact ⟨h1,xs,h4,h5.mono hp (.refl _)⟩
 | fz x=>exact h
theorem Ly {l:List Qd} (h:l.Nodup) {j:Nat} {b:Qd} (e1:l[i]?=some a) (e2:l[j]?=some b) (hne:i≠j):a≠b:=λ z=>by
 subst z;obtain ⟨l1,q1⟩:=PR.mp e1;obtain ⟨l2,q2⟩:=PR.mp e2;have pw:=List.pairwise_iff_getElem.mp h;rcases Nat.lt_or_gt_of_ne hne with z | z
 ·exact pw i j l1 l2 z (q1.trans q2.symm)
 ·exact pw j i l2 l1 z (q2.trans q1.symm)
theorem MR.put (m:MR K cl θ F H s) {c':Cell} (e1:θ[n]?=some a) (e2:s[n]?=some c) (hm:Mu c=true) (h:CelR K cl θ F (upd H a o) a c'):MR K cl θ F (upd H a o) (s.set n c') where
 sm:=λ b u q=>by
  have nb:b≠a:=aU q (CelR.mut (m.cel n a c e1 e2) hm).1;rw [aD nb]; exact m.sm b u q
 len:=by rw [Qa]; exact m.len
 nd:=m.nd
 cel:=λ k b c2 f1 f2=>by
  by_cases hk:n=k
  ·subst hk;rw [PY (PR.mp e2).1] at f2;cases f2;rw [e1] at f1;cases f1;exact h
  ·rw [PK hk] at f2;exact (m.cel k b c2 f1 f2).else (Ly m.nd f1 e1 (Ne.symm hk))
theorem CelR.there (h:CelR K cl θ F H a c):∃ o,H a=some o:=by
 cases c with
 | obj k fs=>obtain ⟨_,_,_,dx,xs,h4,_⟩:=h; exact ⟨_,h4⟩
 | lst ds=>obtain ⟨_,xs,h4,_⟩:=h; exact ⟨_,h4⟩
 | dct kvs=>obtain ⟨_,xs,h4,_⟩:=h; exact ⟨_,h4⟩
 | fz x=>exact h.2
theorem MR.ne (m:MR K cl θ F H s) (ha:H a=none) {b:Qd} (e:θ[k]?=some b):b≠a:=λ z=>by
 subst z;have hk:k < s.length:=by rw [<- m.len]; exact (PR.mp e).1
 obtain ⟨o,h⟩:=(m.cel k b _ e (Qk hk)).there;rw [ha] at h; cases h
theorem MR.new (m:MR K cl θ F H s) (ha:H a=none) (h:CelR K cl (θ++[a]) F (upd H a o) a c):MR K cl (θ++[a]) F (upd H a o) (s++[c]) where
 sm:=λ b u q=>by
  have nb:b≠a:=aU q (m.sm.free ha);rw [aD nb]; exact m.sm b u q
 len:=by rw [PL,PL,m.len]; rfl
 nd:=by
  rw [RI];refine ⟨m.nd,by simp,λ b hb b' hb'=>?_⟩;rw [Qt.mp hb'];obtain ⟨k,hk⟩:=RY hb;exact m.ne ha hk
 cel:=λ k b c2 f1 f2=>by
  by_cases hk:k < θ.length
  ·rw [PM hk] at f1;rw [PM (by rw [<- m.len]; exact hk)] at f2;exact ((m.cel k b c2 f1 f2).else (m.ne ha f1)).pre (QM _ _)
  ·have hk1:k=θ.length:=by
    have:=(PR.mp f1).1
    rw [PL] at this;have e1:[a].length=1:=rfl;omega
   subst hk1;rw [P0 (PV _),QE] at f1;rw [P0 (by rw [m.len]; exact PV _),m.len,QE] at f2;cases f1;cases f2;exact h
theorem MR.more (m:MR K cl θ F H s) (ha:H a=none):MR K cl θ F (upd H a o) s where
 sm:=λ b u q=>by
  have nb:b≠a:=aU q (m.sm.free ha);rw [aD nb]; exact m.sm b u q
 len:=m.len
 nd:=m.nd
 cel:=λ k b c f1 f2=>(m.cel k b c f1 f2).else (m.ne ha f1)
end
structure Wd where
 η:MEn
 s:Sto
def pD (s:Sto):D->Option PD
 | .d x=>some x
 | .r n=>match s[n]? with | some (.fz x)=>some x | _=>none
def LD:D->Option PD
 | .d x=>some x
 | .r _=>none
def xl:List D->Option (List PD)
 | []=>some []
 | d::r=>(LD d).bind λ x=>(xl r).bind λ xs=>some (x::xs)
def E1:List (Key×D)->Option (List (Key×PD))
 | []=>some []
 | (k,d)::r=>(LD d).bind λ x=>(E1 r).bind λ xs=>some ((k,x)::xs)
def lD (s:Sto):D->Option PD
 | .d x=>some x
 | .r n=>match s[n]? with
  | some (.fz x)=>some x
  | some (.lst ds)=>(xl ds).bind λ xs=>some (.list xs)
  | some (.dct kvs)=>(E1 kvs).bind λ xs=>some (.dict (prs xs))
  | _=>none
def vwS (g:D->Option PD) (s:Sto):Option D->Sl
 | none=>.un
 | some (.d x)=>.val x
 | some (.r n)=>match s[n]? with
  | some (.obj _ fs)=>.ob λ f=>(fs.lookup f).bind g
  | _=>match g (.r n) with | some x=>.val x | none=>.un
def vw (w:Wd):En:=w.η.map (vwS (pD w.s) w.s)
section
variable {K:PH} {cl:Nat->Qd} {θ θ':List Qd} {F F' H H':Hp} {s:Sto} {σ:St} {η:MEn} {w:Wd}
theorem DRf.look {fs:List (Str×D)} {xs:List (Str×V)} (h:DRf K θ F fs xs) (f:Str):(∀ d,fs.lookup f=some d->∃ v,xs.lookup f=some v/\DR K θ F d v)/\(fs.lookup f=none->xs.lookup f=none):=by
 induction h with
 | nil=>exact ⟨λ d e=>(by cases e),λ _=>rfl⟩
 | @cons a b as bs r t ih =>
  obtain ⟨ka,da⟩:=a;obtain ⟨kb,vb⟩:=b;have e:ka=kb:=r.1;subst e;by_cases hk:f=ka
  ·subst hk;simp only [List.lookup_cons_self];exact ⟨λ d e=>(by cases e; exact ⟨vb,rfl,r.2⟩),λ e=>(by cases e)⟩
  ·have hb:(f==ka)=false:=by simpa using hk
   simp only [Ra,hb];exact ih
theorem Dt {fs:List (Str×D)} {f:Str} {d:D} (h:fs.lookup f=some d):f∈fs.map (·.1):=by
 induction fs with
 | nil=>cases h
 | cons a r ih =>
  obtain ⟨k,x⟩:=a;by_cases hk:f=k
  ·subst hk; simp
  ·have hb:(f==k)=false:=by simpa using hk
   simp only [Ra,hb] at h;exact P3 _ (ih h)
def Sees (K:PH) (θ:List Qd) (F Fv:Hp) (g:D->Option PD):Prop:=∀ d x v,g d=some x->DR K θ F d v->Rel K Fv x v
theorem Nw {g:D->Option PD} {Fv:Hp} (m:MR K cl θ F H s) (e:MV K θ F σ η) (hs:Same Fv H) (hg:Sees K θ F Fv g) (hd:∀ x,g (.d x)=some x):SR K ⟨Fv,H⟩ Fv H σ (η.map (vwS g s)):=by
 have no:∀ (i:Nat) a,(η.map (vwS g s))[i]?=some a->nt a=false:=λ i a q=>by
  rw [P9] at q;cases h:η[i]? with
  | none=>rw [h] at q; cases q
  | some o =>
   rw [h] at q;have q':vwS g s o=a:=Option.some.inj q;subst q';unfold vwS
   split
   ·rfl
   ·rfl
   ·split
    ·rfl
    ·split <;> rfl
 refine ⟨.refl hs,⟨by rw [PJ]; exact e.len,λ i x q=>?_,λ i a q ha=>(by rw [no i a q] at ha; cases ha),λ i _ a _ q _ ha _ _=>(by rw [no i a q] at ha; cases ha),λ i fs q=>?_⟩⟩
 ·rw [P9] at q;cases h:η[i]? with
  | none=>rw [h] at q; cases q
  | some o =>
   rw [h] at q;have q':vwS g s o=.val x:=Option.some.inj q;unfold vwS at q';split at q'
   ·cases q'
   ·rename_i y
    have:y=x:=by injection q'
    subst this;obtain ⟨v,e1,e2⟩:=e.val i _ h;exact ⟨v,e1,hg _ _ _ (hd y) e2⟩
   ·rename_i n;split at q'
    ·cases q'
    ·split at q'
     ·rename_i y hy
      have:y=x:=by injection q'
      subst this;obtain ⟨v,e1,e2⟩:=e.val i _ h;exact ⟨v,e1,hg _ _ _ hy e2⟩
     ·cases q'
 ·rw [P9] at q;cases h:η[i]? with
  | none=>rw [h] at q; cases q
  | some o =>
   rw [h] at q;have q':vwS g s o=.ob fs:=Option.some.inj q;unfold vwS at q';split at q'
   ·cases q'
   ·cases q'
   ·rename_i n;split at q'
    ·rename_i k fs0 hc
     have:(λ f=>(fs0.lookup f).bind g)=fs:=by injection q'
     subst this;obtain ⟨v,e1,a,e2,e3⟩:=e.val i _ h;subst e3;obtain ⟨h1,h2,h3,dx,xs,h4,h5⟩:=m.cel n a _ e2 hc;refine ⟨a,cl k,dx,xs,e1,h4,h2,λ f d hf=>?_⟩;obtain ⟨D',hl,hx⟩:=ac hf;obtain ⟨v,e5,e6⟩:=(h5.look f).1 D' hl;exact ⟨h3 f (Dt hl),v,e5,hg _ _ _ hx e6⟩
    ·split at q' <;> cases q'
theorem qL (m:MR K cl θ F H s):Sees K θ F F (pD s):=λ d x v h r=>by
 cases d with
 | d y=>cases h; exact r
 | r n =>
  have h:(match s[n]? with | some (.fz x)=>some x | _=>none)=some x:=h;split at h
  ·rename_i y hy;cases h;obtain ⟨a,e1,e2⟩:=r;subst e2;exact (m.cel n a _ e1 hy).1
  ·cases h
theorem MR.vw (m:MR K cl θ F H w.s) (e:MV K θ F σ w.η):SR K ⟨F,H⟩ F H σ (vw w):=Nw m e m.sm (qL m) λ _=>rfl
def yw (θ:List Qd) (F H:Hp):Hp:=λ b=>match F b with | some o=>some o | none=>if b∈θ then H b else none
theorem Ko (θ:List Qd) (F H:Hp):Same F (yw θ F H):=λ b u q=>by unfold yw; rw [q]
theorem Kp {θ:List Qd} {F H:Hp} (h:Same F H):Same (yw θ F H) H:=λ b u q=>by
 unfold yw at q;split at q
 ·rename_i o ho; rw [<- q]; exact h _ _ ho
 ·split at q
  ·exact q
  ·cases q
theorem FW {θ:List Qd} {F H:Hp} (e:θ[n]?=some a) (hF:F a=none) (hH:H a=some o):yw θ F H a=some o:=by
 unfold yw;rw [hF];dsimp only;rw [if_pos (RX e)]; exact hH
theorem DM {ds:List D} (h:DRs K θ F ds xs):∀ {ys:List PD},xl ds=some ys->RelL K F ys xs:=by
 induction h with
 | nil=>intro ys e; cases e; exact .nil
 | @cons a b as bs r t ih =>
  intro ys e;unfold xl at e;obtain ⟨x,h1,e⟩:=ac e;obtain ⟨zs,h2,e⟩:=ac e;cases e;cases a with
  | d y=>cases h1; exact .cons r (ih h2)
  | r n=>cases h1
theorem IQ {ds:List (Key×D)} {xs:List (Key×V)} (h:DRk K θ F ds xs):∀ {ys:List (Key×PD)},E1 ds=some ys->RelD K F (prs ys) xs:=by
 induction h with
 | nil=>intro ys e; cases e; exact .nil
 | @cons a b as bs r t ih =>
  intro ys e;obtain ⟨ka,da⟩:=a;obtain ⟨kb,vb⟩:=b;have hk:ka=kb:=r.1;subst hk;unfold E1 at e;obtain ⟨x,h1,e⟩:=ac e;obtain ⟨zs,h2,e⟩:=ac e;cases e;cases da with
  | d y=>cases h1; exact RelD.cons r.2 (ih h2)
  | r n=>cases h1
theorem Hm (m:MR K cl θ F H s):Sees K θ F (yw θ F H) (lD s):=λ d x v h r=>by
 have sm:=Ko θ F H;cases d with
 | d y=>cases h; exact Rel.mono sm r
 | r n =>
  have h:(match s[n]? with | some (.fz x)=>some x | some (.lst ds)=>(xl ds).bind λ xs=>some (.list xs) | some (.dct kvs)=>(E1 kvs).bind λ xs=>some (.dict (prs xs)) | _=>none)=some x:=h;obtain ⟨a,e1,e2⟩:=r;subst e2;split at h
  ·rename_i y hy;cases h;exact Rel.mono sm (m.cel n a _ e1 hy).1
  ·rename_i ds hy;obtain ⟨ys,h1,h2⟩:=ac h;cases h2;obtain ⟨q1,xs,q2,q3⟩:=m.cel n a _ e1 hy;exact kG (SqL.of (FW e1 q1 q2)) ((DM q3 h1).mono sm)
  ·rename_i kvs hy;obtain ⟨ys,h1,h2⟩:=ac h;cases h2;obtain ⟨q1,ks,q2,q3⟩:=m.cel n a _ e1 hy;exact Fx (.inl (FW e1 q1 q2)) ((IQ q3 h1).mono sm)
  ·cases h
end
abbrev MF:=Wd->Option (D×Sto)
variable {f:MF}
abbrev MFs:=Wd->Option (List D×Sto)
section
variable (K:PH) (cl:Nat->Qd)
def tM (f:MF):TE:=λ σ H Q=>∃ θ F w d s',MR K cl θ F H w.s/\MV K θ F σ w.η/\f w=some (d,s')/\∀ v θ' F' H',θ<+:θ'->Same F F'->MR K cl θ' F' H' s'->DR K θ' F' d v->Q v H'
def tMT (f:Wd->Option (Bool×Sto)):TT:=λ σ H Q=>∃ θ F w b s',MR K cl θ F H w.s/\MV K θ F σ w.η/\f w=some (b,s')/\∀ θ' F' H',θ<+:θ'->Same F F'->MR K cl θ' F' H' s'->Q b H'
def tMA (f:MFs):TA:=λ σ H Q=>∃ θ F w ds s',MR K cl θ F H w.s/\MV K θ F σ w.η/\f w=some (ds,s')/\∀ vs θ' F' H',θ<+:θ'->Same F F'->MR K cl θ' F' H' s'->DRs K θ' F' ds vs->Q vs H'
end
def ME (X:Cx) (cl:Nat->Qd) (e:Expr) (f:MF):Prop:=PE X e (tM X.K cl f)
abbrev MTF:=Wd->Option (Bool×Sto)
def MT (X:Cx) (cl:Nat->Qd) (e:Expr) (f:MTF):Prop:=PT X e (tMT X.K cl f)
def MTW (X:Cx) (cl:Nat->Qd) (e:Expr) (f:MTF):Prop:=PW X e (tMT X.K cl f)
def MA (X:Cx) (cl:Nat->Qd) (es:List Expr) (f:MFs):Prop:=PA X es (tMA X.K cl f)
def mP (f:En->Option PD):MF:=λ w=>(f (vw w)).bind λ x=>some (.d x,w.s)
def mN (f:En->Option (List PD)):MF:=λ w=>(f (vw w)).bind λ xs=>some (.r w.s.length,w.s++[.lst (xs.map .d)])
def mV (i:Nat):MF:=λ w=>match w.η[i]? with | some (some d)=>some (d,w.s) | _=>none
def tPv (f:En->Option Bool):MTF:=λ w=>(f (vw w)).bind λ b=>some (b,w.s)
section
variable {X:Cx} {cl:Nat->Qd} {a b c e o:Expr} {es:List Expr} {f g:MF} {fs:MFs} {p:En->Option PD} {ps:En->Option (List PD)} {pt:En->Option Bool} {pos:Pos}
theorem af (h:∀ B,E X B e p):ME X cl e (mP p):=λ pz s σ H Q I ⟨θ,F,w,d,s',m,v,hf,q⟩=>by
 obtain ⟨x,hx,hf⟩:=ac hf;cases hf;exact h ⟨F,H⟩ pz s σ H Q I ⟨F,vw w,x,m.vw v,hx,λ u F' H' g r=>q u θ F' H' (Qi _) g.ff (m.grow g) r⟩
theorem Km {F':Hp} {p:Qd} (sm:Same F H) (g:Gr F H F' H') (hp:H p=none) (fp:F' p=none) (hp':H' p=some (.lst xs)) (rs:RelL K F' ds xs):Gr F H (upd F' p (.lst xs)) H'/\Rel K (upd F' p (.lst xs)) (.list ds) (.ref p):=by
 have sn:=cL (H:=F') fp (.lst xs);refine ⟨⟨g.ff.trans sn,g.hh,λ b u z=>?_,λ b z=>?_⟩,kG (SqL.of aA) (rs.mono sn)⟩
 ·by_cases e:b=p
  ·subst e; rw [aA] at z; rw [<- z]; exact hp'
  ·rw [aD e] at z; exact g.fh _ _ z
 ·by_cases e:b=p
  ·subst e; exact .inr hp
  ·rw [aD e] at z; exact g.new b z
theorem BO {K:PH} {θ:List Qd} {F:Hp}:∀ {xs:List PD} {vs:List V},RelL K F xs vs->DRs K θ F (xs.map .d) vs
 | [],_,h=>by rw [h.nil_of]; exact .nil
 | x::xs,vs,h=>by
  obtain ⟨v,r,rfl,h1,h2⟩:=h.cons_of;exact .cons h1 (BO h2)
theorem ME.nw (h:∀ B,EO X B e ps):ME X cl e (mN ps):=λ pz s σ H Q I ⟨θ,F,w,d,s',m,v,hf,q⟩=>by
 obtain ⟨x,hx,hf⟩:=ac hf;cases hf;refine h ⟨F,H⟩ pz s σ H Q I ⟨F,vw w,x,m.vw v,hx,λ p xs F' H' g hp fp hp' rs=>?_⟩;have m1:=m.grow g;have na:∀ (k:Nat) b,θ[k]?=some b->b≠p:=λ k b e=>m.ne hp e;have pre:θ<+:θ++[p]:=QM _ _;refine q _ (θ++[p]) F' H' pre g.ff ⟨m1.sm,by rw [PL,PL,m1.len]; rfl,?_,λ k b c2 f1 f2=>?_⟩ ⟨p,by rw [<- m.len,P0 (PV _),QE]; rfl,rfl⟩
 ·rw [RI];refine ⟨m.nd,by simp,λ b hb b' hb'=>?_⟩;rw [Qt.mp hb'];obtain ⟨k,hk⟩:=RY hb;exact na k b hk
 ·by_cases hk:k < θ.length
  ·rw [PM hk] at f1;rw [PM (by rw [<- m.len]; exact hk)] at f2;exact (m1.cel k b c2 f1 f2).pre pre
  ·have hk1:k=θ.length:=by
    have:=(PR.mp f1).1
    rw [PL] at this;have e1:[p].length=1:=rfl;omega
   subst hk1;rw [P0 (PV _),QE] at f1;rw [P0 (by rw [m.len]; exact PV _),m.len,QE] at f2;cases f1;cases f2;exact ⟨fp,xs,hp',BO rs⟩
theorem a8 (i:Nat) (hN:X.N[i]?=some x:=by rfl) (hv:Vis X.env.scope x:=by first | exact Or.inl rfl | exact Or.inr (Or.inl rfl) | exact Or.inr (Or.inr rfl)) (hd:Nd x:=by decide)
  (hcd:(x==("__classdict__" : Str))=false:=by decide):ME X cl (.Name x pos) (mV i) :=
 PE.imp (qT hN hv hd hcd) λ σ H Q ⟨θ,F,w,d,s',m,v,hf,q⟩=>by
  unfold mV at hf;split at hf
  ·rename_i d' e;cases hf;obtain ⟨u,e1,e2⟩:=v.val i _ e;exact ⟨u,e1,q u θ F H (Qi _) (.refl _) m e2⟩
  ·cases hf
theorem qi (h:∀ B,T X B e pt):MT X cl e (tPv pt):=λ pz s σ H Q I ⟨θ,F,w,b,s',m,v,hf,q⟩=>by
 obtain ⟨c,hx,hf⟩:=ac hf;cases hf;exact h ⟨F,H⟩ pz s σ H Q I ⟨F,vw w,_,m.vw v,hx,λ F' H' g=>q θ F' H' (Qi _) g.ff (m.grow g)⟩
def zr (f:MTF):MTF:=λ w=>(f w).bind λ r=>some (!r.1,r.2)
def t6 (f g:MTF):MTF:=λ w=>(f w).bind λ r=>if r.1=true then g ⟨w.η,r.2⟩ else some (false,r.2)
def CP (f g:MTF):MTF:=λ w=>(f w).bind λ r=>if r.1=true then some (true,r.2) else g ⟨w.η,r.2⟩
variable {ta tb:MTF} {rest:List Expr}
theorem MT.not (ha:MT X cl a ta):MT X cl (.UnaryOp .Not a pos) (zr ta):=PT.imp (Em ha) λ σ H Q ⟨θ,F,w,b,s',m,v,hf,q⟩=>by
 obtain ⟨⟨c,s1⟩,hx,hf⟩:=ac hf;cases hf;exact ⟨θ,F,w,c,_,m,v,hx,q⟩
theorem MTW.t (h:MTW X cl a ta):MT X cl a ta:=PW.pt h
theorem MTW.and1 (ha:MT X cl a ta):MTW X cl (.BoolOp .And [a] pos) ta:=pw_and1 ha
theorem MTW.or1 (ha:MT X cl a ta):MTW X cl (.BoolOp .Or [a] pos) ta:=pw_or1 ha
theorem MTW.and (ha:MT X cl a ta) (hb:MTW X cl (.BoolOp .And (b::rest) pos) tb):MTW X cl (.BoolOp .And (a::b::rest) pos) (t6 ta tb):=PW.imp (pw_and ha hb) λ σ H Q ⟨θ,F,w,b,s',m,v,hf,q⟩=>by
 obtain ⟨⟨c,s1⟩,hx,hf⟩:=ac hf;refine ⟨θ,F,w,c,s1,m,v,hx,λ θ1 F1 H1 p1 q1 m1=>?_⟩;cases c with
 | false =>
  rw [if_neg PN] at hf ⊢;cases hf;exact q θ1 F1 H1 p1 q1 m1
 | true =>
  rw [if_pos rfl] at hf ⊢;exact ⟨θ1,F1,⟨w.η,s1⟩,b,s',m1,v.mono p1 q1,hf,λ θ2 F2 H2 p2 q2 m2=>q θ2 F2 H2 (p1.trans p2) (q1.trans q2) m2⟩
theorem MTW.or (ha:MT X cl a ta) (hb:MTW X cl (.BoolOp .Or (b::rest) pos) tb):MTW X cl (.BoolOp .Or (a::b::rest) pos) (CP ta tb):=PW.imp (pw_or ha hb) λ σ H Q ⟨θ,F,w,b,s',m,v,hf,q⟩=>by
 obtain ⟨⟨c,s1⟩,hx,hf⟩:=ac hf;refine ⟨θ,F,w,c,s1,m,v,hx,λ θ1 F1 H1 p1 q1 m1=>?_⟩;cases c with
 | true =>
  rw [if_pos rfl] at hf ⊢;cases hf;exact q θ1 F1 H1 p1 q1 m1
 | false =>
  rw [if_neg PN] at hf ⊢;exact ⟨θ1,F1,⟨w.η,s1⟩,b,s',m1,v.mono p1 q1,hf,λ θ2 F2 H2 p2 q2 m2=>q θ2 F2 H2 (p1.trans p2) (q1.trans q2) m2⟩
def mOp (o:PD->PD->Option PD) (f g:MF):MF:=λ w=>(f w).bind λ r=>(g ⟨w.η,r.2⟩).bind λ q=>(pD q.2 r.1).bind λ x=>(pD q.2 q.1).bind λ y=>(o x y).bind λ z=>some (.d z,q.2)
def dP (o:PD->PD->Option PD) (f g:MF):MF:=λ w=>(f w).bind λ r=>(g ⟨w.η,r.2⟩).bind λ q=>(lD q.2 r.1).bind λ x=>(lD q.2 q.1).bind λ y=>(o x y).bind λ z=>if oS z=true then some (.d z,q.2) else none
theorem Lx {o:PD->PD->Option PD} (ad:Ad2 X.K r o):∀ σ H Q,tM X.K cl (mOp o f g) σ H Q->tOp r (tM X.K cl f) (tM X.K cl g) σ H Q:=λ σ H Q ⟨θ,F,w,d,s',m,v,hf,q⟩=>by
 obtain ⟨⟨d1,s1⟩,h1,hf⟩:=ac hf;obtain ⟨⟨d2,s2⟩,h2,hf⟩:=ac hf;obtain ⟨x,hx,hf⟩:=ac hf;obtain ⟨y,hy,hf⟩:=ac hf;obtain ⟨z,hz,hf⟩:=ac hf;cases hf;refine ⟨θ,F,w,d1,s1,m,v,h1,λ u θ1 F1 H1 p1 q1 m1 r1=>⟨θ1,F1,⟨w.η,s1⟩,d2,_,m1,v.mono p1 q1,h2,λ u2 θ2 F2 H2 p2 q2 m2 r2=>?_⟩⟩;exact ad F2 H2 u u2 x y z Q m2.sm (qL m2 _ _ _ hx (r1.mono p2 q2)) (qL m2 _ _ _ hy r2) hz λ t F3 H3 g3 rt=>q t θ2 F3 H3 (p1.trans p2) (q1.trans (q2.trans g3.ff)) (m2.grow g3) rt
theorem Ib {o:PD->PD->Option PD} (ad:Ad2 X.K r o):∀ σ H Q,tM X.K cl (dP o f g) σ H Q->tOp r (tM X.K cl f) (tM X.K cl g) σ H Q:=λ σ H Q ⟨θ,F,w,d,s',m,v,hf,q⟩=>by
 obtain ⟨⟨d1,s1⟩,h1,hf⟩:=ac hf;obtain ⟨⟨d2,s2⟩,h2,hf⟩:=ac hf;obtain ⟨x,hx,hf⟩:=ac hf;obtain ⟨y,hy,hf⟩:=ac hf;obtain ⟨z,hz,hf⟩:=ac hf;split at hf
 ·rename_i hfl;cases hf;refine ⟨θ,F,w,d1,s1,m,v,h1,λ u θ1 F1 H1 p1 q1 m1 r1=>⟨θ1,F1,⟨w.η,s1⟩,d2,_,m1,v.mono p1 q1,h2,λ u2 θ2 F2 H2 p2 q2 m2 r2=>?_⟩⟩;exact ad (yw θ2 F2 H2) H2 u u2 x y z Q (Kp m2.sm) (Hm m2 _ _ _ hx (r1.mono p2 q2)) (Hm m2 _ _ _ hy r2) hz λ t F3 H3 g3 rt=>q t θ2 F2 H3 (p1.trans p2) (q1.trans q2) (m2.grow (Gr.back m2.sm g3)) (II hfl rt)
 ·cases hf
theorem ME.op {op:Operator} (ho:OpR X (binaryOp op) r) (ad:Ad2 X.K r oo) (ha:ME X cl a f) (hb:ME X cl b g):ME X cl (.BinOp a op b pos) (mOp oo f g):=PE.imp (Dc ho ha hb) (Lx ad)
theorem ME.cmp {op:CmpOp} (ho:OpR X (QD op) r) (ad:Ad2 X.K r oo) (hm:QH op b=false) (ha:ME X cl a f) (hb:ME X cl b g):ME X cl (.Compare a [op] [b] pos) (dP oo f g):=PE.imp (FG ho ha hb hm) (Ib ad)
theorem ME.ix (hr:IxR X r) (ad:Ad2 X.K r oo) (ha:ME X cl a f) (hb:ME X cl b g) (hs:uZ b:=by intro _ _; rfl):ME X cl (.Subscript a b pos) (mOp oo f g):=PE.imp (HJ hr ha hb hs) (Lx ad)
def mB (f:MF):MTF:=λ w=>(f w).bind λ r=>match r.1 with | .d x=>(asB x).bind λ b=>some (b,r.2) | _=>none
theorem MT.cmp {op:CmpOp} (ho:OpR X (QD op) r) (ad:Ad2 X.K r oo) (hm:QH op b=false) (ha:ME X cl a f) (hb:ME X cl b g):MT X cl (.Compare a [op] [b] pos) (mB (dP oo f g)) :=
 PT.imp (BP ho ha hb hm) λ σ H Q ⟨θ,F,w,c,s',m,v,hf,q⟩=>by
  obtain ⟨⟨d,s1⟩,h1,hf⟩:=ac hf;cases d with
  | r n=>cases hf
  | d x =>
   dsimp only at hf;obtain ⟨b,hb,hf⟩:=ac hf;cases hf;obtain rfl:=jH hb;exact Ib ad σ H _ ⟨θ,F,w,_,_,m,v,h1,λ u θ1 F1 H1 p1 q1 m1 r1=>⟨c,(show Rel X.K F1 (.bool c) u from r1).bl,q θ1 F1 H1 p1 q1 m1⟩⟩
theorem MT.val (he:ME X cl e f) (hi:∀ whole,isTrue e X.env whole=(do let v <- whole; standAt e.pos; holding [v] (truthy v)):=by intro _; rfl):MT X cl e (mB f):=PT.imp (El he hi) λ σ H Q ⟨θ,F,w,c,s',m,v,hf,q⟩=>by
 obtain ⟨⟨d,s1⟩,h1,hf⟩:=ac hf;cases d with
 | r n=>cases hf
 | d x =>
  dsimp only at hf;obtain ⟨b,hb,hf⟩:=ac hf;cases hf;obtain rfl:=jH hb;exact ⟨θ,F,w,_,_,m,v,h1,λ u θ1 F1 H1 p1 q1 m1 r1=>⟨c,(show Rel X.K F1 (.bool c) u from r1).bl,q θ1 F1 H1 p1 q1 m1⟩⟩
def maN:MFs:=λ w=>some ([],w.s)
def maC (f:MF) (fs:MFs):MFs:=λ w=>(f w).bind λ r=>(fs ⟨w.η,r.2⟩).bind λ rs=>some (r.1::rs.1,rs.2)
theorem aQ:MA X cl [] maN:=PA.imp pJ λ σ H Q ⟨θ,F,w,ds,s',m,v,hf,q⟩=>by
 cases hf;exact q [] θ F H (Qi _) (.refl _) m .nil
theorem ag (ha:ME X cl e f) (hr:MA X cl es fs) (hs:PX (e::es) X.env=(false,eval e X.env)::PX es X.env:=by exact bS rfl):MA X cl (e::es) (maC f fs):=PA.imp (iF ha hr hs) λ σ H Q ⟨θ,F,w,ds,s',m,v,hf,q⟩=>by
 obtain ⟨⟨d,s1⟩,h1,hf⟩:=ac hf;obtain ⟨⟨ds2,s2⟩,h2,hf⟩:=ac hf;cases hf;refine ⟨θ,F,w,d,s1,m,v,h1,λ u θ1 F1 H1 p1 q1 m1 r1=>⟨θ1,F1,⟨w.η,s1⟩,ds2,s2,m1,v.mono p1 q1,h2,λ us θ2 F2 H2 p2 q2 m2 r2=>?_⟩⟩;exact q (u::us) θ2 F2 H2 (p1.trans p2) (q1.trans q2) m2 (.cons (r1.mono p2 q2) r2)
def vg (o:MF) (f:Str):MF:=λ w=>(o w).bind λ r=>match r.1 with
 | .r n=>(match r.2[n]? with | some (.obj _ fs)=>(fs.lookup f).bind λ d=>some (d,r.2) | _=>none)
 | _=>none
theorem ME.fld {f:Str} {g:MF} (ho:ME X cl o g) (hb:attributeBase o f X.env (eval o X.env)=eval o X.env:=by rfl):ME X cl (.Attribute o f pos) (vg g f) :=
 PE.imp (HM ho hb) λ σ H Q ⟨θ,F,w,d,s',m,v,hf,q⟩=>by
  obtain ⟨⟨d0,s0⟩,h0,hf⟩:=ac hf;cases d0 with
  | d x=>cases hf
  | r n =>
   dsimp only at hf;split at hf
   ·rename_i k fs hc;obtain ⟨d1,hl,hf⟩:=ac hf;cases hf;refine ⟨θ,F,w,.r n,_,m,v,h0,λ u θ1 F1 H1 p1 q1 m1 r1=>?_⟩;obtain ⟨a,e1,rfl⟩:=r1;obtain ⟨h1,h2,h3,dx,xs,h4,h5⟩:=m1.cel n a _ e1 hc;obtain ⟨u,e5,e6⟩:=(h5.look f).1 _ hl;exact ⟨a,cl k,dx,xs,u,rfl,h4,h2,h3 f (Dt hl),e5,q u θ1 F1 H1 p1 q1 m1 e6⟩
   ·cases hf
end
def gR (i:Nat) (f:Str):En->Option PD:=λ η=>match η[i]? with | some (.ob fs)=>fs f | _=>none
theorem kE (i:Nat) {B:Bd} {f:Str} {npos pos:Pos} (hN:X.N[i]?=some x:=by rfl) (hv:Vis X.env.scope x:=by first | exact Or.inl rfl | exact Or.inr (Or.inl rfl) | exact Or.inr (Or.inr rfl)) (hd:Nd x:=by decide)
  (hcd:(x==("__classdict__" : Str))=false:=by decide) (hb:attributeBase (.Name x npos) f X.env (eval (.Name x npos) X.env)=eval (.Name x npos) X.env:=by rfl):E X B (.Attribute (.Name x npos) f pos) (gR i f) :=
 PE.imp (HM (qT hN hv hd hcd) hb) λ σ H Q ⟨F,η,d,sr,hd,q⟩=>by
  unfold gR at hd;split at hd
  ·rename_i fs e;obtain ⟨p,C,dx,xs,e1,e2,e3,e4⟩:=sr.en.obs i fs e;obtain ⟨n,v,h1,h2⟩:=e4 f d hd;exact ⟨_,e1,p,C,dx,xs,v,rfl,e2,e3,n,h1,q v F H (.refl sr.same) h2⟩
  ·cases hd
def spM (K:PH) (cl:Nat->Qd) (fn:List D->Sto->Option (D×Sto)):Sp:=λ vs H Q _=>∃ θ F s ds d s',MR K cl θ F H s/\DRs K θ F ds vs/\fn ds s=some (d,s')/\∀ v θ' F' H',θ<+:θ'->Same F F'->MR K cl θ' F' H' s'->DR K θ' F' d v->Q v H'
def g6 (fn:List D->Sto->Option (D×Sto)) (fs:MFs):MF:=λ w=>(fs w).bind λ r=>fn r.1 r.2
section
variable {X:Cx} {cl:Nat->Qd} {e o:Expr} {es:List Expr} {g:MF} {fs:MFs} {pos:Pos}
theorem ME.call {ppos:Pos} (G:FnOk X.prog X.w X.K X.mg X.base CX0 k fa fd ps (spM X.K cl fn)) (hr:Room k' X.A) (hkk:k<=k') (hm:X.mg x=some (.ref fa)) (hk:QQ X.K (.ref fa)=true) (hb:Binds X.K fd ps [])
  (ha:MA X cl (e::es) fs) (hg:Gl X x:=by rfl) (hdb:Nd x:=by decide) (he:PX (e::es) X.env=(false,eval e X.env)::PX es X.env:=by exact bS rfl) (hpl:(backTo pos (PX es X.env)).any (·.1)=false:=by exact iN rfl) :
  ME X cl (.Call (.Name x ppos) (e::es) [] pos) (g6 fn fs):=PE.imp (BU G (hr.mono hkk) hg hm hk hb .nil Bl ha hdb he hpl) λ σ H Q ⟨θ,F,w,d,s',m,v,hf,q⟩=>by
 obtain ⟨⟨ds,s1⟩,h1,hf⟩:=ac hf;refine ⟨θ,F,w,ds,s1,m,v,h1,λ vs θ1 F1 H1 p1 q1 m1 r1=>?_⟩;show spM X.K cl fn (vs++[]) H1 Q E0;rw [Qr];exact ⟨θ1,F1,s1,ds,d,s',m1,r1,hf,λ u θ2 F2 H2 p2 q2 m2 r2=>q u θ2 F2 H2 (p1.trans p2) (q1.trans q2) m2 r2⟩
theorem ME.call0 {ppos:Pos} (G:FnOk X.prog X.w X.K X.mg X.base CX0 k fa fd ps (spM X.K cl fn)) (hr:Room k' X.A) (hkk:k<=k') (hm:X.mg x=some (.ref fa)) (hk:QQ X.K (.ref fa)=true) (hb:Binds X.K fd ps [])
  (hg:Gl X x:=by rfl) (hdb:Nd x:=by decide) :
  ME X cl (.Call (.Name x ppos) [] [] pos) (g6 fn maN):=PE.imp (HR G (hr.mono hkk) hg hm hk hb .nil Bl hdb) λ σ H Q ⟨θ,F,w,d,s',m,v,hf,q⟩=>by
 obtain ⟨⟨ds,s1⟩,h1,hf⟩:=ac hf;cases h1;exact ⟨θ,F,w.s,[],d,s',m,.nil,hf,q⟩
def bu (k:Nat) (nm:Str) (fn:List D->Sto->Option (D×Sto)) (o:MF) (fs:MFs):MF:=λ w=>(o w).bind λ r=>match r.1 with
 | .r n=>(match r.2[n]? with
  | some (.obj k' as)=>if k'=k/\as.lookup nm=none then (fs ⟨w.η,r.2⟩).bind λ rs=>fn (.r n::rs.1) rs.2 else none
  | _=>none)
 | _=>none
theorem Ke:∀ σ H Q,tM X.K cl (bu k nm fn g fs) σ H Q->Lg (cl k) nm (spM X.K cl fn) [] E0 (tM X.K cl g) (tMA X.K cl fs) σ H Q:=λ σ H Q ⟨θ,F,w,d,s',m,v,hf,q⟩=>by
 obtain ⟨⟨d0,s0⟩,h0,hf⟩:=ac hf;cases d0 with
 | d x=>cases hf
 | r n =>
  dsimp only at hf;split at hf
  ·rename_i k' as hc;split at hf
   ·rename_i hk;obtain ⟨⟨ds,s1⟩,h1,hf⟩:=ac hf;obtain ⟨hk1,hk2⟩:=hk;rw [hk1] at hc;refine ⟨θ,F,w,.r n,s0,m,v,h0,λ u θ1 F1 H1 p1 q1 m1 r1=>?_⟩;obtain ⟨a,e1,rfl⟩:=id r1;obtain ⟨c1,c2,c3,dx,xs,c4,c5⟩:=m1.cel n a _ e1 hc;refine ⟨a,dx,xs,rfl,c4,(c5.look nm).2 hk2,θ1,F1,⟨w.η,s0⟩,ds,s1,m1,v.mono p1 q1,h1,λ vs θ2 F2 H2 p2 q2 m2 r2=>?_⟩;show spM X.K cl fn (.ref a::(vs++[])) H2 Q E0;rw [Qr];exact ⟨θ2,F2,s1,.r n::ds,d,s',m2,.cons (DR.mono p2 q2 r1) r2,hf,λ u θ3 F3 H3 p3 q3 m3 r3=>q u θ3 F3 H3 (p1.trans (p2.trans p3)) (q1.trans (q2.trans q3)) m3 r3⟩
   ·cases hf
  ·cases hf
theorem bz {pl:Sem Bool} {apos:Pos} (ho:ME X cl o g) (c:Cls X.K (cl kc)) (hm:Meth X.K (cl kc) nm fa) (G:FnOk X.prog X.w X.K X.mg X.base CX0 k fa fd ps (spM X.K cl fn)) (hr:Room k' X.A) (hkk:k<=k') (hb:Binds X.K fd ps [])
  (ha:MA X cl (e::es) fs) (hst:PX (e::es) X.env=(false,eval e X.env)::PX es X.env:=by exact bS rfl) (hpl:(backTo pos (PX es X.env)).any (·.1)=false:=by exact iN rfl)
  (ht:eval (.Call (.Attribute o nm apos) (e::es) [] pos) X.env=(do
   let ov <- eval o X.env
   standAt apos.atName
   let (f,first) <- holding [ov] (getMethod ov nm pl)
   callWith pos f first (backTo pos (PX (e::es) X.env)) (backToKw pos (keywordEach [] X.env))):=by rfl):ME X cl (.Call (.Attribute o nm apos) (e::es) [] pos) (bu kc nm fn g fs) :=
 PE.imp (FD (pl:=pl) ho c hm G (hr.mono hkk) hb .nil Bl ha hst hpl ht) Ke
def qv (k:Nat) (fn:List D->Sto->Option (D×Sto)) (fs:MFs):MF:=λ w=>(fs w).bind λ r=>(fn (.r r.2.length::r.1) (r.2++[.obj k []])).bind λ q=>match q.1 with
 | .d .none=>some (.r r.2.length,q.2)
 | _=>none
theorem Kg {s:Sto} (c:Cls K (cl kc)) (m:MR K cl θ F H s) {x dx:Qd} (hx:H x=none) (hdx:H dx=none) (hne:dx≠x) :
  MR K cl (θ++[x]) F (upd (upd H dx (.own x)) x (.ins (cl kc) dx [])) (s++[.obj kc []]):=by
 have m1:=m.more (o:=.own x) hdx;have hx1:upd H dx (.own x) x=none:=by rw [aD (Ne.symm hne)]; exact hx
 exact m1.new hx1 ⟨m1.sm.free hx1,c,λ f hf=>(by cases hf),dx,[],aA,.nil⟩
theorem FS {fn:List D->Sto->Option (D×Sto)} (c:Cls X.K (cl kc)) {s s':Sto} {ds:List D} {d:D} {Q:VK} (m:MR X.K cl θ F H s) (r:DRs X.K θ F ds vs)
  (hf:((fn (.r s.length::ds) (s++[.obj kc []])).bind λ q=>match q.1 with | .d .none=>some (D.r s.length,q.2) | _=>none)=some (d,s'))
  (q:∀ v θ' F' H',θ<+:θ'->Same F F'->MR X.K cl θ' F' H' s'->DR X.K θ' F' d v->Q v H') (x dx:Qd) (hx:H x=none) (hdx:H dx=none) (hne:dx≠x) :
  spM X.K cl fn (.ref x::vs) (upd (upd H dx (.own x)) x (.ins (cl kc) dx [])) (λ v H2=>v=.non/\Q (.ref x) H2) E0:=by
 obtain ⟨⟨d1,s1⟩,h1,hf⟩:=ac hf;have pre:θ<+:θ++[x]:=QM _ _;have hix:(θ++[x])[s.length]?=some x:=by rw [<- m.len,P0 (PV _),QE]; rfl
 refine ⟨θ++[x],F,s++[.obj kc []],.r s.length::ds,d1,s1,Kg c m hx hdx hne,.cons ⟨x,hix,rfl⟩ (r.mono pre (.refl _)),h1,λ v θ2 F2 H2 p2 q2 m2 r2=>?_⟩;dsimp only at hf;split at hf
 ·rename_i hd;cases hf;have r2':Rel X.K F2 .none v:=r2;exact ⟨r2'.non,q _ θ2 F2 H2 (pre.trans p2) q2 m2 ⟨x,nS p2 hix,rfl⟩⟩
 ·cases hf
theorem ME.make {ppos:Pos} (c:Cls X.K (cl kc)) (M:Mk X.K (cl kc) fa) (G:FnOk X.prog X.w X.K X.mg X.base CX0 k fa fd ps (spM X.K cl fn)) (hr:Room k' X.A) (hkk:k+1<=k') (hm:X.mg x=some (.ref (cl kc))) (hb:Binds X.K fd ps [])
  (ha:MA X cl (e::es) fs) (hg:Gl X x:=by rfl) (hdb:Nd x:=by decide) (he:PX (e::es) X.env=(false,eval e X.env)::PX es X.env:=by exact bS rfl) (hpl:(backTo pos (PX es X.env)).any (·.1)=false:=by exact iN rfl) :
  ME X cl (.Call (.Name x ppos) (e::es) [] pos) (qv kc fn fs):=PE.imp (J0 M G (hr.mono hkk) hg hm hb .nil Bl ha hdb he hpl) λ σ H Q ⟨θ,F,w,d,s',m,v,hf,q⟩=>by
 obtain ⟨⟨ds,s1⟩,h1,hf⟩:=ac hf;refine ⟨θ,F,w,ds,s1,m,v,h1,λ vs θ1 F1 H1 p1 q1 m1 r1=>λ x dx hx hdx hne=>?_⟩;show spM X.K cl fn (.ref x::(vs++[])) _ _ E0;rw [Qr];exact FS c m1 r1 hf (λ u θ2 F2 H2 p2 q2 m2 r2=>q u θ2 F2 H2 (p1.trans p2) (q1.trans q2) m2 r2) x dx hx hdx hne
theorem ME.make0 {ppos:Pos} (c:Cls X.K (cl kc)) (M:Mk X.K (cl kc) fa) (G:FnOk X.prog X.w X.K X.mg X.base CX0 k fa fd ps (spM X.K cl fn)) (hr:Room k' X.A) (hkk:k+1<=k') (hm:X.mg x=some (.ref (cl kc))) (hb:Binds X.K fd ps [])
  (hg:Gl X x:=by rfl) (hdb:Nd x:=by decide) :
  ME X cl (.Call (.Name x ppos) [] [] pos) (qv kc fn maN):=PE.imp (HI M G (hr.mono hkk) hg hm hb .nil Bl hdb) λ σ H Q ⟨θ,F,w,d,s',m,v,hf,q⟩=>by
 obtain ⟨⟨ds,s1⟩,h1,hf⟩:=ac hf;cases h1;exact λ x dx hx hdx hne=>FS c m .nil hf q x dx hx hdx hne
end
inductive MOut where
 | nx (w:Wd)
 | rt (d:D) (s:Sto)
 | bk (w:Wd)
 | ct (w:Wd)
variable {g:Wd->Option MOut}
section
variable (K:PH) (cl:Nat->Qd)
def MNx (θ:List Qd) (F:Hp) (N:St->Hp->Prop) (w:Wd):Prop:=∀ σ' θ' F' H',θ<+:θ'->Same F F'->MR K cl θ' F' H' w.s->MV K θ' F' σ' w.η->N σ' H'
def MOk (θ:List Qd) (F:Hp) (Z:Ends):MOut->Prop
 | .nx w=>MNx K cl θ F Z.nx w
 | .rt d s=>∀ v θ' F' H',θ<+:θ'->Same F F'->MR K cl θ' F' H' s->DR K θ' F' d v->Z.rt v H'
 | .bk w=>MNx K cl θ F Z.bk w
 | .ct w=>MNx K cl θ F Z.ct w
def tMS (f:Wd->Option MOut):TS:=λ Z σ H=>∃ θ F w o,MR K cl θ F H w.s/\MV K θ F σ w.η/\f w=some o/\MOk K cl θ F Z o
end
def MS (X:Cx) (cl:Nat->Qd) (st:Stmt) (f:Wd->Option MOut):Prop:=PS X st (tMS X.K cl f)
def MSs (X:Cx) (cl:Nat->Qd) (st:List Stmt) (f:Wd->Option MOut):Prop:=PSs X st (tMS X.K cl f)
theorem MNx.up {cl:Nat->Qd} {θ1:List Qd} {N:St->Hp->Prop} {w:Wd} (h:MNx K cl θ F N w) (p:θ<+:θ1) (s:Same F F1):MNx K cl θ1 F1 N w:=λ σ' θ' F' H' p' s'=>h σ' θ' F' H' (p.trans p') (s.trans s')
theorem MOk.up {cl:Nat->Qd} {θ1:List Qd} {Z:Ends} {o:MOut} (h:MOk K cl θ F Z o) (p:θ<+:θ1) (s:Same F F1):MOk K cl θ1 F1 Z o:=by
 cases o with
 | nx w=>exact MNx.up h p s
 | rt d s2=>exact λ v θ' F' H' p' s'=>h v θ' F' H' (p.trans p') (s.trans s')
 | bk w=>exact MNx.up h p s
 | ct w=>exact MNx.up h p s
def mNx:Wd->Option MOut:=λ w=>some (.nx w)
def aM (f g:Wd->Option MOut):Wd->Option MOut:=λ w=>(f w).bind λ o=>match o with
 | .nx w'=>g w'
 | o=>some o
def fw (f:MF):Wd->Option MOut:=λ w=>(f w).bind λ r=>some (.rt r.1 r.2)
def mIf (c:MTF) (f g:Wd->Option MOut):Wd->Option MOut:=λ w=>(c w).bind λ r=>if r.1=true then f ⟨w.η,r.2⟩ else g ⟨w.η,r.2⟩
def bR (i:Nat) (f:MF):Wd->Option MOut:=λ w=>(f w).bind λ r=>some (.nx ⟨w.η.set i (some r.1),r.2⟩)
def qX (f:MF):Wd->Option MOut:=λ w=>(f w).bind λ r=>some (.nx ⟨w.η,r.2⟩)
def AS (f:Str) (v:D):List (Str×D)->List (Str×D)
 | []=>[(f,v)]
 | (g,x)::r=>if g=f then (g,v)::r else (g,x)::AS f v r
def mj (k:Nat) (nm:Str) (o e:MF):Wd->Option MOut:=λ w=>(e w).bind λ r=>(o ⟨w.η,r.2⟩).bind λ q=>match q.1 with
 | .r n=>(match q.2[n]? with
  | some (.obj k' fs)=>if k'=k/\fs.length < 999 then some (.nx ⟨w.η,q.2.set n (.obj k (AS nm r.1 fs))⟩) else none
  | _=>none)
 | _=>none
section
variable {X:Cx} {cl:Nat->Qd} {st:Stmt} {sts sts':List Stmt} {u v:Wd->Option MOut} {a b c e o:Expr} {f g:MF} {p:MTF} {pos pos':Pos}
theorem dk:MSs X cl [] mNx:=PSs.imp BQ λ Z σ H ⟨θ,F,w,o,m,v,hf,q⟩=>by
 cases hf;exact q σ θ F H (Qi _) (.refl _) m v
theorem aG (h:MS X cl st u):MSs X cl [st] u:=za h
theorem aj (h:MS X cl st u) (k:MSs X cl sts v):MSs X cl (st::sts) (aM u v):=PSs.imp (oi h k) λ Z σ H ⟨θ,F,w,o,m,v,hf,q⟩=>by
 obtain ⟨o1,h1,hf⟩:=ac hf;refine ⟨θ,F,w,o1,m,v,h1,?_⟩;cases o1 with
 | nx w'=>exact λ σ' θ' F' H' p s m' v'=>⟨θ',F',w',o,m',v',hf,q.up p s⟩
 | rt d s=>cases hf; exact q
 | bk w'=>cases hf; exact q
 | ct w'=>cases hf; exact q
theorem b0 (he:ME X cl e f):MS X cl (.Return (some e) pos) (fw f):=PS.imp (xH he) λ Z σ H ⟨θ,F,w,o,m,v,hf,q⟩=>by
 obtain ⟨⟨d,s⟩,h1,hf⟩:=ac hf;cases hf;exact ⟨θ,F,w,d,s,m,v,h1,q⟩
theorem MS.exp (he:ME X cl e f) (hs:swapsWith e none pos.line X.env=pure false:=by rfl):MS X cl (.Expr e pos) (qX f):=PS.imp (zb he hs) λ Z σ H ⟨θ,F,w,o,m,v,hf,q⟩=>by
 obtain ⟨⟨d,s⟩,h1,hf⟩:=ac hf;cases hf;exact ⟨θ,F,w,d,s,m,v,h1,λ u θ' F' H' p' s' m' _=>q σ θ' F' H' p' s' m' (v.mono p' s')⟩
theorem eO (hc:MT X cl c p) (ha:MSs X cl sts u) (hb:MSs X cl sts' v):MS X cl (.If c sts sts' pos) (mIf p u v):=PS.imp (HB hc ha hb) λ Z σ H ⟨θ,F,w,o,m,v,hf,q⟩=>by
 obtain ⟨⟨b,s1⟩,h1,hf⟩:=ac hf;refine ⟨θ,F,w,b,s1,m,v,h1,λ θ' F' H' p' s' m'=>?_⟩;cases b with
 | false =>
  rw [if_neg PN] at hf ⊢;exact ⟨θ',F',⟨w.η,s1⟩,o,m',v.mono p' s',hf,q.up p' s'⟩
 | true =>
  rw [if_pos rfl] at hf ⊢;exact ⟨θ',F',⟨w.η,s1⟩,o,m',v.mono p' s',hf,q.up p' s'⟩
theorem bo (i:Nat) {x:Str} (hN:X.N.Nodup) (he:ME X cl e f) (hi:X.N[i]?=some x:=by rfl) (hx:Loc X.env.scope x:=by first | exact Or.inl rfl | exact Or.inr rfl) (hs:swapsWith e (some (.Name x pos')) pos.line X.env=pure false:=by rfl)
  (hf:X.fn x=true\/X.env.scope.names.lookup x=some .local:=by first | exact .inl rfl | exact .inr rfl):MS X cl (.Assign [.Name x pos'] e pos) (bR i f):=PS.imp (zI hN hi hx he hs hf) λ Z σ H ⟨θ,F,w,o,m,v,hf,q⟩=>by
 obtain ⟨⟨d,s⟩,h1,hf⟩:=ac hf;cases hf;exact ⟨θ,F,w,d,s,m,v,h1,λ u θ' F' H' p' s' m' r'=>q _ θ' F' H' p' s' m' ((v.mono p' s').set i r')⟩
theorem DRf.put {fs:List (Str×D)} {xs:List (Str×V)} (h:DRf K θ F fs xs) (f:Str) {d:D} {v:V} (r:DR K θ F d v):DRf K θ F (AS f d fs) (tU f v xs):=by
 induction h with
 | nil=>exact .cons ⟨rfl,r⟩ .nil
 | @cons a b as bs q t ih =>
  obtain ⟨ka,da⟩:=a;obtain ⟨kb,vb⟩:=b;have e:ka=kb:=q.1;subst e;unfold AS tU;by_cases hk:ka=f
  ·rw [if_pos hk,if_pos hk]; exact .cons ⟨rfl,r⟩ t
  ·rw [if_neg hk,if_neg hk]; exact .cons q ih
theorem Bj {f:Str} {d:D}:∀ {fs:List (Str×D)} {g:Str},g∈(AS f d fs).map (·.1)->g=f\/g∈fs.map (·.1)
 | [],g,h=>.inl (by simpa [AS] using h)
 | (k,x)::r,g,h=>by
  unfold AS at h;by_cases hk:k=f
  ·rw [if_pos hk] at h;rcases Qh.mp h with z | z
   ·exact .inr (by rw [z]; exact Qc)
   ·exact .inr (P3 _ z)
  ·rw [if_neg hk] at h;rcases Qh.mp h with z | z
   ·exact .inr (by rw [z]; exact Qc)
   ·rcases Bj z with y | y
    ·exact .inl y
    ·exact .inr (P3 _ y)
theorem gS (ho:ME X cl o g) (he:ME X cl e f) (hn:NoAttr X.K (cl k) nm) (hs:swapsWith e (some (.Attribute o nm pos')) pos.line X.env=pure false:=by rfl):MS X cl (.Assign [.Attribute o nm pos'] e pos) (mj k nm g f) :=
 PS.imp (Mg ho he hs) λ Z σ H ⟨θ,F,w,o,m,v,hf,q⟩=>by
  obtain ⟨⟨d,s1⟩,h1,hf⟩:=ac hf;obtain ⟨⟨d2,s2⟩,h2,hf⟩:=ac hf;cases d2 with
  | d x=>cases hf
  | r n =>
   dsimp only at hf h2;split at hf
   ·rename_i k' fs hc;split at hf
    ·rename_i hk;cases hf;obtain ⟨hk1,hk2⟩:=hk;rw [hk1] at hc;refine ⟨θ,F,w,d,s1,m,v,h1,λ y θ1 F1 H1 p1 q1 m1 r1=>⟨θ1,F1,⟨w.η,s1⟩,.r n,s2,m1,v.mono p1 q1,h2,λ x θ2 F2 H2 p2 q2 m2 r2=>?_⟩⟩;obtain ⟨a,e1,rfl⟩:=r2;obtain ⟨c1,c2,c3,dx,xs,c4,c5⟩:=m2.cel n a _ e1 hc;have hl:xs.length < 1000:=by
      have:=Paired.length c5
      omega
     refine ⟨a,cl k,dx,xs,rfl,c4,c2,hn,hl,q _ θ2 F2 _ (p1.trans p2) (q1.trans q2) (m2.put e1 hc rfl ⟨c1,c2,λ f hf=>?_,dx,_,aA,c5.put nm (r1.mono p2 q2)⟩) ((v.mono p1 q1).mono p2 q2)⟩;rcases Bj hf with z | z
     ·rw [z]; exact hn
     ·exact c3 f z
    ·cases hf
   ·cases hf
end
def dO (n m:Nat) (g:Wd->Option MOut):List D->Sto->Option (D×Sto):=λ ds s=>if ds.length=n then (g ⟨ds.map some++Qf (m - n) none,s⟩).bind λ o=>match o with
 | .rt d s'=>some (d,s')
 | .nx w=>some (.d .none,w.s)
 | _=>none else none
section
variable {P:Ql} {w:World} {K:PH} {mg:Str->Option PP} {base:Heap} {cl:Nat->Qd}
theorem MV.start {ds:List D} (r:DRs K θ F ds vs):MV K θ F (L2.start N vs) (ds.map some++Qf (N.length - ds.length) none) where
 len:=by unfold L2.start; rw [PL,PL,PJ,PJ,Re,Re,Paired.length r]
 val:=λ i d e=>by
  unfold L2.start;by_cases hi:i < ds.length
  ·rw [PM (by rw [PJ]; exact hi),P9] at e;rw [PM (by rw [PJ,<- Paired.length r]; exact hi),P9];cases q:ds[i]? with
   | none=>rw [q] at e; cases e
   | some d' =>
    rw [q] at e
    have:d'=d:=Option.some.inj (Option.some.inj e)
    subst this;obtain ⟨x,e1,e2⟩:=r.get q;exact ⟨x,by rw [e1]; rfl,e2⟩
  ·rw [P0 (by rw [PJ]; omega),Q8] at e;split at e <;> cases e
theorem fnM {f:Qd} {k:Nat} {g:Wd->Option MOut} (Fn:Fun K x qual st f fd) (Sc:aI N ps (ah st))
  (hb:∀ (cdv:PP) (A:QI) (outer:List Env) (s:PQ) (H:Hp) (E:XK),Room k (A.deeper (envOfC qual (ah st) s.heap.objs.size f cdv)) ->
   MSs (so CX0 P w K mg base N qual (ah st) f cdv A outer s H E).nox cl (nZ st) g) :
  FnOk P w K mg base CX0 (k+1) f fd ps (spM K cl (dO ps.length N.length g)):=by
 refine Fn.ok Sc (λ vs H Q E h=>?_) (λ cdv A outer s H vs Q E hr h=>?_)
 ·obtain ⟨θ,F,s,ds,d,s',_,r,e,_⟩:=h;unfold dO at e;split at e
  ·rename_i hl;rw [<- Paired.length r]; exact hl
  ·cases e
 ·obtain ⟨θ,F,s0,ds,d,s',m,r,e,q⟩:=h;refine ⟨_,hb cdv A outer s H E hr,?_⟩;unfold dO at e;split at e
  ·rename_i hl;obtain ⟨o,h1,e⟩:=ac e;have z:=MV.start (K:=K) (N:=N) r;rw [hl] at z;refine ⟨θ,F,⟨_,s0⟩,o,m,z,h1,?_⟩;cases o with
   | rt d' s2 =>
    cases e;exact q
   | nx w' =>
    cases e;exact λ σ' θ' F' H' p' s' m' _=>q .non θ' F' H' p' s' m' (show Rel K F' .none .non from uU)
   | bk w'=>cases e
   | ct w'=>cases e
  ·cases e
end
def tMI (K:PH) (cl:Nat->Qd) (f:Wd->Option (List PD×Sto)):TI:=λ σ H R=>∃ θ F w ds s',MR K cl θ F H w.s/\MV K θ F σ w.η/\f w=some (ds,s')/\∀ J θ' F' H',θ<+:θ'->Same F F'->MR K cl θ' F' H' s'->ItP K J F' ds->R J H'
def MI (X:Cx) (cl:Nat->Qd) (tg iter:Expr) (f:Wd->Option (List PD×Sto)):Prop:=PI X tg iter (tMI X.K cl f)
def iPu (f:En->Option (List PD)):Wd->Option (List PD×Sto):=λ w=>(f (vw w)).bind λ ds=>some (ds,w.s)
def iM (f:MF):Wd->Option (List PD×Sto):=λ w=>(f w).bind λ r=>match r.1 with | .d (.list ds)=>some (ds,r.2) | _=>none
def back:List Nat->MEn->En->Option MEn
 | [],η,_=>some η
 | k::ks,η,ζ=>match ζ[k]? with | some (.val x)=>back ks (η.set k (some (.d x))) ζ | _=>none
def mTg (ks:List Nat) (t:En->PD->Option En) (w:Wd) (d:PD):Option Wd:=(t (vw w) d).bind λ ζ=>(back ks w.η ζ).bind λ η=>some ⟨η,w.s⟩
def mGo (ks:List Nat) (t:En->PD->Option En) (body:Wd->Option MOut):List PD->Wd->Option MOut
 | [],w=>some (.nx w)
 | d::ds,w=>(mTg ks t w d).bind λ w1=>(body w1).bind λ o=>match o with
  | .nx w2=>mGo ks t body ds w2
  | .ct w2=>mGo ks t body ds w2
  | .bk w2=>some (.nx w2)
  | .rt d s=>some (.rt d s)
def xU (ks:List Nat) (it:Wd->Option (List PD×Sto)) (t:En->PD->Option En) (body:Wd->Option MOut):Wd->Option MOut:=λ w=>(it w).bind λ r=>mGo ks t body r.1 ⟨w.η,r.2⟩
section
variable {X:Cx} {cl:Nat->Qd} {tg iter e:Expr} {f:MF} {fi:En->Option (List PD)} {pos:Pos}
theorem MI.pu (h:∀ B,I X B tg iter fi):MI X cl tg iter (iPu fi):=λ pz s σ H R I ⟨θ,F,w,ds,s',m,v,hf,q⟩=>by
 obtain ⟨x,hx,hf⟩:=ac hf;cases hf;exact h ⟨F,H⟩ pz s σ H R I ⟨F,vw w,_,m.vw v,hx,λ J F' H' g ip=>q J θ F' H' (Qi _) g.ff (m.grow g) ip⟩
theorem MI.list (h:ME X cl e f):MI X cl tg e (iM f):=PI.imp (FC h) λ σ H R ⟨θ,F,w,ds,s',m,v,hf,q⟩=>by
 obtain ⟨⟨d,s1⟩,h1,hf⟩:=ac hf;dsimp only at hf;split at hf
 ·rename_i ys hd;cases hf;refine ⟨θ,F,w,_,_,m,v,h1,λ u θ' F' H' p' s' m' r'=>?_⟩;have r2:Rel X.K F' (.list ds) u:=r';obtain ⟨a,xs,rfl,hq,rs⟩:=r2.lst;exact ⟨a,rfl,⟨xs,m'.sm.seq hq⟩,q _ θ' F' H' p' s' m' (DC hq rs)⟩
 ·cases hf
theorem Cs {K:PH} {θ:List Qd} {B:Bd} {F H:Hp} {σ':St} {ζ:En} (sr:SR K B F H σ' ζ):∀ (ks:List Nat) {η η':MEn},back ks η ζ=some η'->η.length=σ'.length ->
  (∀ (i:Nat) d,η[i]?=some (some d)->i∈ks\/∃ v,σ'[i]?=some (some v)/\DR K θ F d v)->MV K θ F σ' η'
 | [],η,η',h,hl,hv=>by
  cases h;exact ⟨hl,λ i d e=>(hv i d e).elim (λ z=>(by cases z)) id⟩
 | k::ks,η,η',h,hl,hv=>by
  unfold back at h;split at h
  ·rename_i x hx;refine Cs sr ks h (by rw [Qa]; exact hl) λ i d e=>?_;by_cases hk:k=i
   ·subst hk;by_cases hlt:k < η.length
    ·rw [PY hlt] at e;have e':D.d x=d:=Option.some.inj (Option.some.inj e);subst e';exact .inr (sr.en.val k x hx)
    ·rw [Qw (by rw [Qa]; omega)] at e; cases e
   ·rw [PK hk] at e;rcases hv i d e with z | z
    ·rcases Qh.mp z with y | y
     ·exact absurd y.symm hk
     ·exact .inl y
    ·exact .inr z
  ·cases h
theorem NC {cl:Nat->Qd} {ks:List Nat} {gt:TG} {t:En->PD->Option En} (ht:TgP K ks gt t) {w w1:Wd} {d:PD} {x:V} (m:MR K cl θ F H w.s) (v:MV K θ F σ w.η) (rx:Rel K F d x) (h:mTg ks t w d=some w1) {Q:St->Hp->Prop}
  (q:∀ σ' F' H',Same F F'->MR K cl θ F' H' w1.s->MV K θ F' σ' w1.η->Q σ' H'):gt x σ H Q:=by
 obtain ⟨ζ,h1,h⟩:=ac h;obtain ⟨η,h2,h⟩:=ac h;cases h;refine ht ⟨F,H⟩ F H σ (vw w) d x ζ (m.vw v) rx h1 Q λ σ' F' H' sr g hl hn=>q σ' F' H' g.ff (m.grow g) (Cs sr ks h2 (by rw [v.len,hl]) λ i d' e=>?_);by_cases hi:i∈ks
 ·exact .inl hi
 ·obtain ⟨u,e1,e2⟩:=v.val i d' e;exact .inr ⟨u,by rw [hn i hi]; exact e1,e2.mono (Qi _) g.ff⟩
theorem MS.for {body:List Stmt} {gt:TG} {ks:List Nat} {t:En->PD->Option En} {fi:Wd->Option (List PD×Sto)} {u:Wd->Option MOut} (hp:PassesOwn (Qq X.prog X.w) X.A X.env X.xe) (hc:X.calm=true) (hi:MI X cl tg iter fi) (hg:PG X tg gt) (ht:TgP X.K ks gt t) (hb:MSs X cl body u)
  (hs:∀ x,foldedSetIterable iter X.env x=pure x:=by intro _; rfl):MS X cl (.For tg iter body [] pos) (xU ks fi t u):=PS.imp (HC hp hc hi hg hb hs) λ Z σ H ⟨θ,F,w,o,m,v,hf,q⟩=>by
 obtain ⟨⟨ds,s1⟩,h1,hd⟩:=ac hf;refine ⟨θ,F,w,ds,s1,m,v,h1,λ J θ1 F1 H1 p1 q1 m1 ip=>?_⟩;refine ⟨λ i n σ H=>n=ds.length - i/\i<=ds.length/\∃ θc Fc wc,θ1<+:θc/\Same F1 Fc/\MR X.K cl θc Fc H wc.s/\MV X.K θc Fc σ wc.η/\mGo ks t u (ds.drop i) wc=some o,⟨_,rfl,Q1 _,θ1,F1,⟨w.η,s1⟩,Qi _,.refl _,m1,v.mono p1 q1,by simpa using hd⟩,?_⟩
 rintro i n σc Hc ⟨rfl,hi,θc,Fc,wc,pc,sc,mc,vc,hgo⟩
 obtain ⟨ip1,ip2⟩:=ip Fc Hc i sc mc.sm;by_cases hlt:i < ds.length
 ·have e:ds[i]?=some ds[i]:=Qk hlt;obtain ⟨go,yl⟩:=ip1 _ e;rw [Rh hlt] at hgo;unfold mGo at hgo;obtain ⟨w1,e1,hgo⟩:=ac hgo;obtain ⟨o1,e2,hgo⟩:=ac hgo;have cont:∀ (w2:Wd),mGo ks t u (ds.drop (i+1)) w2=some o->∀ σ' θ' F' H',θ1<+:θ'->Same F1 F'->MR X.K cl θ' F' H' w2.s->MV X.K θ' F' σ' w2.η ->
    ∃ n',n' < ds.length - i/\(λ i n σ H=>n=ds.length - i/\i<=ds.length/\∃ θc Fc wc,θ1<+:θc/\Same F1 Fc/\MR X.K cl θc Fc H wc.s/\MV X.K θc Fc σ wc.η/\mGo ks t u (ds.drop i) wc=some o) (i+1) n' σ' H':=λ w2 h2 σ' θ' F' H' p s m v =>
   ⟨ds.length - (i+1),by omega,rfl,hlt,θ',F',w2,p,s,m,v,h2⟩
  refine .inr ⟨go,λ σ' H'=>∃ n',n' < ds.length - i/\(λ i n σ H=>n=ds.length - i/\i<=ds.length/\∃ θc Fc wc,θ1<+:θc/\Same F1 Fc/\MR X.K cl θc Fc H wc.s/\MV X.K θc Fc σ wc.η/\mGo ks t u (ds.drop i) wc=some o) (i+1) n' σ' H',λ σ' H' n=>n,λ x H' y=>?_⟩;obtain ⟨F2,g2,rx⟩:=yl x H' y;refine NC ht (mc.grow g2) (vc.mono (Qi _) g2.ff) rx e1 λ σ3 F3 H3 s3 m3 v3=>?_;refine ⟨θc,F3,w1,o1,m3,v3,e2,?_⟩;have s4:Same F1 F3:=sc.trans (g2.ff.trans s3);cases o1 with
  | nx w2=>exact λ σ' θ' F' H' p' s' m' v'=>cont w2 hgo σ' θ' F' H' (pc.trans p') (s4.trans s') m' v'
  | ct w2=>exact λ σ' θ' F' H' p' s' m' v'=>cont w2 hgo σ' θ' F' H' (pc.trans p') (s4.trans s') m' v'
  | bk w2 =>
   cases hgo;exact λ σ' θ' F' H' p' s' m' v'=>q σ' θ' F' H' (p1.trans (pc.trans p')) (q1.trans (s4.trans s')) m' v'
  | rt d s2 =>
   cases hgo;exact λ u θ' F' H' p' s' m' r'=>q u θ' F' H' (p1.trans (pc.trans p')) (q1.trans (s4.trans s')) m' r'
 ·have ei:i=ds.length:=by omega
  subst ei;rw [RN] at hgo;cases hgo;exact .inl ⟨ip2 rfl,q σc θc Fc Hc (p1.trans pc) (q1.trans sc) mc vc⟩
end
section
variable {X:Cx} {cl:Nat->Qd} {tg iter elt:Expr} {ifs:List Expr} {scope:Scope} {N':List Str} {mp:List (Option Nat)} {ks:List Nat} {gt:TG} {t:En->PD->Option En} {fi:En->Option (List PD)} {p:En->Option Bool} {f:En->Option PD} {pos:Pos}
def mC (fs:En->Option (List PD)):MF:=λ w=>(fs (vw w)).bind λ xs=>some (.d (.list xs),w.s)
theorem MS.setC (i:Nat) {y:Str} {py spos:Pos} (hc:X.calm=true) (hN:X.N.Nodup) (ck:CompSc X scope N' mp) (ht:TgP X.K ks gt t) (hks:∀ k∈ks,mp[k]?=some none) (hi:∀ B,I X B tg iter fi)
  (hb:∀ B s H fp,PG (b7 X scope N' s H fp) tg gt/\Ts (b7 X scope N' s H fp) B ifs p/\E (b7 X scope N' s H fp) B elt f)
  (hiy:X.N[i]?=some y:=by rfl) (hy:X.env.scope.names.lookup y=some .local:=by rfl) (hsw:swapsWith (.ListComp elt [⟨tg,iter,ifs,0⟩] scope pos) (some (.Name y py)) spos.line X.env=pure true:=by rfl)
  (hs:∀ x,foldedSetIterable iter X.env x=pure x:=by intro _; rfl):MS X cl (.Assign [.Name y py] (.ListComp elt [⟨tg,iter,ifs,0⟩] scope pos) spos) (bR i (mC (cm mp fi t p f))):=λ pz s σ H Z I ⟨θ,F,w,o,m,v,hf,q⟩=>by
 obtain ⟨⟨d,s1⟩,h1,hf⟩:=ac hf;cases hf;obtain ⟨xs,hx,h1⟩:=ac h1;cases h1;refine vW (g:=gt) (tt:=tT X.K ⟨F,H⟩ p) (te:=tE X.K ⟨F,H⟩ f) hc hN hiy hy ck (hi ⟨F,H⟩) (hb ⟨F,H⟩) hsw hs pz s σ H Z I ?_;refine Cm ht hks σ H _ ⟨F,vw w,xs,m.vw v,hx,λ p zs F' H' g hp fp hp' rs=>?_⟩;obtain ⟨g2,r2⟩:=Km m.sm g hp fp hp' rs;exact q _ θ _ H' (Qi _) g2.ff (m.grow g2) ((v.mono (Qi _) g2.ff).set i r2)
end
def Nz:PD->Option Bool
 | .none=>some false
 | .bool b=>some b
 | .int i=>some (i != 0)
 | .list ds=>some (!ds.isEmpty)
 | .tuple ds=>some (!ds.isEmpty)
 | _=>none
def bTr (f:En->Option PD):En->Option Bool:=λ η=>(f η).bind Nz
theorem zH (h:RelL K F ds xs):(!ds.isEmpty)=!xs.isEmpty:=by
 cases ds with
 | nil=>rw [h.nil_of]; rfl
 | cons d ds =>
  obtain ⟨x,r,rfl,_,_⟩:=h.cons_of;rfl
theorem LW {d:PD} {v:V} (h:Nz d=some b) (sm:Same F H) (r:Rel K F d v):Nm K v H b:=by
 cases d with
 | none=>cases h; rw [r.non]; rfl
 | bool k=>cases h; rw [r.bl]; rfl
 | int i=>cases h; rw [r.int]; rfl
 | str x=>cases h
 | dict es=>cases h
 | list ds =>
  cases h;obtain ⟨a,xs,rfl,hq,rs⟩:=r.lst;exact .inl ⟨xs,sm.seq hq,zH rs⟩
 | tuple ds =>
  cases h;obtain ⟨a,xs,rfl,hq,rs⟩:=r.tup;exact .inr (.inl ⟨xs,dU sm hq,zH rs⟩)
section
variable {X:Cx} {B:Bd} {e:Expr} {f:En->Option PD}
theorem T.tru (he:E X B e f) (hi:∀ whole,isTrue e X.env whole=(do let v <- whole; standAt e.pos; holding [v] (truthy v)):=by intro _; rfl):T X B e (bTr f):=PT.imp (Hz he hi) λ σ H Q ⟨F,η,b,sr,hd,q⟩=>by
 obtain ⟨x,hx,hd⟩:=ac hd;exact ⟨F,η,x,sr,hx,λ v F1 H1 g1 rv=>⟨b,LW hd g1.fh rv,q F1 H1 g1⟩⟩
end
def pDs (s:Sto):List D->Option (List PD)
 | []=>some []
 | d::r=>(pD s d).bind λ x=>(pDs s r).bind λ xs=>some (x::xs)
def mCB (o:List PD->Option PD) (fs:MFs):MF:=λ w=>(fs w).bind λ r=>(pDs r.2 r.1).bind λ xs=>(o xs).bind λ x=>some (.d x,r.2)
section
variable {X:Cx} {cl:Nat->Qd} {e:Expr} {es:List Expr} {fs:MFs} {pos pp:Pos}
theorem FL {s:Sto} (m:MR K cl θ F H s) {ds:List D} (h:DRs K θ F ds vs):∀ {xs:List PD},pDs s ds=some xs->RelL K F xs vs:=by
 induction h with
 | nil=>intro xs e; cases e; exact .nil
 | @cons a b as bs r t ih =>
  intro xs e;unfold pDs at e;obtain ⟨x,h1,e⟩:=ac e;obtain ⟨zs,h2,e⟩:=ac e;cases e;exact .cons (qL m _ _ _ h1 r) (ih h2)
theorem OA {r:List V->Hp->VK->Prop} {o:List PD->Option PD} (ad:AdA X.K r o):∀ σ H Q,tM X.K cl (mCB o fs) σ H Q->tCB r (tMA X.K cl fs) σ H Q:=λ σ H Q ⟨θ,F,w,d,s',m,v,hf,q⟩=>by
 obtain ⟨⟨ds,s1⟩,h1,hf⟩:=ac hf;obtain ⟨xs,h2,hf⟩:=ac hf;obtain ⟨x,h3,hf⟩:=ac hf;cases hf;exact ⟨θ,F,w,ds,_,m,v,h1,λ vs θ1 F1 H1 p1 q1 m1 r1=>ad F1 H1 vs xs x Q m1.sm (FL m1 r1 h2) h3 λ u F2 H2 g2 r2=>q u θ1 F2 H2 p1 (q1.trans g2.ff) (m1.grow g2) r2⟩
end
section
variable {X:Cx} {cl:Nat->Qd} {a b:Expr} {f g:MF} {pos:Pos}
theorem MT.eq (hr:Room k X.A) (ha:ME X cl a f) (hb:ME X cl b g):MT X cl (.Compare a [.Eq] [b] pos) (mB (dP pEq f g)):=MT.cmp (zM hr.units) D1 (nomark b) ha hb
theorem ME.eq (hr:Room k X.A) (ha:ME X cl a f) (hb:ME X cl b g):ME X cl (.Compare a [.Eq] [b] pos) (dP pEq f g):=ME.cmp (zM hr.units) D1 (nomark b) ha hb
theorem MT.ne (hr:Room k X.A) (ha:ME X cl a f) (hb:ME X cl b g):MT X cl (.Compare a [.NotEq] [b] pos) (mB (dP pNe f g)):=MT.cmp (B3 hr.units) Gh (nomark b) ha hb
theorem MT.le (ha:ME X cl a f) (hb:ME X cl b g):MT X cl (.Compare a [.LtE] [b] pos) (mB (dP pLe f g)):=MT.cmp Bm (sv λ _ _ _=>fE) (nomark b) ha hb
theorem MT.isN (ha:ME X cl a f) (hb:ME X cl b g) (hm:QH .Is b=false:=by rfl):MT X cl (.Compare a [.Is] [b] pos) (mB (dP (jB false) f g)):=MT.cmp Et Fd hm ha hb
theorem ME.isN (ha:ME X cl a f) (hb:ME X cl b g) (hm:QH .Is b=false:=by rfl):ME X cl (.Compare a [.Is] [b] pos) (dP (jB false) f g):=ME.cmp Et Fd hm ha hb
theorem MT.notN (ha:ME X cl a f) (hb:ME X cl b g) (hm:QH .IsNot b=false:=by rfl):MT X cl (.Compare a [.IsNot] [b] pos) (mB (dP (jB true) f g)):=MT.cmp B1 Cy hm ha hb
theorem ME.notN (ha:ME X cl a f) (hb:ME X cl b g) (hm:QH .IsNot b=false:=by rfl):ME X cl (.Compare a [.IsNot] [b] pos) (dP (jB true) f g):=ME.cmp B1 Cy hm ha hb
theorem ME.add (ha:ME X cl a f) (hb:ME X cl b g):ME X cl (.BinOp a .Add b pos) (mOp aH f g):=ME.op FN Jg ha hb
theorem ME.at (ha:ME X cl a f) (hb:ME X cl b g) (hs:uZ b:=by intro _ _; rfl):ME X cl (.Subscript a b pos) (mOp pIx f g):=ME.ix Iz LH ha hb hs
end
def spL (K:PH):Sp:=λ vs H Q _=>∃ (a:Qd) (ns:List Int),vs=[.ref a]/\SqL K H a (ns.map V.int)/\ns.length<=63/\∀ H',Q (.bl true) H'
theorem JH {cl:Nat->Qd} (main:∀ ns:List Int,ns.length<=63->∃ s',fn [.d (.list (ns.map Qx))] []=some (.d (.bool true),s')):∀ vs H Q E,spL K vs H Q E->spM K cl fn vs H Q E:=λ vs H Q E ⟨a,ns,e,hS,hl,q⟩=>by
 subst e;obtain ⟨s',hm⟩:=main ns hl;exact ⟨[],H,[],[.d (.list (ns.map Qx))],.d (.bool true),s',⟨.refl _,rfl,by simp,λ n a c h=>by simp at h⟩,.cons (show Rel K H (.list (ns.map Qx)) (.ref a) from kG hS (RelL.ints ns)) .nil,hm,λ v θ' F' H' _ _ _ r=>by rw [(show Rel K F' (.bool true) v from r).bl]; exact q H'⟩
section
variable {w w1:Wd} {s s1 s2:Sto} {d d1 d2:D} {ds:List D} {n i k:Nat} {nm:Str}
theorem ak {f:Wd->Option MOut} {r:Option MOut} (h1:f w=some (.nx w1)) (h2:g w1=r):aM f g w=r:=by
 unfold aM;rw [h1]; exact h2
theorem i9 {f:Wd->Option MOut} (h1:f w=some (.rt d s)):aM f g w=some (.rt d s):=by
 unfold aM;rw [h1]; rfl
theorem aO (h:f w=some (d,s)):bR i f w=some (.nx ⟨w.η.set i (some d),s⟩):=by
 unfold bR;rw [h]; rfl
theorem bJ (h:f w=some (d,s)):fw f w=some (.rt d s):=by
 unfold fw;rw [h]; rfl
theorem qw (h:f w=some (d,s)):qX f w=some (.nx ⟨w.η,s⟩):=by
 unfold qX;rw [h]; rfl
theorem am {f:En->Option PD} {x:PD} (h:f (vw w)=some x):mP f w=some (.d x,w.s):=by
 unfold mP;rw [h]; rfl
theorem Of {f:En->Option (List PD)} {x:List PD} (h:f (vw w)=some x):mC f w=some (.d (.list x),w.s):=by
 unfold mC;rw [h]; rfl
theorem bX {f:En->Option Bool} (h:f (vw w)=some b):tPv f w=some (b,w.s):=by
 unfold tPv;rw [h]; rfl
theorem pQ {c:MTF} {f:Wd->Option MOut} {r:Option MOut} (h:c w=some (true,s)) (h2:f ⟨w.η,s⟩=r):mIf c f g w=r:=by
 unfold mIf;rw [h]; exact h2
theorem Il {c:MTF} {f:Wd->Option MOut} {r:Option MOut} (h:c w=some (false,s)) (h2:g ⟨w.η,s⟩=r):mIf c f g w=r:=by
 unfold mIf;rw [h]; exact h2
theorem kZ {c:MTF} {f:Wd->Option MOut} (h:c w=some (false,s)):mIf c f mNx w=some (.nx ⟨w.η,s⟩):=Il h rfl
theorem cw:maN w=some ([],w.s):=rfl
theorem ar {fs:MFs} (h1:f w=some (d,s1)) (h2:fs ⟨w.η,s1⟩=some (ds,s2)):maC f fs w=some (d::ds,s2):=by
 unfold maC;rw [h1,PC,h2]; rfl
theorem bb {o:MF} {fs:MFs} {as:List (Str×D)} (h0:o w=some (.r n,s)) (hc:s[n]?=some (.obj k as)) (hl:as.lookup nm=none) (h1:fs ⟨w.η,s⟩=some (ds,s1)) (h2:fn (.r n::ds) s1=some (d,s2)):bu k nm fn o fs w=some (d,s2):=by
 unfold bu;rw [h0,PC];dsimp only;rw [hc];dsimp only;rw [if_pos ⟨rfl,hl⟩,h1]; exact h2
theorem Ds {fs:MFs} (h1:fs w=some (ds,s)) (h2:fn (.r s.length::ds) (s++[.obj k []])=some (.d .none,s2)):qv k fn fs w=some (.r s.length,s2):=by
 unfold qv;rw [h1,PC,h2]; rfl
theorem gZ {o e:MF} {fs:List (Str×D)} (h1:e w=some (d,s1)) (h2:o ⟨w.η,s1⟩=some (.r n,s2)) (hc:s2[n]?=some (.obj k fs)) (hl:fs.length < 999):mj k nm o e w=some (.nx ⟨w.η,s2.set n (.obj k (AS nm d fs))⟩):=by
 unfold mj;rw [h1,PC,h2,PC];dsimp only;rw [hc];dsimp only;rw [if_pos ⟨rfl,hl⟩]
theorem jD (h:f w=some (.d (.bool b),s)):mB f w=some (b,s):=by
 unfold mB;rw [h]; rfl
theorem fb {o:PD->PD->Option PD} {g:MF} {x y:PD} (h1:f w=some (d1,s1)) (h2:g ⟨w.η,s1⟩=some (d2,s2)) (hx:lD s2 d1=some x) (hy:lD s2 d2=some y) (ho:o x y=some z) (hf:oS z=true):dP o f g w=some (.d z,s2):=by
 unfold dP;rw [h1,PC,h2,PC,hx,PC,hy,PC,ho,PC,if_pos hf]
theorem mI {o:PD->PD->Option PD} {g:MF} {x y:PD} (h1:f w=some (d1,s1)) (h2:g ⟨w.η,s1⟩=some (d2,s2)) (hx:pD s2 d1=some x) (hy:pD s2 d2=some y) (ho:o x y=some z):mOp o f g w=some (.d z,s2):=by
 unfold mOp;rw [h1,PC,h2,PC,hx,PC,hy,PC,ho,PC]
theorem MG {o:List PD->Option PD} {fs:MFs} {xs:List PD} {x:PD} (h1:fs w=some (ds,s)) (h2:pDs s ds=some xs) (h3:o xs=some x):mCB o fs w=some (.d x,s):=by
 unfold mCB;rw [h1,PC,h2,PC,h3]; rfl
theorem bI {a b:Nat} (hl:ds.length=a) (h:g ⟨ds.map some++Qf (b - a) none,s⟩=some (.rt d s1)):dO a b g ds s=some (d,s1):=by
 unfold dO;rw [if_pos hl,h]; rfl
theorem FT {a b:Nat} (hl:ds.length=a) (h:g ⟨ds.map some++Qf (b - a) none,s⟩=some (.nx w1)):dO a b g ds s=some (.d .none,w1.s):=by
 unfold dO;rw [if_pos hl,h]; rfl
theorem uW {ks:List Nat} {it:Wd->Option (List PD×Sto)} {t:En->PD->Option En} {body:Wd->Option MOut} {xs:List PD} {r:Option MOut} (h:it w=some (xs,s)) (h2:mGo ks t body xs ⟨w.η,s⟩=r):xU ks it t body w=r:=by
 unfold xU;rw [h]; exact h2
theorem Ak {f:En->Option (List PD)} {xs:List PD} (h:f (vw w)=some xs):iPu f w=some (xs,w.s):=by
 unfold iPu;rw [h]; rfl
theorem pP {x:PD} (h:i < w.η.length):mTg [i] (tgN i) w x=some ⟨w.η.set i (some (.d x)),w.s⟩:=by
 have e:((vw w).set i (.val x))[i]?=some (.val x):=PY (by unfold vw; rw [PJ]; exact h);show (some ((vw w).set i (.val x))).bind _=_;rw [PC];unfold back;rw [e];rfl
theorem Kj {ι:Type} {ks:List Nat} {t:En->PD->Option En} {body:Wd->Option MOut} (Z:ι->PD) (Inv:List ι->Wd->Prop) (all:List ι)
  (st:∀ done x rest w,all=done++x::rest->Inv done w->∃ w1 w2,mTg ks t w (Z x)=some w1/\body w1=some (.nx w2)/\Inv (done++[x]) w2) {w:Wd} (h0:Inv [] w):∃ w',mGo ks t body (all.map Z) w=some (.nx w')/\Inv all w':=by
 have key:∀ (rest done:List ι) (w:Wd),all=done++rest->Inv done w->∃ w',mGo ks t body (rest.map Z) w=some (.nx w')/\Inv all w':=by
  intro rest
  induction rest with
  | nil=>intro done w e h; exact ⟨w,rfl,by rw [e,Qr]; exact h⟩
  | cons x r ih =>
   intro done w e h;obtain ⟨w1,w2,h1,h2,h3⟩:=st done x r w e h;obtain ⟨w',e1,e2⟩:=ih (done++[x]) w2 (by rw [e]; simp) h3;refine ⟨w',?_,e2⟩;rw [P2];unfold mGo;rw [h1,PC,h2,PC];exact e1
 exact key all [] w rfl h0
theorem Jz {g:D->Option PD} {fs:List (Str×D)} (hc:s[n]?=some (.obj k fs)):vwS g s (some (.r n))=.ob λ f=>(fs.lookup f).bind g:=by
 unfold vwS;dsimp only;rw [hc]
end
def AZ (mp:List (Option Nat)) (η:MEn):MEn:=mp.map λ o=>o.bind λ j=>(η[j]?).join
def Dp (ks:List Nat) (t:En->PD->Option En) (p:MTF) (f:MF) (n:Nat) (η:MEn):List PD->Sto->Option Sto
 | [],s=>some s
 | d::ds,s=>(mTg ks t ⟨η,s⟩ d).bind λ w1=>(p w1).bind λ r=>if r.1=true then
   (f ⟨w1.η,r.2⟩).bind λ q=>match q.2[n]? with
    | some (.lst acc)=>if acc.length < P4 then Dp ks t p f n η ds (q.2.set n (.lst (acc++[q.1]))) else none
    | _=>none
  else Dp ks t p f n η ds r.2
def mcL (mp:List (Option Nat)) (it:Wd->Option (List PD×Sto)) (ks:List Nat) (t:En->PD->Option En) (p:MTF) (f:MF):MF:=λ w=>(it w).bind λ r =>
 (Dp ks t p f r.2.length (AZ mp w.η) r.1 (r.2++[.lst []])).bind λ s=>some (.r r.2.length,s)
def MTs (X:Cx) (cl:Nat->Qd) (ifs:List Expr) (f:MTF):Prop:=PTs X ifs (tMT X.K cl f)
def xF:MTF:=λ w=>some (true,w.s)
section
variable {X:Cx} {cl:Nat->Qd} {tg iter elt c:Expr} {ifs:List Expr} {scope:Scope} {N':List Str} {mp:List (Option Nat)} {ks:List Nat} {gt:TG} {t:En->PD->Option En} {fi:Wd->Option (List PD×Sto)} {p:MTF} {f:MF} {pos:Pos}
theorem MTs.nil:MTs X cl [] xF:=λ pz s σ H Q I ⟨θ,F,w,b,s',m,v,hf,q⟩=>by
 cases hf;exact FA pz s σ H Q I (q θ F H (Qi _) (.refl _) m)
theorem MTs.one (h:MT X cl c p):MTs X cl [c] p:=Fz h
theorem vZ {α β:Type} {R:α->β->Prop} {as:List α} {bs:List β} (h:Paired R as bs) {a:α} {b:β} (r:R a b):Paired R (as++[a]) (bs++[b]):=by
 induction h with
 | nil=>exact .cons r .nil
 | cons q _ ih=>exact .cons q ih
theorem j9 {α β:Type} {R:α->β->Prop} {as:List α} {bs:List β} (h:Paired R as bs):as.length=bs.length:=by
 induction h with
 | nil=>rfl
 | cons q _ ih=>rw [P8,P8,ih]
theorem Kf {η:MEn} (v:MV K θ F σ η) (mp:List (Option Nat)):MV K θ F (la mp σ) (AZ mp η):=by
 refine ⟨by unfold AZ la; rw [PJ,PJ],λ i d e=>?_⟩;unfold AZ at e;unfold la;rw [P9] at e ⊢;cases hm:mp[i]? with
 | none=>rw [hm] at e; cases e
 | some o =>
  rw [hm] at e;have e':(o.bind λ j=>(η[j]?).join)=some d:=Option.some.inj e;cases o with
  | none=>cases e'
  | some j =>
   have e2:(η[j]?).join=some d:=e';cases hj:η[j]? with
   | none=>rw [hj] at e2; cases e2
   | some y =>
    rw [hj] at e2;have e3:y=some d:=e2;subst e3;obtain ⟨u,h1,h2⟩:=v.val j d hj;refine ⟨u,?_,h2⟩;show some ((σ[j]?).join)=some (some u);rw [h1]; rfl
theorem Dv (ht:TgP X.K ks gt t) (hks:∀ k∈ks,mp[k]?=some none):∀ σ H Q,tM X.K cl (mcL mp fi ks t p f) σ H Q->Fp mp (tMI X.K cl fi) gt (tMT X.K cl p) (tM X.K cl f) σ H Q:=λ σ H Q ⟨θ,F,w,d,s',m,v,hf,q⟩=>by
 obtain ⟨⟨ds,s1⟩,h1,hf⟩:=ac hf;obtain ⟨s2,h2,hf⟩:=ac hf;cases hf;dsimp only at h2;refine ⟨θ,F,w,ds,s1,m,v,h1,λ J θ1 F1 H1 p1 q1 m1 ip D hD=>?_⟩;have kept:∀ {σ2:St},σ2.length=(la mp σ).length->(∀ i,i∉ks->σ2[i]?=(la mp σ)[i]?)->zk (la mp σ) σ2:=λ {σ2} hl hn=>⟨hl,λ i v e=>by
  by_cases hi:i∈ks
  ·have z:=hks i hi;unfold la at e;rw [P9,z] at e;cases e
  ·rw [hn i hi]; exact e⟩
 have v1:MV X.K θ1 F1 (la mp σ) (AZ mp w.η):=Kf (v.mono p1 q1) mp;have pD:θ1<+:θ1++[D]:=QM _ _;have mD:MR X.K cl (θ1++[D]) F1 (upd H1 D (.lst [])) (s1++[.lst []]):=m1.new hD ⟨m1.sm.free hD,[],aA,.nil⟩;have hDn:∀ {θ'},(θ1++[D])<+:θ'->θ'[s1.length]?=some D:=λ {θ'} hp=>nS hp (by rw [<- m1.len,P0 (PV _),QE]; rfl);refine ⟨λ i k Hc=>k=ds.length - i/\i<=ds.length/\∃ θc Fc sc,(θ1++[D])<+:θc/\Same F1 Fc/\MR X.K cl θc Fc Hc sc/\Dp ks t p f s1.length (AZ mp w.η) (ds.drop i) sc=some s',⟨_,rfl,Q1 _,θ1++[D],F1,_,Qi _,.refl _,mD,by simpa using h2⟩,?_⟩
 rintro i k Hc ⟨rfl,hi,θc,Fc,sc,pc,fc,mc,hgo⟩
 obtain ⟨ip1,ip2⟩:=ip Fc Hc i fc mc.sm;by_cases hlt:i < ds.length
 ·have e:ds[i]?=some ds[i]:=Qk hlt;obtain ⟨go,yl⟩:=ip1 _ e;rw [Rh hlt] at hgo;unfold Dp at hgo;obtain ⟨w1,e1,hgo⟩:=ac hgo;obtain ⟨⟨ok,s3⟩,e2,hgo⟩:=ac hgo;dsimp only at hgo;refine .inr ⟨go,λ H'=>∃ m',m' < ds.length - i/\(m'=ds.length - (i+1)/\i+1<=ds.length/\∃ θc Fc sc,(θ1++[D])<+:θc/\Same F1 Fc/\MR X.K cl θc Fc H' sc/\Dp ks t p f s1.length (AZ mp w.η) (ds.drop (i+1)) sc=some s'),λ H' n=>n,λ x H' y=>?_⟩;obtain ⟨F2,g2,rx⟩:=yl x H' y;have m2:=mc.grow g2;have v2:MV X.K θc F2 (la mp σ) (AZ mp w.η):=v1.mono (pD.trans pc) (fc.trans g2.ff);obtain ⟨ζ,e3,e1⟩:=ac e1;obtain ⟨η1,e4,e1⟩:=ac e1;cases e1;refine ht ⟨F2,H'⟩ F2 H' (la mp σ) _ _ x ζ (MR.vw (w:=⟨AZ mp w.η,sc⟩) m2 v2) rx e3 _ λ σ3 F3 H3 sr3 g3 l3 n3=>⟨kept l3 n3,?_⟩;have m3:=m2.grow g3;have v3:MV X.K θc F3 σ3 η1:=Cs sr3 ks e4 (by rw [v2.len,l3]) λ i d' e=>by
   by_cases hi:i∈ks
   ·exact .inl hi
   ·obtain ⟨u,e1,e2⟩:=v2.val i d' e;exact .inr ⟨u,by rw [n3 i hi]; exact e1,e2.mono (Qi _) g3.ff⟩
  have f3:Same F1 F3:=fc.trans (g2.ff.trans g3.ff);refine ⟨θc,F3,⟨η1,sc⟩,ok,s3,m3,v3,e2,λ θ4 F4 H4 p4 q4 m4=>?_⟩;cases ok with
  | false =>
   rw [if_neg PN] at hgo;rw [if_neg PN];exact ⟨_,by omega,rfl,hlt,θ4,F4,s3,pc.trans p4,f3.trans q4,m4,hgo⟩
  | true =>
   rw [if_pos rfl] at hgo;rw [if_pos rfl];obtain ⟨⟨d5,s5⟩,e5,hgo⟩:=ac hgo;refine ⟨θ4,F4,⟨η1,s3⟩,d5,s5,m4,v3.mono p4 q4,e5,λ u θ5 F5 H5 p5 q5 m5 r5=>?_⟩;dsimp only at hgo;split at hgo
   ·rename_i acc hacc;split at hgo
    ·rename_i hlen;have hp5:(θ1++[D])<+:θ5:=pc.trans (p4.trans p5);obtain ⟨z1,xs,z2,z3⟩:=m5.cel _ D _ (hDn hp5) hacc;refine ⟨xs,z2,by rw [<- j9 z3]; exact hlen,_,by omega,rfl,hlt,θ5,F5,_,hp5,f3.trans (q4.trans q5),m5.put (c':=.lst (acc++[d5])) (hDn hp5) hacc rfl ⟨z1,xs++[u],aA,vZ z3 r5⟩,hgo⟩
    ·cases hgo
   ·cases hgo
 ·have ei:i=ds.length:=by omega
  subst ei;rw [RN] at hgo;cases hgo;exact .inl ⟨ip2 rfl,q _ θc Fc Hc (p1.trans (pD.trans pc)) (q1.trans fc) mc ⟨D,hDn pc,rfl⟩⟩
theorem ME.lcomp (hc:X.calm=true) (ck:CompSc X scope N' mp) (ht:TgP X.K ks gt t) (hks:∀ k∈ks,mp[k]?=some none) (hi:MI X cl tg iter fi)
  (hb:∀ s H fp,PG (b7 X scope N' s H fp) tg gt/\MTs (b7 X scope N' s H fp) cl ifs p/\ME (b7 X scope N' s H fp) cl elt f)
  (hs:∀ x,foldedSetIterable iter X.env x=pure x:=by intro _; rfl):ME X cl (.ListComp elt [⟨tg,iter,ifs,0⟩] scope pos) (mcL mp fi ks t p f):=PE.imp (FF hc ck hi hb hs) (Dv ht hks)
theorem MS.setM (i:Nat) {y:Str} {py spos:Pos} (hc:X.calm=true) (hN:X.N.Nodup) (ck:CompSc X scope N' mp) (ht:TgP X.K ks gt t) (hks:∀ k∈ks,mp[k]?=some none) (hi:MI X cl tg iter fi)
  (hb:∀ s H fp,PG (b7 X scope N' s H fp) tg gt/\MTs (b7 X scope N' s H fp) cl ifs p/\ME (b7 X scope N' s H fp) cl elt f)
  (hiy:X.N[i]?=some y:=by rfl) (hy:X.env.scope.names.lookup y=some .local:=by rfl) (hsw:swapsWith (.ListComp elt [⟨tg,iter,ifs,0⟩] scope pos) (some (.Name y py)) spos.line X.env=pure true:=by rfl)
  (hs:∀ x,foldedSetIterable iter X.env x=pure x:=by intro _; rfl):MS X cl (.Assign [.Name y py] (.ListComp elt [⟨tg,iter,ifs,0⟩] scope pos) spos) (bR i (mcL mp fi ks t p f)):=PS.imp (vW hc hN hiy hy ck hi hb hsw hs) λ Z σ H ⟨θ,F,w,o,m,v,hf,q⟩=>by
 obtain ⟨⟨d,s⟩,h1,hf⟩:=ac hf;cases hf;exact Dv ht hks σ H _ ⟨θ,F,w,d,s,m,v,h1,λ u θ' F' H' p' s' m' r'=>q _ θ' F' H' p' s' m' ((v.mono p' s').set i r')⟩
end
def tPM (K:PH) (cl:Nat->Qd) (f:En->Option (Option Int)):TO:=λ σ H Q=>∃ θ F w o,MR K cl θ F H w.s/\MV K θ F σ w.η/\f (vw w)=some o/\∀ F' H',Same F F'->MR K cl θ F' H' w.s->Q o H'
def mSl (f:MF) (fl fh:En->Option (Option Int)):MF:=λ w=>(f w).bind λ r=>(pD r.2 r.1).bind λ x=>(fl (vw ⟨w.η,r.2⟩)).bind λ l=>(fh (vw ⟨w.η,r.2⟩)).bind λ h=>(pSl x l h).bind λ z=>some (.d z,r.2)
section
variable {X:Cx} {cl:Nat->Qd} {e:Expr} {f:MF} {pos p2:Pos} {lo hi:Option Expr} {fl fh:En->Option (Option Int)}
theorem Mh {e:Option Expr} (h:∀ B,P X B e fl):PO X e (tPM X.K cl fl):=λ pz s σ H Q I ⟨θ,F,w,o,m,v,hf,q⟩ =>
 h ⟨F,H⟩ pz s σ H Q I ⟨F,vw w,o,m.vw v,hf,λ F' H' g=>q F' H' g.ff (m.grow g)⟩
theorem ME.sl (he:ME X cl e f) (hl:∀ B,P X B lo fl) (hu:∀ B,P X B hi fh):ME X cl (.Subscript e (.Slice lo hi none p2) pos) (mSl f fl fh):=PE.imp (Db NO he (Mh (cl:=cl) hl) (Mh (cl:=cl) hu)) λ σ H Q ⟨θ,F,w,d,s',m,v,hf,q⟩=>by
 obtain ⟨⟨d1,s1⟩,h1,hf⟩:=ac hf;obtain ⟨x,hx,hf⟩:=ac hf;obtain ⟨l,hl,hf⟩:=ac hf;obtain ⟨h,hh,hf⟩:=ac hf;obtain ⟨z,hz,hf⟩:=ac hf;cases hf;refine ⟨θ,F,w,d1,s1,m,v,h1,λ u θ1 F1 H1 p1 q1 m1 r1=>⟨θ1,F1,⟨w.η,s1⟩,l,m1,v.mono p1 q1,hl,λ F2 H2 q2 m2=>⟨θ1,F2,⟨w.η,s1⟩,h,m2,v.mono p1 (q1.trans q2),hh,λ F3 H3 q3 m3=>?_⟩⟩⟩;exact LG m3.sm (qL m3 _ _ _ hx (r1.mono (Qi _) (q2.trans q3))) hz λ t F4 H4 g4 rt=>q t θ1 F4 H4 p1 (q1.trans (q2.trans (q3.trans g4.ff))) (m3.grow g4) rt
end
theorem EE {w:Wd} {fl fh:En->Option (Option Int)} {d:D} {s:Sto} {x:PD} {l h:Option Int} (h1:f w=some (d,s)) (hx:pD s d=some x) (hl:fl (vw ⟨w.η,s⟩)=some l) (hh:fh (vw ⟨w.η,s⟩)=some h) (hz:pSl x l h=some z):mSl f fl fh w=some (.d z,s):=by
 unfold mSl;rw [h1,PC,hx,PC,hl,PC,hh,PC,hz]; rfl
def mFz (f:MF):MF:=λ w=>(f w).bind λ r=>match r.1 with
 | .d x=>some (.d x,r.2)
 | .r n=>match r.2[n]? with
  | some (.lst ds)=>(xl ds).bind λ xs=>some (.d (.list xs),r.2.set n (.fz (.list xs)))
  | some (.fz x)=>some (.d x,r.2)
  | _=>none
def MC (c:MTF) (f g:MF):MF:=λ w=>(c w).bind λ r=>if r.1=true then f ⟨w.η,r.2⟩ else g ⟨w.η,r.2⟩
def yT (fs:MFs):MF:=λ w=>(fs w).bind λ r=>if r.1.length<=P4 then some (.r r.2.length,r.2++[.lst r.1]) else none
def wU (f g:MF):MF:=λ w=>(f w).bind λ r=>(g ⟨w.η,r.2⟩).bind λ q=>match r.1,q.1 with
 | .r n,.d (.int i)=>(match q.2[n]? with | some (.lst ds)=>(atI ds i).bind λ d=>some (d,q.2) | _=>none)
 | _,_=>none
def FU:MF:=λ w=>some (.r w.s.length,w.s++[.dct []])
section
variable {X:Cx} {cl:Nat->Qd} {a b c e o:Expr} {es:List Expr} {f g:MF} {fs:MFs} {tc:MTF} {pos:Pos}
theorem CelR.frz {a b:Qd} {o:HO} {c:Cell} (h:CelR K cl θ F H b c) (hne:b≠a) (hF:F a=none):CelR K cl θ (upd F a o) H b c:=by
 have sn:Same F (upd F a o):=cL hF o;cases c with
 | obj k fs=>obtain ⟨h1,h2,h3,dx,xs,h4,h5⟩:=h; exact ⟨by rw [aD hne]; exact h1,h2,h3,dx,xs,h4,h5.mono (Qi _) sn⟩
 | lst ds=>obtain ⟨h1,xs,h4,h5⟩:=h; exact ⟨by rw [aD hne]; exact h1,xs,h4,h5.mono (Qi _) sn⟩
 | dct kvs=>obtain ⟨h1,xs,h4,h5⟩:=h; exact ⟨by rw [aD hne]; exact h1,xs,h4,h5.mono (Qi _) sn⟩
 | fz x=>exact ⟨Rel.mono sn h.1,h.2⟩
theorem MR.frz {s:Sto} (m:MR K cl θ F H s) {ad:Qd} {ds:List D} {xs:List PD} (e1:θ[n]?=some ad) (e2:s[n]?=some (.lst ds)) (hx:xl ds=some xs) :
  ∃ F',Same F F'/\MR K cl θ F' H (s.set n (.fz (.list xs)))/\Rel K F' (.list xs) (.ref ad):=by
 obtain ⟨h1,vs,h4,h5⟩:=m.cel n ad _ e1 e2;have sn:Same F (upd F ad (.lst vs)):=cL h1 _;have rl:Rel K (upd F ad (.lst vs)) (.list xs) (.ref ad):=kG (SqL.of aA) ((DM h5 hx).mono sn);refine ⟨upd F ad (.lst vs),sn,⟨λ b u q=>?_,by rw [Qa]; exact m.len,m.nd,λ k b c f1 f2=>?_⟩,rl⟩
 ·by_cases hb:b=ad
  ·subst hb; rw [aA] at q; rw [<- q]; exact h4
  ·rw [aD hb] at q; exact m.sm b u q
 ·by_cases hk:n=k
  ·subst hk;rw [PY (PR.mp e2).1] at f2;cases f2;rw [e1] at f1;cases f1;exact ⟨rl,_,h4⟩
  ·rw [PK hk] at f2;exact (m.cel k b c f1 f2).frz (Ly m.nd f1 e1 (Ne.symm hk)) h1
theorem Ow:∀ σ H Q,tM X.K cl (mFz f) σ H Q->tM X.K cl f σ H Q:=λ σ H Q ⟨θ,F,w,d,s',m,v,hf,q⟩=>by
 obtain ⟨⟨d1,s1⟩,h1,hf⟩:=ac hf;refine ⟨θ,F,w,d1,s1,m,v,h1,λ u θ1 F1 H1 p1 q1 m1 r1=>?_⟩;cases d1 with
 | d x=>cases hf; exact q u θ1 F1 H1 p1 q1 m1 r1
 | r n =>
  dsimp only at hf;obtain ⟨ad,e1,rfl⟩:=r1;split at hf
  ·rename_i ds e2;obtain ⟨xs,hx,hf⟩:=ac hf;cases hf;obtain ⟨F2,sn,m2,rl⟩:=m1.frz e1 e2 hx;exact q _ θ1 F2 H1 p1 (q1.trans sn) m2 rl
  ·rename_i x e2;cases hf;exact q _ θ1 F1 H1 p1 q1 m1 (m1.cel n ad _ e1 e2).1
  ·cases hf
theorem qI (h:ME X cl e f):ME X cl e (mFz f):=PE.imp h Ow
theorem ME.ifx (hc:MT X cl c tc) (ha:ME X cl a f) (hb:ME X cl b g):ME X cl (.IfExp c a b pos) (MC tc f g):=PE.imp (Dd hc ha hb) λ σ H Q ⟨θ,F,w,d,s',m,v,hf,q⟩=>by
 obtain ⟨⟨x,s1⟩,h1,hf⟩:=ac hf;refine ⟨θ,F,w,x,s1,m,v,h1,λ θ1 F1 H1 p1 q1 m1=>?_⟩;cases x with
 | true =>
  rw [if_pos rfl] at hf ⊢;exact ⟨θ1,F1,⟨w.η,s1⟩,d,s',m1,v.mono p1 q1,hf,λ u θ2 F2 H2 p2 q2 m2 r2=>q u θ2 F2 H2 (p1.trans p2) (q1.trans q2) m2 r2⟩
 | false =>
  rw [if_neg PN] at hf ⊢;exact ⟨θ1,F1,⟨w.η,s1⟩,d,s',m1,v.mono p1 q1,hf,λ u θ2 F2 H2 p2 q2 m2 r2=>q u θ2 F2 H2 (p1.trans p2) (q1.trans q2) m2 r2⟩
theorem ur {s:Sto} (h:θ.length=s.length):(θ++[p])[s.length]?=some p:=by rw [<- h,P0 (PV _),QE]; rfl
theorem ME.lstM (h:MA X cl es fs):ME X cl (.List es pos) (yT fs):=PE.imp (BS h) λ σ H Q ⟨θ,F,w,d,s',m,v,hf,q⟩=>by
 obtain ⟨⟨ds,s1⟩,h1,hf⟩:=ac hf;dsimp only at hf;split at hf
 ·rename_i hl;cases hf;refine ⟨θ,F,w,ds,s1,m,v,h1,λ vs θ1 F1 H1 p1 q1 m1 r1=>⟨by rw [<- j9 r1]; exact hl,λ p hp=>?_⟩⟩;have pp:θ1<+:θ1++[p]:=QM _ _;exact q _ (θ1++[p]) F1 _ (p1.trans pp) q1 (m1.new hp ⟨m1.sm.free hp,vs,aA,r1.mono pp (.refl _)⟩) ⟨p,ur m1.len,rfl⟩
 ·cases hf
theorem ME.dict0:ME X cl (.Dict [] [] pos) FU:=PE.imp HN λ σ H Q ⟨θ,F,w,d,s',m,v,hf,q⟩ p hp=>by
 cases hf;have pp:θ<+:θ++[p]:=QM _ _;exact q _ (θ++[p]) F _ pp (.refl _) (m.new hp ⟨m.sm.free hp,[],aA,.nil⟩) ⟨p,ur m.len,rfl⟩
theorem DRs.atI {ds:List D} (h:DRs K θ F ds vs) {i:Int} {d:D} (e:L2.atI ds i=some d):∃ v,L2.atI vs i=some v/\DR K θ F d v:=by
 unfold L2.atI at e ⊢;obtain ⟨j,h1,h2⟩:=ac e;rw [<- j9 h,h1,PC];exact h.get h2
theorem ME.ixL (ha:ME X cl a f) (hb:ME X cl b g) (hs:uZ b:=by intro _ _; rfl):ME X cl (.Subscript a b pos) (wU f g):=PE.imp (HJ ix_list ha hb hs) λ σ H Q ⟨θ,F,w,d,s',m,v,hf,q⟩=>by
 obtain ⟨⟨d1,s1⟩,h1,hf⟩:=ac hf;obtain ⟨⟨d2,s2⟩,h2,hf⟩:=ac hf;dsimp only at hf;split at hf
 ·rename_i _ n i _;split at hf
  ·rename_i ds hc;obtain ⟨d3,hd,hf⟩:=ac hf;cases hf;refine ⟨θ,F,w,_,s1,m,v,h1,λ u θ1 F1 H1 p1 q1 m1 r1=>⟨θ1,F1,⟨w.η,s1⟩,_,_,m1,v.mono p1 q1,h2,λ u2 θ2 F2 H2 p2 q2 m2 r2=>?_⟩⟩;obtain ⟨ad,z1,rfl⟩:=r1.mono p2 q2;have r2':Rel X.K F2 (.int i) u2:=r2;obtain ⟨w1,xs,w3,w4⟩:=m2.cel _ ad _ z1 hc;obtain ⟨x,y1,y2⟩:=DRs.atI w4 hd;exact ⟨ad,xs,i,x,rfl,r2'.int,SqL.of w3,y1,q x θ2 F2 H2 (p1.trans p2) (q1.trans q2) m2 y2⟩
  ·cases hf
 ·cases hf
end
def wV (o g:MF):MF:=λ w=>(o w).bind λ r=>match r.1 with
 | .r n=>(match r.2[n]? with
  | some (.lst _)=>(g ⟨w.η,r.2⟩).bind λ q=>(pD q.2 q.1).bind λ x=>match x,q.2[n]? with
   | .list ys,some (.lst ds)=>if ds.length+ys.length<=P4 then some (.d .none,q.2.set n (.lst (ds++ys.map .d))) else none
   | _,_=>none
  | _=>none)
 | _=>none
def vB (o g:MF):MF:=λ w=>(o w).bind λ r=>match r.1 with
 | .r n=>(match r.2[n]? with
  | some (.lst _)=>(g ⟨w.η,r.2⟩).bind λ q=>match q.2[n]? with
   | some (.lst ds)=>if ds.length < P4 then some (.d .none,q.2.set n (.lst (ds++[q.1]))) else none
   | _=>none
  | _=>none)
 | _=>none
section
variable {X:Cx} {cl:Nat->Qd} {o e:Expr} {f g:MF} {apos cpos:Pos}
theorem uj {α β:Type} {R:α->β->Prop} {as as':List α} {bs bs':List β} (h:Paired R as bs) (h':Paired R as' bs'):Paired R (as++as') (bs++bs'):=by
 induction h with
 | nil=>exact h'
 | cons q _ ih=>exact .cons q ih
theorem ME.extC (ho:ME X cl o f) (he:ME X cl e g) (hbase:attributeBase o "extend" X.env (eval o X.env)=eval o X.env:=by rfl)
  (hfew:((backTo cpos (PX [e] X.env)).all (λ x=>!x.1)&&(backToKw cpos (keywordEach [] X.env)).all (λ x=>x.1.isSome)
   && decide ([e].length+([]:List Keyword).length+(if ([]:List Keyword).isEmpty then 0 else 1) < 30))=true:=by rfl)
  (hline:(apos.endLine==cpos.line)=true:=by rfl) (hs:PX [e] X.env=(false,eval e X.env)::PX [] X.env:=by exact bS rfl) (hplain:(backTo cpos (PX [] X.env)).any (·.1)=false:=by rfl) :
  ME X cl (.Call (.Attribute o "extend" apos) [e] [] cpos) (wV f g) :=
 PE.imp (Bk PySem.F.plainAttrs_list PySem.F.slot_list_extend PySem.F.type_list_extend FR ho (ag he aQ hs) hbase hfew hline hs hplain) λ σ H Q ⟨θ,F,w,d,s',m,v,hf,q⟩=>by
  obtain ⟨⟨d1,s1⟩,h1,hf⟩:=ac hf;cases d1 with
  | d x=>cases hf
  | r n =>
   dsimp only at hf;split at hf
   ·rename_i ds0 hc0;obtain ⟨⟨d2,s2⟩,h2,hf⟩:=ac hf;obtain ⟨x,hx,hf⟩:=ac hf;dsimp only at hf hx;split at hf
    ·rename_i ys ds hc;split at hf
     ·rename_i hl;cases hf;refine ⟨θ,F,w,_,s1,m,v,h1,λ u θ1 F1 H1 p1 q1 m1 r1=>?_⟩;obtain ⟨ad,z1,rfl⟩:=r1;obtain ⟨w1,xs0,w3,w4⟩:=m1.cel n ad _ z1 hc0;refine ⟨.inl ⟨rfl,xs0,SqL.of w3⟩,θ1,F1,⟨w.η,s1⟩,[d2],s2,m1,v.mono p1 q1,ar h2 cw,λ vs θ2 F2 H2 p2 q2 m2 r2=>?_⟩;cases r2 with
      | cons ra rn =>
       cases rn;have rx:=qL m2 _ _ _ hx ra;obtain ⟨b,zs,rfl,hq,r3⟩:=rx.lst;have z2:=nS p2 z1;obtain ⟨w5,xs,w6,w7⟩:=m2.cel n ad _ z2 hc;have hlx:=j9 w7;refine ⟨ad,b,xs,zs,rfl,rfl,w6,m2.sm.seq hq,by rw [<- hlx,r3.length]; exact hl,?_⟩;exact q _ θ2 F2 _ (p1.trans p2) (q1.trans q2) (m2.put (c':=.lst (ds++ys.map .d)) z2 hc rfl ⟨w5,xs++zs,aA,uj w7 (BO r3)⟩) (show Rel X.K F2 .none .non from uU)
     ·cases hf
    ·cases hf
   ·cases hf
theorem ME.appC (ho:ME X cl o f) (he:ME X cl e g) (hbase:attributeBase o "append" X.env (eval o X.env)=eval o X.env:=by rfl)
  (hfew:((backTo cpos (PX [e] X.env)).all (λ x=>!x.1)&&(backToKw cpos (keywordEach [] X.env)).all (λ x=>x.1.isSome)
   && decide ([e].length+([]:List Keyword).length+(if ([]:List Keyword).isEmpty then 0 else 1) < 30))=true:=by rfl)
  (hline:(apos.endLine==cpos.line)=true:=by rfl) (hs:PX [e] X.env=(false,eval e X.env)::PX [] X.env:=by exact bS rfl) (hplain:(backTo cpos (PX [] X.env)).any (·.1)=false:=by rfl) :
  ME X cl (.Call (.Attribute o "append" apos) [e] [] cpos) (vB f g) :=
 PE.imp (Bk PySem.F.plainAttrs_list PySem.F.slot_list_append PySem.F.type_list_append xQ ho (ag he aQ hs) hbase hfew hline hs hplain) λ σ H Q ⟨θ,F,w,d,s',m,v,hf,q⟩=>by
  obtain ⟨⟨d1,s1⟩,h1,hf⟩:=ac hf;cases d1 with
  | d x=>cases hf
  | r n =>
   dsimp only at hf;split at hf
   ·rename_i ds0 hc0;obtain ⟨⟨d2,s2⟩,h2,hf⟩:=ac hf;dsimp only at hf;split at hf
    ·rename_i ds hc;split at hf
     ·rename_i hl;cases hf;refine ⟨θ,F,w,_,s1,m,v,h1,λ u θ1 F1 H1 p1 q1 m1 r1=>?_⟩;obtain ⟨ad,z1,rfl⟩:=r1;obtain ⟨w1,xs0,w3,w4⟩:=m1.cel n ad _ z1 hc0;refine ⟨.inl ⟨rfl,xs0,SqL.of w3⟩,θ1,F1,⟨w.η,s1⟩,[d2],s2,m1,v.mono p1 q1,ar h2 cw,λ vs θ2 F2 H2 p2 q2 m2 r2=>?_⟩;cases r2 with
      | @cons _ y _ _ ra rn =>
       cases rn;have z2:=nS p2 z1;obtain ⟨w5,xs,w6,w7⟩:=m2.cel n ad _ z2 hc;have hlx:=j9 w7;refine ⟨ad,xs,y,rfl,rfl,w6,by rw [<- hlx]; exact hl,?_⟩;exact q _ θ2 F2 _ (p1.trans p2) (q1.trans q2) (m2.put (c':=.lst (ds++[d2])) z2 hc rfl ⟨w5,xs++[y],aA,vZ w7 ra⟩) (show Rel X.K F2 .none .non from uU)
     ·cases hf
    ·cases hf
   ·cases hf
end
theorem IP {s:PQ} {kvs:List (Key×V)} {k:Key} {u r:PP} {z:V} {A:QI} {E:PP->PQ->Prop} {Q:PP->PQ->Prop} (I:Inv X pz σ H s) (e:H a=some (.dK kvs)) (ry:RelV (kV k) u) (rz:RelV z r)
  (there:∀ v,rC kvs k=some v->∀ w' s',Inv X pz σ H s'->RelV v w'->Q w' s') (new:rC kvs k=none->kvs.length < P4/\∀ s',Inv X pz σ (upd H a (.dK (pH kvs k z))) s'->Q r s'):Qs (Qq X.prog X.w) A (call (.builtin "dict.setdefault") [.ref a,u,r]) Q E s:=by
 obtain ⟨zz,hd,vs,rel,dd⟩:=IM I.hok e;refine call_meetsIn PySem.F.slot_dict_setdefault dd.typeIs PySem.F.entry_dict_setdefault (PySem.F.args_dict_setdefault_3 _ _ _) (PySem.kt_meets_setdefault (fV X.prog X.w) a (DB ry) hd r) ⟨vs,dd,by rw [<- rel.length]; exact zz,λ v hv=>?_,λ hn h' dd' hs=>?_⟩
 ·cases l:rC kvs k with
  | none =>
   have hn:valueAt vs k=none:=RelO.none_of (by rw [<- l]; exact rel.val k);rw [hn] at hv; cases hv
  | some x =>
   obtain ⟨w',hw,rw'⟩:=RelO.some_of (v:=x) (o:=valueAt vs k) (by rw [<- l]; exact rel.val k);rw [hw] at hv;cases hv;exact there x l _ _ (I.tok _) rw'
 ·cases l:rC kvs k with
  | some x =>
   obtain ⟨w',hw,rw'⟩:=RelO.some_of (v:=x) (o:=valueAt vs k) (by rw [<- l]; exact rel.val k);rw [hw] at hn; cases hn
  | none =>
   obtain ⟨hl,q⟩:=new l;have he:∃ q,h'.get? a=some q:=let ⟨q,_,_,hq,_⟩:=dd'; ⟨q,hq⟩;exact q _ (zg I (by rw [e]; exact True.intro) hs he (EY (by have:=qx kvs k z; omega) hd (rel.put k rz) dd'))
def OY (td ty tx:TE):TE:=λ σ H Q=>td σ H λ x H1=>∃ a,x=.ref a/\IsD H1 a/\ty σ H1 λ y H2=>tx σ H2 λ z H3=>∃ kvs k,H3 a=some (.dK kvs)/\y=kV k /\
 (∀ v,rC kvs k=some v->Q v H3)/\(rC kvs k=none->kvs.length < P4/\Q z (upd H3 a (.dK (pH kvs k z))))
theorem Mo {o f:Expr} {cpos:Pos} {td ty tx:TE} (ho:PE X o td) (he:PE X e ty) (hf:PE X f tx) (m:M2 X o "setdefault" apos e f cpos):PE X (.Call (.Attribute o "setdefault" apos) [e,f] [] cpos) (OY td ty tx):=by
 intro pz s σ H Q I h;refine wpAny_Call_method m.base m.few m.line PySem.F.plainAttrs_dict PySem.F.slot_dict_setdefault PySem.F.type_dict_setdefault (thn (ho pz s σ H _ I h) λ u s1 ⟨x,H1,I1,rx,a,ex,d,q1⟩=>?_);subst ex;obtain rfl:u=Value.ref a:=rx;obtain ⟨t1,t2,_⟩:=MW I1 d;refine ⟨t1,t2,?_⟩;rw [m.trees];refine Calls.callWith_builtin rfl (Calls.evalArgs_plain (Calls.spliced_cons (thn (he pz s1 σ H1 _ I1 q1) λ iv s2 ⟨y,H2,I2,ry,q2⟩ =>
  Calls.spliced_cons (thn (hf pz s2 σ H2 _ I2 q2) λ fv s3 ⟨z,H3,I3,rz,kvs,k,ea,ey,q3,q4⟩=>Calls.spliced_nil ?_))))
 subst ey;exact IP I3 ea ry rz (λ v l w' s4 I4 rw'=>⟨v,H3,I4,rw',q3 v l⟩) λ l=>⟨(q4 l).1,λ s4 I4=>⟨z,_,I4,rz,(q4 l).2⟩⟩
def Dy:PD->Option Key
 | .int i=>some (.inl i)
 | .str x=>some (.inr x)
 | _=>none
def ci (kvs:List (Key×D)) (k:Key):Option D:=(kvs.find? λ kv=>decide (kv.1=k)).map (·.2)
theorem DRk.look {vs:List (Key×V)} (h:DRk K θ F kvs vs) (k:Key):(∀ d,ci kvs k=some d->∃ v,rC vs k=some v/\DR K θ F d v)/\(ci kvs k=none->rC vs k=none):=by
 induction h with
 | nil=>exact ⟨λ d e=>(by cases e),λ _=>rfl⟩
 | @cons a b as bs r t ih =>
  by_cases hk:a.1=k
  ·have hb:b.1=k:=by rw [<- r.1]; exact hk
   have e1:ci (a::as) k=some a.2:=by simp [ci,Q0,hk]
   rw [e1,wo hb];exact ⟨λ d e=>(by cases e; exact ⟨_,rfl,r.2⟩),λ e=>(by cases e)⟩
  ·have hb:¬ b.1=k:=by rw [<- r.1]; exact hk
   have e1:ci (a::as) k=ci as k:=by simp [ci,Q0,hk]
   rw [e1,wp hb];exact ih
theorem Hy {kvs:List (Key×V)} {k:Key} {z:V} (h:rC kvs k=none):pH kvs k z=kvs++[(k,z)]:=by
 unfold pH;rw [if_neg];intro hc;obtain ⟨p,hp,hk⟩:=List.any_eq_true.mp hc;unfold rC at h;rw [Option.map_eq_none_iff] at h;exact absurd hk (List.find?_eq_none.mp h p hp)
def Ij (o g f:MF):MF:=λ w=>(o w).bind λ r=>match r.1 with
 | .r n=>(match r.2[n]? with
  | some (.dct _)=>(g ⟨w.η,r.2⟩).bind λ q=>match q.1 with
   | .d x=>(Dy x).bind λ k=>(f ⟨w.η,q.2⟩).bind λ z=>match z.2[n]? with
    | some (.dct kvs)=>(match ci kvs k with
     | some d=>some (d,z.2)
     | none=>if kvs.length < P4 then some (z.1,z.2.set n (.dct (kvs++[(k,z.1)]))) else none)
    | _=>none
   | _=>none
  | _=>none)
 | _=>none
theorem ME.setdef {cl:Nat->Qd} {o c:Expr} {g h:MF} {cpos:Pos} (ho:ME X cl o f) (he:ME X cl e g) (hc:ME X cl c h) (mm:M2 X o "setdefault" apos e c cpos:=by exact ⟨rfl,rfl,rfl,rfl⟩) :
  ME X cl (.Call (.Attribute o "setdefault" apos) [e,c] [] cpos) (Ij f g h):=PE.imp (Mo ho he hc mm) λ σ H Q ⟨θ,F,w,d,s',m,v,hf,q⟩=>by
 obtain ⟨⟨d1,s1⟩,h1,hf⟩:=ac hf;cases d1 with
 | d x=>cases hf
 | r n =>
  dsimp only at hf;split at hf
  ·rename_i kv0 hc0;obtain ⟨⟨d2,s2⟩,h2,hf⟩:=ac hf;cases d2 with
   | r n2=>cases hf
   | d x =>
    dsimp only at hf;obtain ⟨k,hk,hf⟩:=ac hf;obtain ⟨⟨d3,s3⟩,h3,hf⟩:=ac hf;dsimp only at hf;split at hf
    ·rename_i kvs hc3;refine ⟨θ,F,w,_,s1,m,v,h1,λ u θ1 F1 H1 p1 q1 m1 r1=>?_⟩;obtain ⟨ad,z1,rfl⟩:=r1;obtain ⟨w1,ks0,w3,w4⟩:=m1.cel n ad _ z1 hc0;refine ⟨ad,rfl,.inl ⟨ks0,.inl w3⟩,θ1,F1,⟨w.η,s1⟩,.d x,s2,m1,v.mono p1 q1,h2,λ u2 θ2 F2 H2 p2 q2 m2 r2=>?_⟩;refine ⟨θ2,F2,⟨w.η,s2⟩,d3,s3,m2,v.mono (p1.trans p2) (q1.trans q2),h3,λ u3 θ3 F3 H3 p3 q3 m3 r3=>?_⟩;have z3:=nS p3 (nS p2 z1);obtain ⟨w5,ks,w6,w7⟩:=m3.cel n ad _ z3 hc3;have ey:u2=kV k:=by
      cases x <;> simp only [Dy,Option.some.injEq,reduceCtorEq] at hk
      ·subst hk; exact (show Rel X.K F2 (.int _) u2 from r2).int
      ·subst hk; exact (show Rel X.K F2 (.str _) u2 from r2).str
     refine ⟨ks,k,w6,ey,λ vv hv=>?_,λ hn=>?_⟩
     ·cases l:ci kvs k with
      | none=>rw [(w7.look k).2 l] at hv; cases hv
      | some dd =>
       rw [l] at hf;cases hf;obtain ⟨v',e1,e2⟩:=(w7.look k).1 _ l;rw [hv] at e1;cases e1;exact q _ θ3 F3 H3 (p1.trans (p2.trans p3)) (q1.trans (q2.trans q3)) m3 e2
     ·cases l:ci kvs k with
      | some dd =>
       obtain ⟨v',e1,_⟩:=(w7.look k).1 _ l;rw [hn] at e1; cases e1
      | none =>
       rw [l] at hf;dsimp only at hf;split at hf
       ·rename_i hl;cases hf;rw [Hy hn];refine ⟨by rw [<- j9 w7]; exact hl,q _ θ3 F3 _ (p1.trans (p2.trans p3)) (q1.trans (q2.trans q3)) (m3.put (c':=.dct (kvs++[(k,d)])) z3 hc3 rfl ⟨w5,ks++[(k,u3)],aA,vZ w7 ⟨rfl,r3⟩⟩) r3⟩
       ·cases hf
    ·cases hf
  ·cases hf
def EF (f g:MF):MF:=λ w=>(f w).bind λ r=>match r.1 with | .d x=>(asB x).bind λ c=>if c=true then g ⟨w.η,r.2⟩ else some (.d (.bool false),r.2) | _=>none
section
variable {X:Cx} {cl:Nat->Qd} {a b e:Expr} {rest es:List Expr} {f g:MF} {fs:MFs} {pos pp:Pos}
theorem ME.one {op} (ha:ME X cl a f):ME X cl (.BoolOp op [a] pos) f:=HH ha
theorem ME.and (ha:ME X cl a f) (hb:ME X cl (.BoolOp .And (b::rest) pos) g):ME X cl (.BoolOp .And (a::b::rest) pos) (EF f g):=PE.imp (HU ha hb) λ σ H Q ⟨θ,F,w,d,s',m,v,hf,q⟩=>by
 obtain ⟨⟨d1,s1⟩,h1,hf⟩:=ac hf;cases d1 with
 | r n=>cases hf
 | d x =>
  dsimp only at hf;obtain ⟨c,hc,hf2⟩:=ac hf;clear hf;obtain rfl:=jH hc;have hf:=hf2;clear hf2;refine ⟨θ,F,w,_,s1,m,v,h1,λ u θ1 F1 H1 p1 q1 m1 r1=>⟨c,(show Rel X.K F1 (.bool c) u from r1).bl,?_⟩⟩;cases c with
  | false =>
   rw [if_neg PN] at hf ⊢;cases hf;exact q _ θ1 F1 H1 p1 q1 m1 (show Rel X.K F1 (.bool false) _ from fE)
  | true =>
   rw [if_pos rfl] at hf ⊢;exact ⟨θ1,F1,⟨w.η,s1⟩,d,s',m1,v.mono p1 q1,hf,λ u θ2 F2 H2 p2 q2 m2 r2=>q u θ2 F2 H2 (p1.trans p2) (q1.trans q2) m2 r2⟩
end
section
variable {X:Cx} {cl:Nat->Qd} {tg e:Expr} {f:MF} {pos:Pos}
end
theorem Eu {P:Ql} (x:ObjOk P w H h a o):∃ ob,h.get? a=some ob:=by
 cases o with
 | lst xs=>obtain ⟨_,_,_,_,e⟩:=x; exact ⟨_,e⟩
 | tup xs=>obtain ⟨_,_,_,ob,e,_⟩:=x; exact ⟨_,e⟩
 | dK kvs=>obtain ⟨_,_,_,_,o,_,_,e,_⟩:=x; exact ⟨_,e⟩
 | dT kvs=>obtain ⟨_,_,_,_,o,_,_,e,_⟩:=x; exact ⟨_,e⟩
 | set S n=>obtain ⟨o,_,_,_,e,_⟩:=x; exact ⟨_,e⟩
 | ins C dx fs=>obtain ⟨_,_,_,e,_⟩:=x; exact ⟨_,e⟩
 | own y=>obtain ⟨_,e⟩:=x; exact ⟨_,e⟩
 | xd fs=>obtain ⟨_,⟨_,_,_,e,_⟩,_⟩:=x; exact ⟨_,e⟩
 | rng lo hi=>obtain ⟨_,_,_,e⟩:=x; exact ⟨_,e⟩
 | frz ob u=>obtain ⟨e,_⟩:=x; exact ⟨_,e⟩
 | tbl ps=>exact ⟨_,(show h.get? a=some _ from x)⟩
 | met f y=>exact ⟨_,(show h.get? a=some _ from x)⟩
 | ext φ=>obtain ⟨_,e,_⟩:=x; exact e
structure Fly (P:Ql) (w:World) (outer:List Env) (H:Hp) (s:PQ) (a C:Qd) (H':Hp) (s':PQ):Prop where
 os:s'.os=s.os
 bare:AllBare s'.gens
 un:Un (frs outer) [] H H' s.heap s'.heap
 hok:HOk P w H' s'.heap
 nofr:∀ b∈frs outer,H' b=none
 fly:∃ (B:Heap) (t:Qd),Heap.FlyingW B outer a (.ref C) (.ref t) s'.heap/\∀ b o,s'.heap.get? b=some o->((∃ u,H' b=some u)\/∃ o₀,s.heap.get? b=some o₀)->b∉frs outer->B.get? b=some o
theorem Ao {P:Ql} {l:List Env} {h2 B:Heap} {a:Qd} {cls a0:PP} (un:Un (frs l) [] H H' h h1) (hok:HOk P w H' h1) (nofr:∀ b∈frs l,H' b=none)
  (ff:h1.FunFrames B l) (cov:∀ b o,h1.get? b=some o->((∃ u,H' b=some u)\/∃ o₀,h.get? b=some o₀)->b∉frs l->B.get? b=some o)
  (st:B.StaysIn h2) (up:h1.UpToSlots h2):Un (frs l) [] H H' h h2/\HOk P w H' h2:=by
 have fr:∀ b∈frs l,∀ o,h1.get? b=some o->∃ sl,h2.get? b=some { o with slots:=sl }:=λ b hb o e=>by
  obtain ⟨_,o',ho',hd⟩:=ff.mem hb;rw [e] at ho'; cases ho';exact up b o e hd
 refine ⟨⟨λ b o q n hb hx=>?_,λ b o q n hb hx=>?_,un.free,λ b o q hx=>?_,un.tups,un.frzs,un.tbls⟩,λ b u q=>?_⟩
 ·exact st _ _ (cov b o (un.keep b o q n hb hx) (.inr ⟨o,q⟩) hb)
 ·obtain ⟨sl,e1⟩:=un.slot b o q n hb hx;obtain ⟨sl',e2⟩:=fr b hb _ e1;exact ⟨sl',e2⟩
 ·obtain ⟨o',e1⟩:=un.there b o q hx;by_cases hb:b∈frs l
  ·obtain ⟨sl',e2⟩:=fr b hb _ e1;exact ⟨_,e2⟩
  ·exact ⟨o',st _ _ (cov b o' e1 (.inr ⟨o,q⟩) hb)⟩
 ·refine (hok b u q).stay (λ c v hc e=>?_) (λ _ z=>z) λ _ _ z=>z;have hc':∃ u,H' c=some u:=by
   rcases hc with rfl | hc
   ·exact ⟨_,q⟩
   ·exact ⟨_,hc⟩
  refine st _ _ (cov c v e (.inl hc') λ hm=>?_);obtain ⟨u',z⟩:=hc';rw [nofr c hm] at z; cases z
theorem Un.drop {fs:List Qd} {L:Qd} {H₀:Hp} {h₀ h':Heap} (a:Un fs [] H₀ H h₀ h) (b:Un (L::fs) [] H H' h h') (hL:h₀.objs.size<=L):Un fs [] H₀ H' h₀ h':=by
 have nL:∀ c o,h₀.get? c=some o->c≠L:=λ c o q z=>absurd (Qb q) (by rw [z]; exact Nat.not_lt.mpr hL);have nx:∀ c:Qd,c∉([]:List Qd):=λ c z=>absurd z (by simp);refine ⟨λ c o q n hc hx=>?_,λ c o q n hc hx=>?_,λ c o q n hx=>?_,λ c o q hx=>?_,λ c xs q=>b.tups c xs (a.tups c xs q),λ c o u q=>b.frzs c o u (a.frzs c o u q),λ c ps q=>?_⟩
 ·refine b.keep c o (a.keep c o q n hc hx) (a.free c o q n hx) (λ z=>?_) hx;rcases Qh.mp z with z | z
  ·exact nL c o q z
  ·exact hc z
 ·obtain ⟨sl,e1⟩:=a.slot c o q n hc hx;obtain ⟨sl',e2⟩:=b.slot c _ e1 (a.free c o q n hx) (P3 _ hc) hx;exact ⟨sl',e2⟩
 ·obtain ⟨o',e1⟩:=a.there c o q hx;exact b.free c o' e1 (a.free c o q n hx) hx
 ·obtain ⟨o',e1⟩:=a.there c o q hx;exact b.there c o' e1 hx
 ·obtain ⟨m1,e1⟩:=a.tbls c ps q;obtain ⟨m2,e2⟩:=b.tbls c _ e1;exact ⟨m1++m2,by rw [e2,Array.append_assoc]⟩
def CXX (P:Ql) (w:World):CXT:=λ outer H s E e s'=>∃ a C H',e=.ref a/\Fly P w outer H s a C H' s'/\E (.ref C) none H'
section
variable {P:Ql} {w:World} {K:PH} {mg:Str->Option PP} {base:Heap} {N:List Str} {qual:Str} {scope:Scope} {f:Qd} {cd:PP} {A:QI} {outer:List Env} {s₀:PQ} {H₀:Hp} {E:XK}
theorem Du {H':Hp} {s s':PQ} {a C:Qd} (I:Inv (so (CXX P w) P w K mg base N qual scope f cd A outer s₀ H₀ E) pz σ H s)
  (x:Fly P w (envOfC qual scope s₀.heap.objs.size f cd::outer) H s a C H' s') (q:E (.ref C) none H'):(so (CXX P w) P w K mg base N qual scope f cd A outer s₀ H₀ E).xe (.ref a) s':=by
 obtain ⟨B,t,fl,cov⟩:=x.fly;have hL:s₀.heap.objs.size<=(envOfC qual scope s₀.heap.objs.size f cd).locals:=I.ok.above;show Qs _ _ _ (λ _ s''=>CXX P w outer H₀ s₀ E (.ref a) s'') _ _;refine wpAny_leaves_onW I.ok.frames rfl fl λ h' x1 x2=>⟨a,C,H',rfl,?_,q⟩;obtain ⟨u2,k2⟩:=Ao (a:=a) (cls:=.ref C) (a0:=.ref t) x.un x.hok x.nofr fl.2.2.1 cov x1.1 x2;have u3:Un (frs outer) [] H₀ H' s₀.heap h':=Un.drop I.base u2 (PV _);refine ⟨x.os.trans I.os,x.bare,u3,k2,λ b hb=>x.nofr b (P3 _ hb),B,t,x1,λ b o e hc hb=>?_⟩;have nx:b∉([]:List Qd):=by simp
 have key:∀ o',s'.heap.get? b=some o'->((∃ u,H' b=some u)\/∃ o₀,s.heap.get? b=some o₀)->b∉frs (envOfC qual scope s₀.heap.objs.size f cd::outer)->B.get? b=some o:=λ o' e' hc' hm=>by
  have z:=cov b o' e' hc' hm;rw [x1.1 _ _ z] at e; cases e; exact z
 rcases hc with ⟨u,hu⟩ | ⟨o₀,e0⟩
 ·obtain ⟨o',e'⟩:=Eu (x.hok b u hu);refine key o' e' (.inl ⟨u,hu⟩) λ hm=>?_;rw [x.nofr b hm] at hu; cases hu
 ·obtain ⟨o1,e1⟩:=I.base.there b o₀ e0 nx;obtain ⟨o',e'⟩:=x.un.there b o1 e1 nx;refine key o' e' (.inr ⟨o1,e1⟩) λ hm=>?_;rcases Qh.mp hm with z | z
  ·have:=Qb e0
   rw [show b=s₀.heap.objs.size from z] at this;exact QY _ this
  ·exact hb z
theorem Ad {s:PQ} {e C:Qd} {h1:Heap} {vs:List PP} (I:Inv (so (CXX P w) P w K mg base N qual scope f cd A outer s₀ H₀ E) pz σ H s)
  (hx:Heap.MadeExcOf s.heap h1 e (.ref C) vs) (q:E (.ref C) none H):(so (CXX P w) P w K mg base N qual scope f cd A outer s₀ H₀ E).xe (.ref e) { s with heap:=h1 }:=by
 have ff:s.heap.FunFrames base (envOfC qual scope s₀.heap.objs.size f cd::outer):=I.stack;have free:∀ b∈frs (envOfC qual scope s₀.heap.objs.size f cd::outer),H b=none:=I.stkFree;have hin:∀ env∈(envOfC qual scope s₀.heap.objs.size f cd::outer),∀ b,env.frame=some b->b∈frs (envOfC qual scope s₀.heap.objs.size f cd::outer):=λ env he b hb=>List.mem_filterMap.mpr ⟨env,he,hb⟩;show Qs _ _ _ (λ _ s''=>CXX P w outer H₀ s₀ E (.ref e) s'') _ _;refine wpAny_leaves_madeW (base:=RM s.heap (frs (envOfC qual scope s₀.heap.objs.size f cd::outer))) (h:=s.heap) I.ok.frames rfl (λ b o z=>PySem.W.of_hideAll _ z) (PySem.W.funFrames_hide ff hin) hx λ h' t x1 x2 x3 x4=>⟨e,C,H,rfl,?_,q⟩;have cov:∀ b o,s.heap.get? b=some o->((∃ u,H b=some u)\/∃ o₀,s.heap.get? b=some o₀)->b∉frs (envOfC qual scope s₀.heap.objs.size f cd::outer)->(RM s.heap (frs (envOfC qual scope s₀.heap.objs.size f cd::outer))).get? b=some o :=
  λ b o z _ hm=>RV _ z hm
 have up:s.heap.UpToSlots h':=(Heap.UpToSlots.of_keeps hx.keeps).trans x4;obtain ⟨u2,k2⟩:=Ao (a:=e) (cls:=.ref C) (a0:=.ref t) (P:=P) (w:=w) (H:=H) (H':=H) (h:=s.heap) (h1:=s.heap) (l:=envOfC qual scope s₀.heap.objs.size f cd::outer) (Un.refl) I.hok free (PySem.W.funFrames_hide ff hin) cov x1.1 up;have u3:Un (frs outer) [] H₀ H s₀.heap h':=Un.drop I.base u2 (PV _);refine ⟨I.os,I.bare,u3,k2,λ b hb=>free b (P3 _ hb),_,t,x1,λ b o z hc hb=>?_⟩;have nx:b∉([]:List Qd):=by simp
 have key:∀ o',s.heap.get? b=some o'->b∉frs (envOfC qual scope s₀.heap.objs.size f cd::outer)->(RM s.heap (frs (envOfC qual scope s₀.heap.objs.size f cd::outer))).get? b=some o:=λ o' e' hm=>by
  have y:=RV (frs (envOfC qual scope s₀.heap.objs.size f cd::outer)) e' hm;rw [x1.1 _ _ y] at z; cases z; exact y
 rcases hc with ⟨u,hu⟩ | ⟨o₀,e0⟩
 ·obtain ⟨o',e'⟩:=Eu (I.hok b u hu);refine key o' e' λ hm=>?_;rw [free b hm] at hu; cases hu
 ·obtain ⟨o1,e1⟩:=I.base.there b o₀ e0 nx;refine key o1 e1 λ hm=>?_;rcases Qh.mp hm with z | z
  ·have:=Qb e0
   rw [show b=s₀.heap.objs.size from z] at this;exact QY _ this
  ·exact hb z
end
section
variable {X:Cx} {B:Bd} {W:Nat->Hp->Prop} {ca:Nat->Qd}
theorem PS.nox {X:Cx} {t:TS} (h:PS X.nox st t):PS X st t:=λ pz s σ H D I hw =>
 wpAny_mono (h pz s σ H D (I.wish _) hw) (λ _ _ q=>q.unwish) λ _ _ z=>False.elim z
theorem PSs.no {st:List Stmt}:PSs X st (λ _ _ _=>False):=λ _ _ _ _ _ _ h=>h.elim
def EW (ca:Nat->Qd) (W:Nat->Hp->Prop):XK:=λ v _ H'=>∃ c,v=.ref (ca c)/\W c H'
abbrev XOk (X:Cx) (ca:Nat->Qd) (W:Nat->Hp->Prop):Prop:=Passes (CXX X.prog X.w) X (EW ca W)
def XMd (X:Cx) (ca:Nat->Qd) (W:Nat->Hp->Prop):Prop:=∀ (pz:List (Qd×Obj)) (σ:St) (H:Hp) (s:PQ) (c:Nat) (vs:List PP) (h':Heap) (e:Qd),Inv X pz σ H s->Heap.MadeExcOf s.heap h' e (.ref (ca c)) vs->W c H->X.xe (.ref e) { s with heap:=h' }
def tX (K:PH) (B:Bd) (W:Nat->Hp->Prop) (g:En->Option Nat):St->Hp->Prop:=λ σ H=>∃ F η c,SR K B F H σ η/\g η=some c/\∀ F' H',Gr B.F B.H F' H'->W c H'
def EX (X:Cx) (B:Bd) (W:Nat->Hp->Prop) (e:Expr) (g:En->Option Nat):Prop:=PE X e (λ σ H _=>tX X.K B W g σ H)
def SX (X:Cx) (B:Bd) (W:Nat->Hp->Prop) (st:Stmt) (g:En->Option Nat):Prop:=PS X st (λ _ σ H=>tX X.K B W g σ H)
def SsX (X:Cx) (B:Bd) (W:Nat->Hp->Prop) (st:List Stmt) (g:En->Option Nat):Prop:=PSs X st (λ _ σ H=>tX X.K B W g σ H)
def spX (K:PH) (ca:Nat->Qd) (fx:List PD->Option Nat):Sp:=λ vs H _ E=>∃ F ds c,Same F H/\RelL K F ds vs/\fx ds=some c/\∀ F' H',Gr F H F' H'->E (.ref (ca c)) none H'
variable {st:Stmt} {sts sts':List Stmt} {e a b:Expr} {es:List Expr} {f:En->Option PD} {fs:En->Option (List PD)} {g g':En->Option Nat} {u:En->Option Out} {p:En->Option Bool} {pos pos':Pos}
def Gk (u:En->Option Out) (g:En->Option Nat):En->Option Nat:=λ η=>(u η).bind λ o=>match o with
 | .nx η'=>g η'
 | _=>none
theorem SsX.one (h:SX X B W st g):SsX X B W (st::sts) g:=PSs.imp (oi h PSs.no) λ _ _ _ q=>q
theorem SsX.cons (h:S X B st u) (k:SsX X B W sts g):SsX X B W (st::sts) (Gk u g):=PSs.imp (oi h k) λ D σ H ⟨F,η,c,sr,h,q⟩=>by
 obtain ⟨o,h1,h2⟩:=ac h;refine ⟨F,η,o,sr,h1,?_⟩;cases o with
 | nx η'=>exact λ σ' F' H' r _=>⟨F',η',c,r,h2,q⟩
 | rt d=>cases h2
 | bk η'=>cases h2
 | ct η'=>cases h2
theorem EX.call {ppos:Pos} {fx:List PD->Option Nat} (G:FnOk X.prog X.w X.K X.mg X.base (CXX X.prog X.w) k fa fd ps (spX X.K ca fx)) (hx:XOk X ca W) (hr:Room k' X.A) (hkk:k<=k') (hm:X.mg x=some (.ref fa))
  (hk:QQ X.K (.ref fa)=true) (hb:Binds X.K fd ps []) (ha:A X B (e::es) fs) (hg:Gl X x:=by rfl) (hdb:Nd x:=by decide) (he:PX (e::es) X.env=(false,eval e X.env)::PX es X.env:=by exact bS rfl) (hpl:(backTo pos (PX es X.env)).any (·.1)=false:=by exact iN rfl) :
  EX X B W (.Call (.Name x ppos) (e::es) [] pos) (λ η=>(fs η).bind fx):=PE.imp (BU G (hr.mono hkk) hg hm hk hb .nil hx ha hdb he hpl) λ σ H Q ⟨F,η,c,sr,h,q⟩=>by
 obtain ⟨ds,h1,h2⟩:=ac h;refine ⟨F,η,ds,sr,h1,λ vs F1 H1 g1 rl=>?_⟩;show spX X.K ca fx (vs++[]) H1 Q (EW ca W);rw [Qr];exact ⟨F1,ds,c,g1.fh,rl,h2,λ F' H' g2=>⟨c,rfl,q F' H' ((sr.gr.trans g1).trans g2)⟩⟩
end
section
variable {X:Cx} {B:Bd} {W:Nat->Hp->Prop} {ca:Nat->Qd} {e a b c:Expr} {f:En->Option PD} {p q r:En->Bool} {pos pos':Pos}
def tSS (K:PH) (B:Bd) (p:En->Bool):TE:=λ σ H Q=>∃ F η,SR K B F H σ η/\p η=true/\∀ y F' H',Gr F H F' H'->y.length<=2000->Q (.str y) H'
def OZ (K:PH) (B:Bd) (p:En->Bool):TE:=λ σ H Q=>∃ F η,SR K B F H σ η/\p η=true/\∀ v F' H',Gr F H F' H'->Q v H'
def ES (X:Cx) (B:Bd) (e:Expr) (p:En->Bool):Prop:=PE X e (tSS X.K B p)
def EA (X:Cx) (B:Bd) (e:Expr) (p:En->Bool):Prop:=PE X e (OZ X.K B p)
def Mp:En->Bool:=λ _=>true
def HV (f:En->Option PD):En->Bool:=λ η=>match f η with
 | some (.str x)=>decide (x.length<=50)&&x.cps.toList.all λ c=>decide (c < 16 ^ 8)
 | _=>false
theorem zq:2000<=P4:=by decide
theorem ES.lit {j} (h:decide (x.length<=1000)=true):ES X B (.Constant (.str x) j pos) Mp:=PE.imp Er λ σ H Q ⟨F,η,sr,_,q⟩=>q x F H (.refl sr.same) (by have:=of_decide_eq_true h; omega)
theorem ES.repr (h:E X B e f):ES X B (.FormattedValue e 114 none pos) (HV f):=by
 intro pz s σ H Q I ⟨F,η,sr,hp,q⟩;unfold HV at hp;split at hp
 ·rename_i x ex;rw [Qp] at hp;have hl0:=of_decide_eq_true hp.1;have hl:=PySem.StrLaws.reprText_len x λ c hc=>of_decide_eq_true (Ri.mp hp.2 c hc);refine wpAny_FormattedValue_repr (thn (h pz s σ H (λ v H1=>v=.str x/\∃ F1,Gr F H F1 H1) I ⟨F,η,.str x,sr,ex,λ v F1 H1 g1 rl=>⟨rl.str,F1,g1⟩⟩) λ u s1 ⟨v,H1,I1,rv,ev,F1,g1⟩=>?_);subst ev;obtain ⟨t,rfl⟩:=rv;refine wpAny_pyReprObj_gives (T := "str") (typeIs_str _ _ _) PyProof.Rows.slot_str_repr PyProof.Rows.entry_str_repr (PyProof.Rows.args_str_repr _) (gives_str_repr x t) ?_ rfl (by have:=zq; omega);exact PyProof.Rows.formatField_str (λ t' tk=>⟨.str _,H1,(I1.tok _).tok _,⟨t',rfl⟩,q _ F1 H1 g1 (by omega)⟩) (by have:=zq; omega)
 ·cases hp
theorem wW (x y:Str):(x++y).length=x.length+y.length:=strLen_append x y
theorem EA.js2 (ha:ES X B a p) (hb:ES X B b q):EA X B (.JoinedStr [a,b] pos) (λ η=>p η&&q η):=by
 intro pz s σ H Q I ⟨F,η,sr,hp,k⟩;rw [Qp] at hp;refine wpAny_JoinedStr (thn (ha pz s σ H (λ v H1=>∃ y F1,v=.str y/\y.length<=2000/\Gr F H F1 H1) I ⟨F,η,sr,hp.1,λ y F1 H1 g1 l=>⟨y,F1,rfl,l,g1⟩⟩) λ u s1 ⟨v,H1,I1,rv,y,F1,ev,l1,g1⟩=>?_);subst ev;obtain ⟨t,rfl⟩:=rv;have z:=zq;have z2:4000<=P4:=by decide
 refine ⟨y,t,rfl,by rw [wW]; show 0+_<=_; omega,thn (hb pz s1 σ H1 (λ v H2=>∃ y F2,v=.str y/\y.length<=2000/\Gr F1 H1 F2 H2) I1 ⟨F1,η,sr.grow g1,hp.2,λ y F2 H2 g2 l=>⟨y,F2,rfl,l,g2⟩⟩) λ u s2 ⟨v,H2,I2,rv,y2,F2,ev,l2,g2⟩=>?_⟩;subst ev;obtain ⟨t2,rfl⟩:=rv;have hl:(Str.empty++y++y2).length<=P4:=by rw [wW,wW]; show 0+_+_<=_; omega
 exact ⟨y2,t2,rfl,hl,hl,⟨.str _,H2,I2.tok _,⟨_,rfl⟩,k _ F2 H2 (g1.trans g2)⟩⟩
end
abbrev E7:List PP:=[.type "ValueError", .type "Exception", .type "BaseException", .type "object"]
theorem sQ {bmB:List PP} (X:K.In h) (q:Rb K C bmB newId=true) :
  ∃ bm N nm qn bs hdct sn sub ab col dd k0 k1 k2 k3 k5 mN,h.get? C=some (excClassObj nm qn C N bs bm hdct sn sub ab col dd k0 k1 k2 k3 k5 newId)/\h.Ns N mN/\mN "__init__" = none/\OwnTail h bmB bm:=by
 rw [Rb] at q;split at q
 case h_2=>cases q
 case h_1 dd cd sl ho =>
  split at q
  case h_2=>cases q
  case h_1 C' bm k0 k1 k2 k3 n k5 hm hs =>
   rw [Qp,Qp,Qp,Qp,Qp] at q;obtain ⟨⟨⟨⟨⟨q1,q2⟩,q3⟩,q4⟩,q5⟩,q6⟩:=q;obtain rfl:=beq_iff_eq.mp q1;obtain rfl:=beq_iff_eq.mp q2;have q6:=beq_iff_eq.mp q6;cases cd with
   | mk nm bs mro ns qn hd sn sub ab col del =>
    have hm:mro=_:=hm;subst hm;have q3:del=false:=by cases del with | false=>rfl | true=>cases q3
    subst q3;have e:sl=#[k0,k1,k2,k3,some (.builtin n),k5]:=by rw [<- Array.toList_inj]; exact hs
    subst e;refine ⟨bm,ns,nm,qn,bs,hd,sn,sub,ab,col,dd,k0,k1,k2,k3,k5,_,X _ _ ho,.of_isNs (PySem.W.isNs_of_in X q5),PySem.W.nsMap_none_of_in X q5 q6,PySem.W.tail_of_in X q4⟩
section
variable {X:Cx} {B:Bd} {W:Nat->Hp->Prop} {ca:Nat->Qd} {e:Expr} {p:En->Bool} {pos np cpos:Pos} {x:Str} {k:Nat}
theorem SX.raise (c:Nat) (hx:XMd X ca W) (hc:X.calm=true) (hm:X.mg x=some (.ref (ca c))) (hex:Rb X.K (ca c) E7 "ValueError.__new__" = true) (ha:EA X B e p) (hg:Gl X x:=by rfl)
  (hs:PX [e] X.env=[(false,eval e X.env)]:=by exact bS rfl) (hdb:Nd x:=by decide) :
  SX X B W (.Raise (some (.Call (.Name x np) [e] [] cpos)) none pos) (λ η=>if p η=true then some c else none):=by
 intro pz s σ H D I ⟨F,η,c',sr,h,q⟩;dsimp only at h;split at h
 case isFalse=>cases h
 case isTrue hp =>
 obtain rfl:c=c':=Option.some.inj h;obtain ⟨bm,N,nm,qn,bs,hdct,sn,sub,ab,col,dd,k0,k1,k2,k3,k5,mN,hC,hN,hni,T⟩:=sQ I.kIn hex;refine wpAny_Raise_call_subT (C:=ca c) (nm:=nm) (q:=qn) (N:=N) (bs:=bs) (bm:=bm) (hdct:=hdct) (sn:=sn) (sub:=sub) (ab:=ab) (col:=col) (dd:=dd) (k0:=k0) (k1:=k1) (k2:=k2) (k3:=k3) (k5:=k5) (newId := "ValueError.__new__") (mN:=mN)
  PySem.F.excBase_ValueError (T.hasType PySem.F.excBase_ValueError.hasBase) (I.ok.hd hc) (by rw [hs]; rfl) hni (qy I hg hm ⟨rfl,?_⟩ hdb)
 have hp1:=iF ha pJ hs cpos pz s σ H (λ vs H1=>vs.length=1/\∃ F1,Gr F H F1 H1) I ⟨F,η,sr,hp,λ v F1 H1 g1=>⟨rfl,F1,g1⟩⟩;rw [hs] at hp1 ⊢;refine Calls.evalArgs_plain (thn hp1 λ us s2 ⟨vs,H1,I1,rv,l1,F1,g1⟩=>?_);obtain ⟨bm2,N2,nm2,qn2,bs2,hdct2,sn2,sub2,ab2,col2,dd2,j0,j1,j2,j3,j5,mN2,hC2,hN2,hni2,T2⟩:=sQ I1.kIn hex;have keep:s2.heap.get? (ca c)=some (excClassObj nm qn (ca c) N bs bm hdct sn sub ab col dd k0 k1 k2 k3 k5 "ValueError.__new__")/\s2.heap.Ns N mN/\OwnTail s2.heap E7 bm:=by
  have kin:=I.mod.kin;obtain ⟨bm3,N3,nm3,qn3,bs3,hdct3,sn3,sub3,ab3,col3,dd3,i0,i1,i2,i3,i5,mN3,hC3,hN3,hni3,T3⟩:=sQ kin hex;have e1:=I.bk _ _ hC3;rw [hC] at e1;have e2:=I1.bk _ _ hC3;have hNN:N=N3/\bm=bm3:=by
   have e3:=Option.some.inj e1;unfold excClassObj at e3;injection e3 with _ _ e4 _
   injection e4 with e4
   injection e4 with _ _ e5 e6 _ _ _ _ _ _ _
   exact ⟨e6,(List.cons.inj e5).2⟩
  obtain ⟨rfl,rfl⟩:=hNN;rw [<- Option.some.inj e1] at e2;have n1:=hN3.keeps I.bk;have em:mN=mN3:=by
   obtain ⟨o1,es1,ep1,a1,a2,a3,a4⟩:=hN;obtain ⟨o2,es2,ep2,b1,b2,b3,b4⟩:=n1;rw [a1] at b1;cases b1;rw [a2] at b2;cases b2
   funext y
   rw [<- a4 y,<- b4 y]
  subst em;exact ⟨e2,hN3.keeps I1.bk,T3.keeps I1.bk⟩
 exact ⟨rfl,by show us.length<=_; rw [<- rv.length,l1]; decide,keep.1,keep.2.1,keep.2.2,λ h' ex hx'=>hx pz σ H1 s2 c us h' ex I1 hx' (q F1 H1 (sr.gr.trans g1))⟩
end
def C4 (n m:Nat) (g:En->Option Nat) (ds:List PD):Option Nat:=if ds.length=n then g (ds.map Sl.val++Qf (m - n) .un) else none
section
variable {P:Ql} {w:World} {K:PH} {mg:Str->Option PP} {base:Heap} {ca:Nat->Qd}
theorem fnX {f:Qd} {k:Nat} {g:En->Option Nat} (Fn:Fun K x qual st f fd) (Sc:aI N ps (ah st))
  (hb:∀ (cdv:PP) (A:QI) (outer:List Env) (s:PQ) (H:Hp) (E:XK) (F:Hp) (W:Nat->Hp->Prop),Room k (A.deeper (envOfC qual (ah st) s.heap.objs.size f cdv)) ->
   XOk (so (CXX P w) P w K mg base N qual (ah st) f cdv A outer s H E) ca W->XMd (so (CXX P w) P w K mg base N qual (ah st) f cdv A outer s H E) ca W ->
   SsX (so (CXX P w) P w K mg base N qual (ah st) f cdv A outer s H E) ⟨F,H⟩ W (nZ st) g) :
  FnOk P w K mg base (CXX P w) (k+1) f fd ps (spX K ca (C4 ps.length N.length g)):=by
 have len:∀ {F:Hp} {ds:List PD} {vs:List V} {c:Nat},RelL K F ds vs->C4 ps.length N.length g ds=some c->ds.length=ps.length/\vs.length=ps.length:=λ {F ds vs d} r e=>by
  unfold C4 at e;split at e
  ·rename_i hl;exact ⟨hl,by rw [r.length]; exact hl⟩
  ·cases e
 obtain ⟨oc,od,kV,doc,pm,an,cdv,ct,osl,rfl,lk,hcd⟩:=Fn.ex;refine IH lk hcd Sc (λ vs H Q E h=>?_) λ A outer s H vs Q E hr h=>?_
 ·obtain ⟨F,ds,c,_,r,e,_⟩:=h;exact (len r e).2
 ·obtain ⟨F,ds,c,sm,r,e,q⟩:=h;obtain ⟨l1,l2⟩:=len r e;refine ⟨_,hb cdv A outer s H E F (λ c H'=>E (.ref (ca c)) none H') hr (λ pz σ H1 s1 ev s2 I x=>?_) (λ pz σ H1 s1 c vs h' ev I x y=>Ad I x y),?_⟩
  ·obtain ⟨a,C,H',rfl,fl,c',ec,y⟩:=x;cases ec;exact Du I fl y
  ·unfold C4 at e;rw [if_pos l1] at e;refine ⟨F,_,c,⟨.refl sm,?_⟩,e,λ F' H' g1=>q F' H' g1⟩;have z:=EnR.start (K:=K) (H:=H) (N:=N) r;rw [l1] at z;exact z
end
structure XCls (K:PH) (D:Qd):Prop where
 ex:Rb K D E7 "ValueError.__new__" = true
 ga:QL K (.ref D) "__getattribute__" = some (some (.builtin "BaseException.__getattribute__"))
 gt:QL K (.ref D) "__getattr__" = some none
 cl:QL K (.ref D) "__class__" = some (some (.builtin "object.__class__"))
 gg:PySem.W.specialIn K (.builtin "object.__class__") "__get__" = some (some (.builtin "getset_descriptor.__get__"))
 tk:PySem.W.takesIn K (.builtin "object.__class__")=some true
 mb:Q2 K D (.type "BaseException")=some true
 mo:Q2 K D (.type "object")=some true
section
variable {P:Ql} {w:World} {A:QI} {Z:PP->PQ->Prop} {s:PQ} {K:PH} {x D:Qd}
def IsX (h:Heap) (x D:Qd):Prop:=∃ ox,h.get? x=some ox/\ox.cls=.ref D
theorem IsX.type {M:Model} (I:IsX h x D):PySem.W.Looks M h (typeOf (.ref x)) (.ref D):=by
 obtain ⟨ox,h1,h2⟩:=I;exact h2 ▸ (PySem.W.Looks.ld h1).andThen .now
theorem xfind {M:Model} (c:XCls K D) (X:K.In h):PySem.W.Looks M h (Builtin.ObjectAttr.find (.ref x) (.ref D) "__class__") (.bind (.builtin "getset_descriptor.__get__") (.builtin "object.__class__")):=by
 refine (Rm X c.cl).andThen ((show PySem.W.Looks M h (Builtin.ObjectAttr.getOf (some (.builtin "object.__class__"))) _ from PySem.W.looks_specialIn X c.gg).andThen ?_);exact (show PySem.W.Looks M h (Builtin.ObjectAttr.dataDescriptor? (some (.builtin "object.__class__")) (some (.builtin "getset_descriptor.__get__"))) (some (.builtin "getset_descriptor.__get__", .builtin "object.__class__")) from (PySem.W.looks_takesIn X c.tk).andThen .now).andThen (PySem.W.Looks.tag .now)
theorem xget {tp:PP} {R:Result->PQ->Prop} (c:XCls K D) (X:K.In s.heap) (I:IsX s.heap x D) (h:R (.ok (.ret (.ref D))) s):codeAny (Qq P w) A (.call (.builtin "getset_descriptor.__get__") ⟨[.builtin "object.__class__", .ref x,tp],[]⟩) R s:=by
 obtain ⟨hh,g,dr,t,os⟩:=s;have L0:=I.type (M:=Qq P w);have L1:=PySem.W.looks_mroIn (M:=Qq P w) X c.mo;refine codeAny_call_builtin PySem.W.KF.slot_gs.plain PySem.W.KF.entry_gs (PySem.W.KF.slot_gs.check _ _ _ _ _ _ _ _ PySem.W.KF.type_class (PySem.W.KF.args_gs _ _ _) ?_);unfold Builtin.«getset_descriptor.__get__» Builtin.Getset_descriptor.descrGet;rw [PySem.W.dga_obj]; refine P1 (Qe ?_);unfold Builtin.Getset_descriptor.descrGetter Builtin.Getset_descriptor.descrCheckInstance Builtin.Getset_descriptor.descrNameAndClass isInstance;simp only [PySem.W.KF.owner_class]; repeat lk
 refine ⟨Code.quiet_builtin _ (by decide +kernel),codeAny_builtin PySem.W.KF.entry_class ?_⟩;unfold Builtin.«object.__class__» shownTypeOf; repeat lk
 exact h
theorem xentry {tk:Tok} {Q:Fin->PQ->Prop} (c:XCls K D) (X:K.In s.heap) (I:IsX s.heap x D) (h:Q (.done (.ret (.ref D))) s) :
  Qs (Qq P w) A (Builtin.«object.__getattribute__» ⟨[.ref x,.str "__class__" tk],[]⟩) Q Z s:=by
 obtain ⟨hh,g,d,t,os⟩:=s;have L0:=I.type (M:=Qq P w);have L1:=xfind (x:=x) (M:=Qq P w) c X;refine P1 (Qe (P1 (Qe (P1 (L0.at (P1 (L1.at ?_)))))));show Qs _ _ (holding [Value.builtin "object.__class__"] (call (.builtin "getset_descriptor.__get__") [.builtin "object.__class__", .ref x,.ref D]) >>= ret) _ _ _;exact P1 (wpAny_holding (wpAny_call (xget c X I (Qe h))))
theorem xcall {tk:Tok} {R:Result->PQ->Prop} (c:XCls K D) (X:K.In s.heap) (I:IsX s.heap x D) (h:R (.ok (.ret (.ref D))) s) :
  codeAny (Qq P w) A (.call (.builtin "BaseException.__getattribute__") ⟨[.ref x,.str "__class__" tk],[]⟩) R s:=by
 refine codeAny_call_builtin PySem.F.attr_ValueError.ga.plain PySem.F.entry_bexc_ga ?_;have L0:=I.type (M:=Qq P w);have L1:=PySem.W.looks_mroIn (M:=Qq P w) X c.mb;have hk:builtinKind "BaseException.__getattribute__" = some .slot:=by decide +kernel
 have hs:splitId "BaseException.__getattribute__" = some ("BaseException", "__getattribute__"):=by decide +kernel
 have ha:=PySem.F.args_bexc_ga (.ref x) (.str "__class__" tk);simp only [checkBuiltinCall,hk,hs];refine P1 ?_;have LI:PySem.W.Looks (Qq P w) s.heap (isInstance (.ref x) (.type "BaseException")) true:=L0.andThen L1;refine LI.at ?_;rw [if_neg (by decide)];unfold argsOk at ha
 revert ha
 generalize Manifest.signature? "BaseException.__getattribute__" = sg;intro ha;cases sg with
 | none=>exact Qe (xentry c X I h)
 | some sig =>
  have ha:Bind.checkArgs "BaseException.__getattribute__" sig ⟨[.ref x,.str "__class__" tk],[]⟩=pure ():=ha;dsimp only;rw [ha];exact Qe (xentry c X I h)
theorem xclass {Q:Option PP->PQ->Prop} (c:XCls K D) (X:K.In s.heap) (I:IsX s.heap x D) (h:Q (some (.ref D)) { s with toks:=s.toks+1 }):Qs (Qq P w) A (getAttr? (.ref x) "__class__") Q Z s:=by
 obtain ⟨hh,g,d,t,os⟩:=s;have L0:=I.type (M:=Qq P w);have L1:=Rm (M:=Qq P w) X c.ga;have L2:=Rm (M:=Qq P w) X c.gt;have hb:=PySem.F.attr_ValueError.ga.bind (.ref x);unfold getAttr? getAttrBy? getAttrBy;refine P1 (wpAny_mkText (P1 (wpAny_attempt (wpAny_holding (P1 (L0.at (P1 (L1.at ?_))))))));show Qs _ _ (getAttrByItsOwn _ _ _ _ _ _) _ _ _;unfold getAttrByItsOwn hookBefore callGetattribute boundAndCalled;refine P1 (L2.at ?_);refine P1 (wpAny_attempt (wpAny_holding ?_));rw [if_neg (by decide),hb];refine P1 (Qe (wpAny_call (xcall c (s:=⟨hh,g,d,t+1,os⟩) X I ?_)));exact PySem.W.handed_on rfl (Qe h)
end
def AM (x D:Qd):HO:=.ext λ h=>IsX h x D
theorem GR {x D:Qd} {h2:Heap} (p:IsX h1 x D) (k:∀ o,h1.get? x=some o->h2.get? x=some o):IsX h2 x D:=by
 obtain ⟨ox,i1,i2⟩:=p;exact ⟨ox,k _ i1,i2⟩
theorem MY {P:Ql} {x D:Qd} (e:H x=some (AM x D)) (ok:HOk P w H h):IsX h x D:=by
 have z:=ok x _ e;unfold AM at z;exact z.1
theorem Ix {x D:Qd} (c:XCls K D):PySem.W.KitX K (.ref x) (.ref D) (λ h=>IsX h x D) where
 ty:=λ _ _ _ I=>I.type
 it:=λ M h X _=>by
  obtain ⟨bm,N,nm,qn,bs,hdct,sn,sub,ab,col,dd,k0,k1,k2,k3,k5,mN,hC,_⟩:=sQ X c.ex;intro A' Q' E' s' k q;unfold isType loadHead;exact P1 (wpAny_loadPart (k _ _ hC) (Qe q))
 ne:=λ h tp dd its n sl X e=>by
  obtain ⟨bm,N,nm,qn,bs,hdct,sn,sub,ab,col,dd',k0,k1,k2,k3,k5,mN,hC,_⟩:=sQ X c.ex;refine Bool.eq_false_iff.mpr λ q=>?_;have q':D=tp:=by injection beq_iff_eq.mp q
  subst q';rw [hC] at e;have e2:=Option.some.inj e;unfold excClassObj at e2;injection e2 with _ _ e3 _
  cases e3
 ca:=λ X I k=>xclass c X I k
section
variable {X:Cx} {pos pp ep tp:Pos} {en T:Str}
def O6 (K:PH):List V->Hp->VK->Prop:=λ vs H Q=>∃ x D c u b,vs=[.ref x,c]/\RelV c u/\H x=some (AM x D)/\XCls K D/\QW K (.ref D) u=some b/\Q (.bl b) H
theorem DX:CallR X (.builtin "isinstance") (O6 X.K):=by
 intro pz s σ H xs us Q I r h;obtain ⟨x,D,c,u,b,rfl,ru,hx,cl,hk,q⟩:=h;obtain ⟨u1,u2,rfl,r1,r2⟩:=Fl r;cases r1;have e:u2=u:=by
  cases c with
  | non=>exact (show u2=_ from r2).trans (show u=_ from ru).symm
  | bl b=>exact (show u2=_ from r2).trans (show u=_ from ru).symm
  | ref a=>exact (show u2=_ from r2).trans (show u=_ from ru).symm
  | ty n=>exact (show u2=_ from r2).trans (show u=_ from ru).symm
  | int i=>obtain ⟨t,rfl⟩:=ru; unfold QW RU at hk; split at hk <;> rename_i z <;> first | (cases hk; done) | (cases beq_iff_eq.mp z)
  | str i=>obtain ⟨t,rfl⟩:=ru; unfold QW RU at hk; split at hk <;> rename_i z <;> first | (cases hk; done) | (cases beq_iff_eq.mp z)
  | byt i=>obtain ⟨t,rfl⟩:=ru; unfold QW RU at hk; split at hk <;> rename_i z <;> first | (cases hk; done) | (cases beq_iff_eq.mp z)
  | flt i=>obtain ⟨t,rfl⟩:=ru; unfold QW RU at hk; split at hk <;> rename_i z <;> first | (cases hk; done) | (cases beq_iff_eq.mp z)
 subst e;exact PySem.W.kia_one (Ix cl) I.kIn (MY hx I.hok) hk (λ z=>nomatch z) λ tk=>⟨.bl b,H,I.tok tk,rfl,q⟩
def Eg (K:PH) (u:PP):TE:=λ σ H Q=>∃ x D b,σ[0]?=some (some (.ref x))/\H x=some (AM x D)/\XCls K D/\QW K (.ref D) u=some b/\Q (.bl b) H
theorem BT (hm:X.mg "isinstance" = none) (hT:X.mg T=some (.ref C)) (hN:X.N[0]?=some en:=by rfl) (hv:Vis X.env.scope en:=by first | exact Or.inl rfl | exact Or.inr (Or.inl rfl)) (hd:(en==("__debug__" : Str))=false:=by decide)
  (hcd:(en==("__classdict__" : Str))=false:=by decide) (hg:Gl X "isinstance" := by rfl) (hgT:Gl X T:=by rfl) (hdT:(T==("__debug__" : Str))=false:=by decide) :
  PE X (.Call (.Name "isinstance" pp) [.Name en ep,.Name T tp] [] pos) (Eg X.K (.ref C)) :=
 PE.imp (wA DX hg hm (by decide +kernel) (iF (qT hN hv hd hcd) (iF (FE hgT hT (v:=.ref C) rfl hdT) pJ))) λ σ H Q ⟨x,D,b,h1,h2,h3,h4,q⟩=>⟨_,h1,x,D,.ref C,.ref C,b,rfl,rfl,h2,h3,h4,q⟩
theorem Mn {B:String} (hm:X.mg "isinstance" = none) (hT:X.mg T=none) (hB:bootBuiltins T=some (.type B)) (hN:X.N[0]?=some en:=by rfl) (hv:Vis X.env.scope en:=by first | exact Or.inl rfl | exact Or.inr (Or.inl rfl)) (hd:(en==("__debug__" : Str))=false:=by decide)
  (hcd:(en==("__classdict__" : Str))=false:=by decide) (hg:Gl X "isinstance" := by rfl) (hgT:Gl X T:=by rfl) (hnT:T ≠ "__name__" := by decide) (hdT:(T==("__debug__" : Str))=false:=by decide) :
  PE X (.Call (.Name "isinstance" pp) [.Name en ep,.Name T tp] [] pos) (Eg X.K (.type B)) :=
 PE.imp (wA DX hg hm (by decide +kernel) (iF (qT hN hv hd hcd) (iF (J6 hgT hT hB (v:=.ty B) rfl hnT hdT) pJ))) λ σ H Q ⟨x,D,b,h1,h2,h3,h4,q⟩=>⟨_,h1,x,D,.ty B,.type B,b,rfl,rfl,h2,h3,h4,q⟩
def N4 (K:PH):V->List V->Hp->VK->Prop:=λ x vs H Q=>∃ l xs y,x=.ref l/\vs=[y]/\SqL K H l xs/\p9 y=true/\xs.all p9=true/\Q (.int ((xs.countP λ z=>eqV z y):Nat)) H
theorem Mx:MtM X "list.count" (N4 X.K):=by
 intro pz s σ H x vs v us Q I rx rv h;obtain ⟨l,xs,y,rfl,rfl,hq,fy,fxs,q⟩:=h;cases rx;obtain ⟨u,rfl,ru⟩:=rv.one;obtain ⟨its,r,⟨⟨c2,d2,t2,sl2⟩,n2,e2,ec2,ed2,es2⟩,z2⟩:=I.list hq;simp only at ec2 ed2 es2;subst ec2 ed2 es2;have hc:∀ {xs:List V} {its:List PP},Vals xs its->xs.all p9=true->its.countP (eqU y)=xs.countP λ z=>eqV z y:=λ {xs its} r=>by
  induction r with
  | nil=>exact λ _=>rfl
  | cons r1 _ ih =>
   intro f;rw [Q9,Qp] at f;rw [List.countP_cons,List.countP_cons,ih f.2,Ck r1 f.1]
 refine call_meets F.slot_list_count ⟨_,e2,rfl⟩ F.entry_list_count (F.args_list_count_2 _ _) (SeqAt.list_countAt l its.toArray n2 none sl2 u (eqU y)) ⟨e2,λ w hw=>pL ru fy r fxs w (by simpa using hw),?_⟩;show EP X pz σ Q (.int ((its.countP (eqU y):Nat):Int) s.toks) _;rw [hc r fxs];exact ⟨.int ((xs.countP λ z=>eqV z y):Nat),H,I.tok _,⟨_,rfl⟩,q⟩
end
structure RoomC (k:Nat) (A:QI):Prop where
 dp:A.depth+3*k+5 < recursionLimit
 un:A.units+16*k+200 < cLine
theorem RoomC.of {A:QI} (r:Room k A):RoomC k A:=⟨r.dp,r.un⟩
theorem RoomC.mono {j:Nat} {A:QI} (r:RoomC k A) (h:j<=k):RoomC j A:=⟨by have:=r.dp; omega,by have:=r.un; omega⟩
theorem RoomC.mark {A:QI} (r:RoomC k A) (e:Option PP):RoomC k (A.mark e):=⟨r.dp,r.un⟩
abbrev Cx.at (X:Cx) (A:QI):Cx:={ X with A:=A,calm:=false,xe:=λ _ _=>False }
theorem Inv.around {s:PQ} {A:QI} (I:Inv X pz σ H s) (hf:A.frames=X.A.frames):Inv (Cx.at X A) pz σ H s :=
 ⟨⟨I.ok.mod,I.ok.kind,I.ok.glob,I.ok.blt,I.ok.above,I.ok.inj,I.ok.has,I.ok.cab,(λ z=>by cases z),hf.trans I.ok.frames,I.ok.stk,I.ok.exf,I.ok.bs,I.ok.bsz,I.ok.noex,I.ok.exfs,I.ok.funs,I.ok.frf⟩,I.os,I.bare,I.base,I.loc,I.cell,I.free,I.freeC,I.pin,I.hok,I.len⟩
theorem Inv.back {s:PQ} {A:QI} (I:Inv (Cx.at X A) pz σ H s) (ok:X.Ok):Inv X pz σ H s :=
 ⟨ok,I.os,I.bare,I.base,I.loc,I.cell,I.free,I.freeC,I.pin,I.hok,I.len⟩
abbrev SpC:=List V->Hp->VK->Prop
structure FnC (P:Ql) (w:World) (K:PH) (mg:Str->Option PP) (base:Heap) (k:Nat) (f:Qd) (fd:QX) (ps:List Str) (sp:SpC):Prop where
 len:∀ vs H Q,sp vs H Q->vs.length=ps.length
 run:∀ (A:QI) (outer:List Env) (s:PQ) (H:Hp) (us:List PP) (vs:List V) (Q:VK),RoomC k A->Env0 P w K mg base A outer s H->BindsTo s fd ⟨us,[]⟩ (ps.zip us)->Vals vs us->sp vs H Q ->
  codeAny (Qq P w) A (.call (.ref f) ⟨us,[]⟩) (CR CX0 outer P w H s Q E0) s
section
variable {P:Ql} {w:World} {K:PH} {mg:Str->Option PP} {base:Heap}
theorem fnC {f:Qd} {k:Nat} {sp:SpC} (Fn:Fun K x qual st f fd) (Sc:aI N ps (ah st)) (len:∀ vs H Q,sp vs H Q->vs.length=ps.length)
  (hbody:∀ (cdv:PP) (A:QI) (outer:List Env) (s:PQ) (H:Hp) (vs:List V) (Q:VK),sp vs H Q ->
   ∃ t,PSs (Cx.at (so CX0 P w K mg base N qual (ah st) f cdv A outer s H E0) (A.deeper (envOfC qual (ah st) s.heap.objs.size f cdv))) (nZ st) t/\t { nx:=λ _ H'=>Q .non H',rt:=Q } (L2.start N vs) H) :
  FnC P w K mg base (k+1) f fd ps sp:=by
 obtain ⟨oc,od,kV,doc,pm,an,cdv,ct,osl,rfl,lk,hcd⟩:=Fn.ex;refine ⟨len,λ A outer s H us vs Q hr e0 hb r hsp=>?_⟩;have hl:=len _ _ _ hsp;have KX:K.In s.heap:=e0.mod.kin.keeps λ b o e=>(e0.bs b o e).1;have lim:s.heap.NoLimit:=e0.mod.nolimit.keeps λ b o e=>(e0.bs b o e).1;have hkd:∀ y∈ps.zip us,(ah st).names.lookup y.1=some .local\/((ah st).names.lookup y.1=some .cell/\((cellsFrom (s.heap.objs.size+1) (ah st).names []).lookup y.1).isSome=true):=λ ⟨n,v⟩ hy =>
  (Sc.par n (RS hy).1).elim .inl λ q=>.inr ⟨q,RJ _ _ _ (.inl q)⟩
 refine codeAny_call_function (by have:=hr.dp; omega) (KX _ _ lk) rfl Sc.co Sc.gen rfl (PySem.W.codeRec_of KX hcd) (hb _ _ _ _ ?_);refine wpAny_newFunctionEnv_cells Sc.kind hkd λ env he s1 x=>?_;subst he;refine ⟨lim.keeps x.toInCall.keep,codeAny_func ?_⟩;obtain ⟨t,ht,hq⟩:=hbody cdv A outer s H vs Q hsp;have I0:Inv (so CX0 P w K mg base N qual (ah st) f cdv { A with handled:=none } outer s H E0) [] (L2.start N vs) H s1 :=
  Bs Sc rfl ⟨e0.frames,e0.mod,e0.bs,e0.bsz,e0.funs,e0.frf,e0.hok,e0.bare⟩ hl r x
 have I:=Inv.around (A:=A.deeper (envOfC qual (ah st) s.heap.objs.size f cdv)) I0 rfl;refine wpAny_mono (ht [] s1 (L2.start N vs) H _ I hq) (λ fl s' hs=>?_) λ e s' hs=>hs.elim;cases fl with
 | ret u =>
  obtain ⟨v,σ',H',J,rv,q⟩:=hs;exact ⟨v,H',J.os,J.bare,J.base,J.hok,rv,q⟩
 | next =>
  obtain ⟨σ',H',J,q⟩:=hs;exact ⟨.non,H',J.os,J.bare,J.base,J.hok,rfl,q⟩
 | brk=>obtain ⟨_,_,_,q⟩:=hs; exact q.elim
 | cont=>obtain ⟨_,_,_,q⟩:=hs; exact q.elim
end
section
variable {X:Cx} {k:Nat} {f:Qd} {fd:QX} {ps:List Str} {sp:SpC} {x:Str} {p pos:Pos} {e:Expr} {te:TE}
theorem HQ (F:FnC X.prog X.w X.K X.mg X.base k f fd ps sp) (hr:RoomC k X.A) (hm:X.mg x=some (.ref f)) (hk:QQ X.K (.ref f)=true) (hb:Binds X.K fd ps []) (he:PE X e te) (hg:Gl X x:=by rfl)
  (hdb:Nd x:=by decide) (hs:PX [e] X.env=(false,eval e X.env)::PX [] X.env:=by exact bS rfl) (hpl:(backTo pos (PX [] X.env)).any (·.1)=false:=by rfl) :
  PE X (.Call (.Name x p) [e] [] pos) (λ σ H Q=>te σ H λ v H1=>sp [v] H1 Q):=by
 intro pz s σ H Q I h;refine wpAny_Call_Name_kw (qy I hg hm ?_ hdb);refine Rv (h₀:=X.base) I.ok.mod.kin hk (thn (iF he pJ hs pos pz s σ H (λ vs H1=>sp vs H1 Q) I h) λ us s1 ⟨vs,H1,I1,r,q⟩=>⟨I1.kIn,?_⟩) hs hpl;have hl:(us++[]).length=ps.length:=by rw [Qr,<- r.length]; exact F.len _ _ _ q
 have hb':=hb s1 us I1.kIn hl;rw [Qr] at hb';refine wpAny_call (codeAny_mono (F.run X.A X.stack s1 H1 us vs Q hr I1.env0 hb' r q) λ r s' hq=>?_);cases r with
 | error e=>exact hq.elim
 | ok fl =>
  cases fl with
  | ret u=>exact I1.after hq
  | next=>exact hq.elim
  | brk=>exact hq.elim
  | cont=>exact hq.elim
end
structure Refs (K:PH) (ca:Nat->Qd):Prop where
 xc:∀ c,c < 4->XCls K (ca c)
 kit:∀ c i,c < 4->i < 4->QW K (.ref (ca c)) (.ref (ca i))=some (decide (c=i))
 val:∀ c,c < 4->QW K (.ref (ca c)) (.type "ValueError")=some true
def C6 (c:Nat):PD:=.tuple [.str "refused", .int c]
def spE (K:PH) (ca:Nat->Qd):SpC:=λ vs H Q=>∃ x c F,vs=[.ref x]/\c < 4/\H x=some (AM x (ca c))/\Same F H/\∀ v F' H',Gr F H F' H'->Rel K F' (C6 c) v->Q v H'
section
variable {K:PH} {ca:Nat->Qd}
theorem Gx (c:Nat) (hc:c < 4):([V.bl (decide (c=0)),.bl (decide (c=1)),.bl (decide (c=2)),.bl (decide (c=3))].countP λ z=>eqV z (.bl true))=1 /\
  ([V.bl (decide (c=0)),.bl (decide (c=1)),.bl (decide (c=2)),.bl (decide (c=3))].findIdx? λ z=>eqV z (.bl true))=some c:=by
 have:c=0\/c=1\/c=2\/c=3:=by omega
 rcases this with rfl | rfl | rfl | rfl <;> exact ⟨by decide +kernel,by decide +kernel⟩
theorem Ht (R:Refs K ca) {tx:TS} {x:Qd} {c:Nat} (hc:c < 4) (hx:H x=some (AM x (ca c))) (sm:Same F H) (q:∀ v F' H',Gr F H F' H'->Rel K F' (C6 c) v->Q v H') :
  JD (Gp (L5 (wq (Eg K (.ref (ca 0))) (wq (Eg K (.ref (ca 1))) (wq (Eg K (.ref (ca 2))) CQ)))) (xj 1))
   (JD (Gp (tOp (Fy K) (Hh 1) (L5 (wq (Eg K (.ref (ca 3))) CQ))) (xj 1))
    (JD (NI (tOr (Hi (tOp rNe (tBM K "list" (N4 K) (Hh 1) (wq (tC (.bl true)) CQ)) (tC (.int 1)))) (NH (tB (Eg K (.type "ValueError"))))) tx Lf)
     (NE (ND (wq (tC (.str "refused")) (wq (tBM K "list" (N0 K) (Hh 1) (wq (tC (.bl true)) CQ)) CQ))))))
   { nx:=λ _ H'=>Q .non H',rt:=Q } [some (.ref x),none] H:=by
 have k:=λ i hi=>R.kit c i hc hi;have xc:=R.xc c hc;refine ⟨x,ca c,_,rfl,hx,xc,k 0 (by omega),x,ca c,_,rfl,hx,xc,k 1 (by omega),x,ca c,_,rfl,hx,xc,k 2 (by omega),(show 3<=P4 by decide),λ l1 h1=>?_⟩;have n1:l1≠x:=λ z=>by rw [z,hx] at h1; cases h1
 have hx1:upd H l1 (.lst [.bl (decide (c=0)),.bl (decide (c=1)),.bl (decide (c=2))]) x=some (AM x (ca c)):=by rw [aD (Ne.symm n1)]; exact hx
 refine ⟨.ref l1,rfl,x,ca c,_,rfl,hx1,xc,k 3 (by omega),(show 1<=P4 by decide),λ l2 h2=>?_⟩;have n2:l2≠x:=λ z=>by rw [z,hx1] at h2; cases h2
 have n21:l2≠l1:=λ z=>by rw [z,aA] at h2; cases h2
 refine ⟨l1,l2,[.bl (decide (c=0)),.bl (decide (c=1)),.bl (decide (c=2))],[.bl (decide (c=3))],rfl,rfl,SqL.of (by rw [aD (Ne.symm n21),aA]),SqL.of (by rw [aA]),(show 3+1<=P4 by decide),λ l3 h3=>?_⟩;have n3:l3≠x:=λ z=>by rw [z,aD (Ne.symm n2),hx1] at h3; cases h3
 obtain ⟨e1,e2⟩:=Gx c hc;refine ⟨.ref l3,rfl,.inl ⟨rfl,_,SqL.of (by rw [aA])⟩,l3,_,_,rfl,rfl,SqL.of (by rw [aA]),rfl,rfl,?_⟩;refine ⟨rfl,_,rfl,?_⟩;show (if (!decide (V.int (([V.bl (decide (c=0)),.bl (decide (c=1)),.bl (decide (c=2)),.bl (decide (c=3))].countP λ z=>eqV z (.bl true)):Nat)=V.int 1))=true then _ else _);rw [e1,if_neg (by decide)];refine ⟨x,ca c,true,rfl,by rw [aD (Ne.symm n3),aD (Ne.symm n2)]; exact hx1,xc,R.val c hc,true,rfl,?_⟩;show (if (!true)=true then _ else _);rw [if_neg (by decide)];refine ⟨.ref l3,rfl,.inl ⟨rfl,_,SqL.of (by rw [aA])⟩,l3,_,_,c,rfl,rfl,SqL.of (by rw [aA]; rfl),rfl,rfl,e2,(show 2<=P4 by decide),λ t ht=>?_⟩;have s3:Same H (upd (upd (upd H l1 (.lst [.bl (decide (c=0)),.bl (decide (c=1)),.bl (decide (c=2))])) l2 (.lst [.bl (decide (c=3))])) l3 (.lst ([.bl (decide (c=0)),.bl (decide (c=1)),.bl (decide (c=2))]++[.bl (decide (c=3))]))) :=
  ((cL h1 _).trans (cL h2 _)).trans (cL h3 _)
 have hF:F t=none:=(sm.trans s3).free ht;refine q _ (upd F t (.tup [.str "refused", .int c])) _ ⟨cL hF _,s3.trans (cL ht _),λ b u e=>?_,λ b e=>?_⟩ (kF (xs:=[.str "refused", .int c]) (.inl (.inl aA)) (.cons sF (.cons dQ .nil)))
 ·by_cases hb:b=t
  ·subst hb; rw [aA] at e ⊢; exact e
  ·rw [aD hb] at e ⊢; exact s3 _ _ (sm _ _ e)
 ·by_cases hb:b=t
  ·subst hb; exact .inr (s3.free ht)
  ·rw [aD hb] at e; exact .inl e
end
abbrev Cx.tri (X:Cx) (E:PP->PQ->Prop) (pn:List (Qd×Obj)):Cx:={ X with xe:=E,pn:=pn }
section
variable {X:Cx} {pz:List (Qd×Obj)} {σ:St} {H:Hp} {s:PQ} {E:PP->PQ->Prop}
theorem FZ (I:Inv X pz σ H s) (E:PP->PQ->Prop):Inv (Cx.tri X E (X.pn++pz)) [] σ H s :=
 ⟨⟨I.ok.mod,I.ok.kind,I.ok.glob,I.ok.blt,I.ok.above,I.ok.inj,I.ok.has,I.ok.cab,I.ok.hd,I.ok.frames,I.ok.stk,I.ok.exf,I.ok.bs,I.ok.bsz,I.ok.noex,I.ok.exfs,I.ok.funs,I.ok.frf⟩,I.os,I.bare,I.base,I.loc,I.cell,I.free,I.freeC,λ p hp=>I.pin p (by rw [Qr] at hp; exact hp),I.hok,I.len⟩
theorem si {pins':List (Qd×Obj)} (I:Inv (Cx.tri X E (X.pn++pz)) pins' σ H s):Inv X pz σ H s :=
 ⟨⟨I.ok.mod,I.ok.kind,I.ok.glob,I.ok.blt,I.ok.above,I.ok.inj,I.ok.has,I.ok.cab,I.ok.hd,I.ok.frames,I.ok.stk,I.ok.exf,I.ok.bs,I.ok.bsz,I.ok.noex,I.ok.exfs,I.ok.funs,I.ok.frf⟩,I.os,I.bare,I.base,I.loc,I.cell,I.free,I.freeC,λ p hp=>I.pin p (Ru _ hp),I.hok,I.len⟩
theorem SP.untri {D:Ends} {f:Flow} (h:SP (Cx.tri X E (X.pn++pz)) [] D f s'):SP X pz D f s':=by
 cases f with
 | next=>obtain ⟨σ',H',I,q⟩:=h; exact ⟨σ',H',si I,q⟩
 | brk=>obtain ⟨σ',H',I,q⟩:=h; exact ⟨σ',H',si I,q⟩
 | cont=>obtain ⟨σ',H',I,q⟩:=h; exact ⟨σ',H',si I,q⟩
 | ret u=>obtain ⟨v,σ',H',I,r,q⟩:=h; exact ⟨v,σ',H',si I,r,q⟩
theorem GQ {h':Heap} {m:Str->Option PP} {t':Nat} (I:Inv X pz σ H s) (hn:h'.Ns X.env.locals m) (hs:Heap.SameBut X.env.locals s.heap h'):Inv X pz (σ.map λ _=>none) H { s with heap:=h',toks:=t' }:=by
 have k:∀ b o,b≠X.env.locals->s.heap.get? b=some o->h'.get? b=some o:=λ b o n e=>(hs.2 b n).trans e;have neL:∀ b o,X.s₀.heap.get? b=some o->b≠X.env.locals:=λ b o e=>Qm (P5 (Qb e) I.ok.above);refine ⟨I.ok,I.os,I.bare,⟨λ b o e n hb hx=>k b o (neL b o e) (I.base.keep b o e n hb hx),λ b o e n hb hx=>?_,I.base.free,λ b o e hx=>?_,I.base.tups,I.base.frzs,I.base.tbls⟩,⟨m,hn,λ i x v _ h=>?_⟩,λ x c e=>?_,I.free,I.freeC,λ p hp=>?_,λ b u e=>?_,by rw [PJ]; exact I.len⟩
 ·obtain ⟨sl,e1⟩:=I.base.slot b o e n hb hx;exact ⟨sl,k b _ (neL b o e) e1⟩
 ·obtain ⟨o',e1⟩:=I.base.there b o e hx;exact ⟨o',k b _ (neL b o e) e1⟩
 ·rw [P9] at h;cases q:σ[i]? with
  | none=>rw [q] at h; cases h
  | some o=>rw [q] at h; cases h
 ·obtain ⟨v,o,ho,hd⟩:=I.cell x c e;exact ⟨v,o,k c o (I.cne x c e) ho,hd⟩
 ·obtain ⟨a1,a2,a3,a4⟩:=I.pin p hp;exact ⟨k _ _ a3 a1,a2,a3,a4⟩
 ·refine (I.hok b u e).stay (λ c v hc r=>k c v (λ z=>?_) r) (λ _ q=>q) λ _ _ q=>q;rcases hc with rfl | hc
  ·rw [z,I.free] at e; cases e
  ·rw [z,I.free] at hc; cases hc
end
def Hdl (X:Cx) (B:Bd) (ca:Nat->Qd) (hs:List ExceptHandler) (hd:Nat->Option PD):Prop :=
 ∀ (pz:List (Qd×Obj)) (σ:St) (H:Hp) (s:PQ) (D:Ends) (a:Qd) (c:Nat) (H':Hp) (s':PQ) (d:PD) (F':Hp),Inv X pz σ H s->Fly X.prog X.w X.stack H s a (ca c) H' s'->Gr B.F B.H F' H'->hd c=some d ->
  (∀ v F'' H'',Gr B.F B.H F'' H''->Rel X.K F'' d v->D.rt v H'') ->
  Qs (Qq X.prog X.w) X.A (noteFrame (.ref a) X.env) (λ _ s₂=>Qs (Qq X.prog X.w) X.A (setFlight (.ref a) none) (λ _ s₃=>Qs (Qq X.prog X.w) X.A (handleBy (.ref a) X.env hs) (SP X pz D) X.xe s₃) X.xe s₂) X.xe s'
section
variable {M:Model} {A:QI} {Z:PP->PQ->Prop} {h:Heap} {g:Array GenState} {d:Drawn} {t:Nat} {os:OsState} {e C T:Qd} {oe:Obj}
theorem GU {q nm:Str} {N:Qd} {bs bm:List PP} {hdct:Bool} {sn:List Str} {sub:List PP} {ab:Bool} {col:Option Bool} {dd:Option Qd} {k0 k1 k2 k3 k5:Option PP} {newId:String}
  {nm' q':Str} {N':Qd} {bs' bm':List PP} {hdct':Bool} {sn':List Str} {sub':List PP} {ab':Bool} {col':Option Bool} {dd':Option Qd} {j0 j1 j2 j3 j5:Option PP} {newId':String} {Q:Bool->PQ->Prop}
  (hC:h.get? C=some (excClassObj nm q C N bs bm hdct sn sub ab col dd k0 k1 k2 k3 k5 newId)) (hT:h.get? T=some (excClassObj nm' q' T N' bs' bm' hdct' sn' sub' ab' col' dd' j0 j1 j2 j3 j5 newId')) (he:h.get? e=some oe) (hcls:oe.cls=.ref C)
  (hb:bm'.contains (.type "BaseException")=true) (hs:(Value.ref C::bm).contains (.ref T)=true) (hq:Q true ⟨h,g,d,t,os⟩):Qs M A (excMatches (.ref e) (.ref T)) Q Z ⟨h,g,d,t,os⟩:=by
 have hcB:(Value.ref T::bm').contains (.type "BaseException")=true:=by rw [List.contains_cons,hb,Bool.or_true]
 have f:=tc_notTuple;unfold excMatches
 repeat (first | (with_reducible refine wpAny_loadPart_at he ?_; rw [hcls]) | with_reducible refine wpAny_loadPart_at hT ?_ | (with_reducible refine wpAny_isSubtype_exc hT ?_; rw [hcB]) | (with_reducible refine wpAny_isSubtype_exc hC ?_; rw [hs]) | wp_step)
 exact hq
end
theorem Kd {K:PH} {h:Heap} {C:Qd} {v:PP} {q nm:Str} {N:Qd} {bs bm:List PP} {hdct:Bool} {sn:List Str} {sub:List PP} {ab:Bool} {col:Option Bool} {dd:Option Qd} {k0 k1 k2 k3 k5:Option PP} {newId:String}
  (X:K.In h) (hC:h.get? C=some (excClassObj nm q C N bs bm hdct sn sub ab col dd k0 k1 k2 k3 k5 newId)) (e:Q2 K C v=some true):(Value.ref C::bm).contains v=true:=by
 unfold Q2 at e;obtain ⟨cd,a,b⟩:=Option.bind_eq_some_iff.mp e;unfold PySem.W.clsIn at a;split at a
 ·rename_i ho;have z:=X _ _ ho;rw [hC] at z;have z2:=Option.some.inj z;unfold excClassObj at z2;injection z2 with _ _ z3 _
  injection z3 with z3
  cases a;rw [<- z3] at b;split at b
  ·cases b
  ·exact Option.some.inj b
 ·cases a
section
variable {X:Cx} {B:Bd} {ca:Nat->Qd} {T:Qd} {x n:Str} {np hp:Pos}
theorem flown {s:PQ} {t:Qd} {Bq h6:Heap} (I:Inv X pz σ H s) (fl:Fly X.prog X.w X.stack H s a C H' s') (fly:Heap.FlyingW Bq X.stack a (.ref C) (.ref t) s'.heap)
  (cov:∀ b o,s'.heap.get? b=some o->((∃ u,H' b=some u)\/∃ o₀,s.heap.get? b=some o₀)->b∉frs X.stack->Bq.get? b=some o) (fly6:Heap.FlyingW Bq X.stack a (.ref C) (.ref t) h6) (up:s'.heap.UpToSlots h6) :
  Inv X pz σ H' { s' with heap:=h6 }/\H' a=none/\Inv X pz σ (upd H' a (AM a C)) { s' with heap:=h6 }:=by
 obtain ⟨u5,k5⟩:=Ao (a:=a) (cls:=.ref C) (a0:=.ref t) fl.un fl.hok fl.nofr fly.2.2.1 cov fly6.1 up;have I5:Inv X pz σ H' { s' with heap:=h6 }:=I.call' (ch:=[]) fl.os u5 k5 fl.bare λ b z=>absurd z (by simp);have fresh:∀ o,s.heap.get? a≠some o:=λ o e=>by
  obtain ⟨o',e'⟩:=fl.un.there a o e (by simp);by_cases hm:a∈frs X.stack
  ·obtain ⟨_,o2,h2,hd⟩:=fly.2.2.1.mem hm;obtain ⟨oe,vs,h3,_,hdd,_⟩:=fly.first
   rw [h3] at h2;cases h2;exact hd _ hdd
  ·have z:=cov a o' e' (.inr ⟨o,e⟩) hm;rw [fly.2.1] at z;cases z
 have hfree:H' a=none:=by
  cases q:H' a with
  | none=>rfl
  | some u =>
   obtain ⟨o',e'⟩:=Eu (fl.hok a u q);by_cases hm:a∈frs X.stack
   ·rw [fl.nofr a hm] at q; cases q
   ·have z:=cov a o' e' (.inl ⟨u,q⟩) hm;rw [fly.2.1] at z;cases z
 refine ⟨I5,hfree,?_⟩;obtain ⟨oe,vs,e1,e2,e3,_⟩:=fly6.first
 refine I.call' (ch:=[]) fl.os ⟨u5.keep,u5.slot,λ b o q nb hx=>?_,u5.there,λ b xs q=>?_,λ b o u q=>?_,λ b ps q=>?_⟩ (λ b u e=>?_) fl.bare λ b z=>absurd z (by simp)
 ·rw [aD (λ z=>fresh o (by rw [<- z]; exact q))]; exact u5.free b o q nb hx
 ·rw [aD (λ z=>by have:=u5.tups b xs q; rw [z,hfree] at this; cases this)]; exact u5.tups b xs q
 ·rw [aD (λ z=>by have:=u5.frzs b o u q; rw [z,hfree] at this; cases this)]; exact u5.frzs b o u q
 ·obtain ⟨more,e⟩:=u5.tbls b ps q;exact ⟨more,by rw [aD (λ z=>by rw [z,hfree] at e; cases e)]; exact e⟩
 ·by_cases hb:b=a
  ·subst hb;rw [aA] at e;cases e;exact ⟨⟨oe,e1,e2⟩,⟨oe,e1⟩,λ h1 h2 p q=>GR p q⟩
  ·rw [aD hb] at e;refine (k5 b u e).stay (λ _ _ _ r=>r) (λ c r=>?_) λ c xs r=>?_
   ·rw [aD (λ z=>by rw [z,hfree] at r; cases r)]; exact r
   ·rw [aD (λ z=>by rw [z,hfree] at r; cases r)]; exact r
theorem caught {pz:List (Qd×Obj)} {σ:St} {H H':Hp} {s s':PQ} {a C:Qd} {b₀:Stmt} {suite:List Stmt} {nn:Option Str} {Q:Flow->PQ->Prop} {rest:List ExceptHandler}
  (hst:X.stack=X.env::X.outer) (hfr:X.env.frame=some X.env.locals) (I:Inv X pz σ H s) (fl:Fly X.prog X.w X.stack H s a C H' s') (hT:X.mg x=some (.ref T)) (hg:Gl X x) (hdb:Nd x)
  (xC:Rb X.K C E7 "ValueError.__new__" = true) (xT:Rb X.K T E7 "ValueError.__new__" = true) (hm:Q2 X.K C (.ref T)=some true)
  (k:∀ s6,(∀ (A:QI) (Z:PP->PQ->Prop) (Q:Unit->PQ->Prop),(∀ s7,H' a=none->Inv X pz σ H' s7->Inv X pz σ (upd H' a (AM a C)) s7->Q () s7)->Qs (Qq X.prog X.w) A (setFlight (.ref a) none) Q Z s6) ->
   codeAny (Qq X.prog X.w) (X.A.mark (some (.ref a))) (.handlers (.ref a) [.ExceptHandler none nn (b₀::suite) hp] X.env) (λ r s₂=>match r with
     | .ok f=>(match nn with
      | none=>Q f s₂
      | some n=>Qs (Qq X.prog X.w) X.A (do bindName X.env n .none; unbindBehindTheSuite X.env n hp) (λ _ s₃=>Q f s₃) X.xe s₂)
     | .error y=>cameBackBy (Qq X.prog X.w) X.A X.env X.xe y s₂) s6) :
  Qs (Qq X.prog X.w) X.A (noteFrame (.ref a) X.env) (λ _ s₂=>Qs (Qq X.prog X.w) X.A (setFlight (.ref a) none) (λ _ s₃=>Qs (Qq X.prog X.w) X.A (handleBy (.ref a) X.env (.ExceptHandler (some (.Name x np)) nn (b₀::suite) hp::rest)) Q X.xe s₃) X.xe s₂) X.xe s':=by
 obtain ⟨Bq,t,fly,cov⟩:=fl.fly;have fly':Heap.FlyingW Bq (X.env::X.outer) a (.ref C) (.ref t) s'.heap:=hst ▸ fly;have frs':X.A.frames=some (X.env::X.outer):=hst ▸ I.ok.frames;refine wpAny_looks_onW frs' hfr fly' λ h4 held4 up4=>?_;refine wpAny_landsW held4 λ h5 fly5 up5=>?_;have fly5':Heap.FlyingW Bq X.stack a (.ref C) (.ref t) h5:=hst ▸ fly5;obtain ⟨I5,_,_⟩:=flown I fl fly cov fly5' (up4.trans up5);have Ih:Inv (Cx.at X (X.A.mark (some (.ref a)))) pz σ H' { s' with heap:=h5 }:=Inv.around I5 rfl;refine wpAny_handleBy_cons (codeAny_handlers_test (qy (X:=Cx.at X (X.A.mark (some (.ref a)))) Ih hg hT ?_ hdb)) (by intro q; cases q);obtain ⟨ob,hob,hobc⟩:=fly5.there;obtain ⟨bm,N,nm,qn,bs,hdct,sn,sub,ab,col,dd,k0,k1,k2,k3,kk5,mN,hC,_⟩:=sQ I5.kIn xC;obtain ⟨bm',N',nm',qn',bs',hdct',sn',sub',ab',col',dd',j0,j1,j2,j3,j5,mN',hT',_,_,TT⟩:=sQ I5.kIn xT;refine GU hC hT' hob hobc (TT.hasType PySem.F.excBase_ValueError.hasBase) (Kd I5.kIn hC hm) ?_;refine k _ λ A Z Q hq=>lands_againW fly5' λ h6 fly6 up6=>?_;obtain ⟨J1,J2,J3⟩:=flown I fl fly cov fly6 ((up4.trans up5).trans up6);exact hq _ J2 J1 J3
theorem Hdl.as {k i:Nat} {f:Qd} {fd:QX} {ps:List Str} {fx:Str} {p1 p2 p3 p4:Pos} (hT:X.mg x=some (.ref T)) (R:Refs X.K ca) (hTx:Rb X.K T E7 "ValueError.__new__" = true) (hmro:∀ c,c < 4->Q2 X.K (ca c) (.ref T)=some true)
  (G:FnC X.prog X.w X.K X.mg X.base k f fd ps (spE X.K ca)) (hr:RoomC k X.A) (hm:X.mg fx=some (.ref f)) (hk:QQ X.K (.ref f)=true) (hb:Binds X.K fd ps []) (hN:X.N.Nodup) (hi:X.N[i]?=some n:=by rfl)
  (hl:X.env.kindOf n=some .local:=by rfl) (hst:X.stack=X.env::X.outer:=by rfl) (hfr:X.env.frame=some X.env.locals:=by rfl) (hg:Gl X x:=by rfl) (hdb:Nd x:=by decide)
  (hgf:Gl X fx:=by rfl) (hdf:(fx==("__debug__" : Str))=false:=by decide) (hdn:(n==("__debug__" : Str))=false:=by decide) (hcn:(n==("__classdict__" : Str))=false:=by decide) :
  Hdl X B ca [.ExceptHandler (some (.Name x np)) (some n) [.Return (some (.Call (.Name fx p1) [.Name n p2] [] p3)) p4] hp] (λ c=>if c < 4 then some (C6 c) else none):=by
 intro pz σ H s D a c H' s' d F' I fl gr ed q;dsimp only at ed;split at ed
 case isFalse=>cases ed
 case isTrue hc =>
 cases ed;refine caught hst hfr I fl hT hg hdb (R.xc c hc).ex hTx (hmro c hc) λ s6 again=>codeAny_handlers_suite_as (again _ _ _ λ s7 hf I7 J7=>?_);have hloc:X.env.scope.names.lookup n=some .local:=hl;have Jh:Inv (Cx.at X (X.A.mark (some (.ref a)))) pz σ (upd H' a (AM a (ca c))) s7:=Inv.around J7 rfl;refine zt (X:=Cx.at X (X.A.mark (some (.ref a)))) (v:=.ref a) Jh hN hi (.inl hloc) rfl (λ s8 J8=>?_) (.inr hloc);have hiσ:i < σ.length:=by rw [I.len]; exact (PR.mp hi).1
 have g8:Gr B.F B.H F' (upd H' a (AM a (ca c))):=⟨gr.ff,gr.hh.trans (cL hf _),gr.fh.trans (cL hf _),gr.new⟩;have pe:=HQ (X:=Cx.at X (X.A.mark (some (.ref a)))) (p:=p1) (pos:=p3) G (hr.mark _) hm hk hb (qT (pos:=p2) hi (.inl hloc) hdn hcn) hgf hdf;have ps:=za (xH (pos:=p4) pe);refine wpAny_mono (ps pz s8 _ _ { nx:=λ _ _=>False,rt:=D.rt } J8 ⟨.ref a,by rw [PY hiσ],a,c,F',rfl,hc,by rw [aA],g8.fh,λ v F'' H'' g2 rv=>q v F'' H'' (g8.trans g2) rv⟩) (λ fl s9 h9=>?_) λ _ _ z=>z.elim;cases fl with
 | next=>obtain ⟨_,_,_,z⟩:=h9; exact z.elim
 | brk=>obtain ⟨_,_,_,z⟩:=h9; exact z.elim
 | cont=>obtain ⟨_,_,_,z⟩:=h9; exact z.elim
 | ret u =>
  obtain ⟨v,σ',H9,J9,rv,z⟩:=h9;have J:Inv X pz σ' H9 s9:=Inv.back J9 I.ok;obtain ⟨m,hn,_⟩:=id J.loc;refine wpAny_nameGoes_keeps hl hn (by rw [I.ok.kind]; rfl) λ h' vv hn' hs=>?_;exact ⟨v,_,H9,GQ J hn' hs,rv,z⟩
end
theorem S.nx {u:En->Option Out} (h:S X.nox B st u):S X B st u:=PS.nox h
section
variable (K:PH) (cl:Nat->Qd) (W:Nat->Hp->Prop)
def tMX (g:Wd->Option (Nat×Sto)):St->Hp->Prop:=λ σ H=>∃ θ F w c s',MR K cl θ F H w.s/\MV K θ F σ w.η/\g w=some (c,s')/\∀ θ' F' H',θ<+:θ'->Same F F'->MR K cl θ' F' H' s'->W c H'
end
abbrev MXF:=Wd->Option (Nat×Sto)
def MEX (X:Cx) (cl:Nat->Qd) (W:Nat->Hp->Prop) (e:Expr) (g:MXF):Prop:=PE X e (λ σ H _=>tMX X.K cl W g σ H)
def MSX (X:Cx) (cl:Nat->Qd) (W:Nat->Hp->Prop) (st:Stmt) (g:MXF):Prop:=PS X st (λ _ σ H=>tMX X.K cl W g σ H)
def MSsX (X:Cx) (cl:Nat->Qd) (W:Nat->Hp->Prop) (st:List Stmt) (g:MXF):Prop:=PSs X st (λ _ σ H=>tMX X.K cl W g σ H)
def Gu (K:PH) (cl:Nat->Qd) (ca:Nat->Qd) (fx:List D->Sto->Option (Nat×Sto)):Sp:=λ vs H _ E=>∃ θ F s ds c s',MR K cl θ F H s/\DRs K θ F ds vs/\fx ds s=some (c,s')/\∀ θ' F' H',θ<+:θ'->Same F F'->MR K cl θ' F' H' s'->E (.ref (ca c)) none H'
def mxP (g:En->Option Nat):MXF:=λ w=>(g (vw w)).bind λ c=>some (c,w.s)
section
variable {X:Cx} {cl:Nat->Qd} {W:Nat->Hp->Prop} {ca:Nat->Qd} {st:Stmt} {sts sts':List Stmt} {e o:Expr} {es:List Expr} {u:Wd->Option MOut} {f:MF} {fs:MFs} {g g':MXF} {px:En->Option Nat} {p:MTF} {pos pos':Pos}
theorem MSsX.one (h:MSX X cl W st g):MSsX X cl W (st::sts) g:=PSs.imp (oi h PSs.no) λ _ _ _ q=>q
theorem MSX.ret (h:MEX X cl W e g):MSX X cl W (.Return (some e) pos) g:=PS.imp (xH h) λ _ _ _ q=>q
theorem MSX.exp (h:MEX X cl W e g) (hs:swapsWith e none pos.line X.env=pure false:=by rfl):MSX X cl W (.Expr e pos) g:=PS.imp (zb h hs) λ _ _ _ q=>q
theorem LZ {K:PH} (h:tMX K cl W (mxP px) σ H):∃ B,tX K B W px σ H:=by
 obtain ⟨θ,F,w,c,s',m,v,h,q⟩:=h;obtain ⟨c',h1,h2⟩:=ac h;cases h2;exact ⟨⟨F,H⟩,F,vw w,_,m.vw v,h1,λ F' H' gr=>q θ F' H' (Qi _) gr.ff (m.grow gr)⟩
theorem MEX.pu (h:∀ B,EX X B W e px):MEX X cl W e (mxP px):=λ pz s σ H Q I t=>by
 obtain ⟨B,z⟩:=LZ t;exact h B pz s σ H Q I z
def B7 (k:Nat) (nm:Str) (fx:List D->Sto->Option (Nat×Sto)) (o:MF) (fs:MFs):MXF:=λ w=>(o w).bind λ r=>match r.1 with
 | .r n=>(match r.2[n]? with
  | some (.obj k' as)=>if k'=k/\as.lookup nm=none then (fs ⟨w.η,r.2⟩).bind λ rs=>fx (.r n::rs.1) rs.2 else none
  | _=>none)
 | _=>none
theorem MEX.meth {pl:Sem Bool} {apos:Pos} {fx:List D->Sto->Option (Nat×Sto)} (ho:ME X cl o f) (c:Cls X.K (cl kc)) (hm:Meth X.K (cl kc) nm fa) (G:FnOk X.prog X.w X.K X.mg X.base (CXX X.prog X.w) k fa fd ps (Gu X.K cl ca fx)) (hx:XOk X ca W) (hr:Room k' X.A) (hkk:k<=k') (hb:Binds X.K fd ps [])
  (ha:MA X cl (e::es) fs) (hst:PX (e::es) X.env=(false,eval e X.env)::PX es X.env:=by exact bS rfl) (hpl:(backTo pos (PX es X.env)).any (·.1)=false:=by exact iN rfl)
  (ht:eval (.Call (.Attribute o nm apos) (e::es) [] pos) X.env=(do
   let ov <- eval o X.env
   standAt apos.atName
   let (f,first) <- holding [ov] (getMethod ov nm pl)
   callWith pos f first (backTo pos (PX (e::es) X.env)) (backToKw pos (keywordEach [] X.env))):=by rfl):MEX X cl W (.Call (.Attribute o nm apos) (e::es) [] pos) (B7 kc nm fx f fs) :=
 PE.imp (FD (pl:=pl) ho c hm G (hr.mono hkk) hb .nil hx ha hst hpl ht) λ σ H Q ⟨θ,F,w,cc,s',m,v,hf,q⟩=>by
  obtain ⟨⟨d0,s0⟩,h0,hf⟩:=ac hf;cases d0 with
  | d x=>cases hf
  | r n =>
   dsimp only at hf;split at hf
   ·rename_i k' as hc;split at hf
    ·rename_i hk;obtain ⟨⟨ds,s1⟩,h1,hf⟩:=ac hf;obtain ⟨hk1,hk2⟩:=hk;rw [hk1] at hc;refine ⟨θ,F,w,.r n,s0,m,v,h0,λ u θ1 F1 H1 p1 q1 m1 r1=>?_⟩;obtain ⟨a,e1,rfl⟩:=id r1;obtain ⟨c1,c2,c3,dx,xs,c4,c5⟩:=m1.cel n a _ e1 hc;refine ⟨a,dx,xs,rfl,c4,(c5.look nm).2 hk2,θ1,F1,⟨w.η,s0⟩,ds,s1,m1,v.mono p1 q1,h1,λ vs θ2 F2 H2 p2 q2 m2 r2=>?_⟩;show Gu X.K cl ca fx (.ref a::(vs++[])) H2 Q (EW ca W);rw [Qr];exact ⟨θ2,F2,s1,.r n::ds,cc,s',m2,.cons (DR.mono p2 q2 r1) r2,hf,λ θ3 F3 H3 p3 q3 m3=>⟨cc,rfl,q θ3 F3 H3 (p1.trans (p2.trans p3)) (q1.trans (q2.trans q3)) m3⟩⟩
    ·cases hf
   ·cases hf
end
def C5 (n m:Nat) (g:MXF):List D->Sto->Option (Nat×Sto):=λ ds s=>if ds.length=n then g ⟨ds.map some++Qf (m - n) none,s⟩ else none
section
variable {P:Ql} {w:World} {K:PH} {mg:Str->Option PP} {base:Heap} {ca cl:Nat->Qd}
theorem Pl {f:Qd} {k:Nat} {g:MXF} (Fn:Fun K x qual st f fd) (Sc:aI N ps (ah st))
  (hb:∀ (cdv:PP) (A:QI) (outer:List Env) (s:PQ) (H:Hp) (E:XK) (W:Nat->Hp->Prop),Room k (A.deeper (envOfC qual (ah st) s.heap.objs.size f cdv)) ->
   XOk (so (CXX P w) P w K mg base N qual (ah st) f cdv A outer s H E) ca W->XMd (so (CXX P w) P w K mg base N qual (ah st) f cdv A outer s H E) ca W ->
   MSsX (so (CXX P w) P w K mg base N qual (ah st) f cdv A outer s H E) cl W (nZ st) g) :
  FnOk P w K mg base (CXX P w) (k+1) f fd ps (Gu K cl ca (C5 ps.length N.length g)):=by
 obtain ⟨oc,od,kV,doc,pm,an,cdv,ct,osl,rfl,lk,hcd⟩:=Fn.ex;refine IH lk hcd Sc (λ vs H Q E h=>?_) λ A outer s H vs Q E hr h=>?_
 ·obtain ⟨θ,F,s,ds,c,s',_,r,e,_⟩:=h;unfold C5 at e;split at e
  ·rename_i hl;rw [<- Paired.length r]; exact hl
  ·cases e
 ·obtain ⟨θ,F,s0,ds,c,s',m,r,e,q⟩:=h;refine ⟨_,hb cdv A outer s H E (λ c H'=>E (.ref (ca c)) none H') hr (λ pz σ H1 s1 ev s2 I x=>?_) (λ pz σ H1 s1 c vs h' ev I x y=>Ad I x y),?_⟩
  ·obtain ⟨a,C,H',rfl,fl,c',ec,y⟩:=x;cases ec;exact Du I fl y
  ·unfold C5 at e;split at e
   ·rename_i hl;have z:=MV.start (K:=K) (N:=N) r;rw [hl] at z;exact ⟨θ,F,⟨_,s0⟩,c,s',m,z,e,q⟩
   ·cases e
end
def EC (g:MXF) (hd:Nat->Option PD) (u:Wd->Option MOut):Wd->Option MOut:=λ w=>match g w with
 | some r=>(hd r.1).bind λ d=>some (.rt (.d d) r.2)
 | none=>u w
section
variable {X:Cx} {cl ca:Nat->Qd} {body:List Stmt} {h₀:ExceptHandler} {hs:List ExceptHandler} {pos:Pos} {g:MXF} {u:Wd->Option MOut} {hd:Nat->Option PD}
theorem MS.tryX (hb:∀ xe pn,MSs (Cx.tri X xe pn) cl body u) (hx:∀ xe pn W,XOk (Cx.tri X xe pn) ca W->MSsX (Cx.tri X xe pn) cl W body g) (hh:∀ B,Hdl X B ca (h₀::hs) hd):MS X cl (.Try body (h₀::hs) [] [] pos) (EC g hd u):=by
 intro pz s σ H D I ⟨θ,F,w,o,m,v,e,q⟩;refine wpAny_Try_except ?_;have fin:∀ (xe:PP->PQ->Prop) (f:Flow) (s₁:PQ),SP (Cx.tri X xe (X.pn++pz)) [] D f s₁->(match f with | .next=>Qs (Qq X.prog X.w) X.A (execs [] X.env) (SP X pz D) X.xe s₁ | f=>SP X pz D f s₁):=λ xe f s₁ h=>by
  have h':=SP.untri h;cases f with
  | next=>exact wpAny_execs_nil h'
  | brk=>exact h'
  | cont=>exact h'
  | ret u=>exact h'
 unfold EC at e;split at e
 ·rename_i r eg;obtain ⟨c,sx⟩:=r;obtain ⟨d,ed,e⟩:=ac e;cases e;refine wpAny_mono (hx _ (X.pn++pz) (λ c' H'=>c'=c/\∃ θ' F',θ<+:θ'/\Same F F'/\MR X.K cl θ' F' H' sx) ?_ [] s σ H D (FZ I _) ⟨θ,F,w,c,sx,m,v,eg,λ θ' F' H' p' q' m'=>⟨rfl,θ',F',p',q',m'⟩⟩) (λ f s₁ h=>fin _ f s₁ h) λ _ _ z=>z;intro pins' σ' H1 s1 ev s2 I' hX;obtain ⟨a,C,H',e1,fl,c',e2,e3,θ',F',p',q',m'⟩:=hX;subst e1 e3;cases e2;exact hh ⟨F',H'⟩ pz σ' H1 s1 D a _ H' s2 d F' (si I') fl (.refl m'.sm) ed λ x F'' H'' gr rx=>q x θ' F'' H'' p' (q'.trans gr.ff) (m'.grow gr) rx
 ·exact wpAny_mono (hb _ (X.pn++pz) [] s σ H D (FZ I _) ⟨θ,F,w,o,m,v,e,q⟩) (λ f s₁ h=>fin _ f s₁ h) λ _ _ z=>z
end
def rV (fs:MFs):MF:=λ w=>(fs w).bind λ r=>(pDs r.2 r.1).bind λ xs=>if xs.length<=P4 then some (.d (.tuple xs),r.2) else none
section
variable {X:Cx} {cl:Nat->Qd} {o e:Expr} {f:MF} {apos cpos pos pp:Pos}
theorem ME.tupM {x1} {es:List Expr} {fs:MFs} (h:MA X cl es fs):ME X cl (.Tuple es x1 pos) (rV fs):=PE.imp (Ep h) λ σ H Q ⟨θ,F,w,d,s',m,v,hf,q⟩=>by
 obtain ⟨⟨ds,s1⟩,h1,hf⟩:=ac hf;obtain ⟨xs,h2,hf⟩:=ac hf;split at hf
 ·rename_i hl;cases hf;refine ⟨θ,F,w,ds,_,m,v,h1,λ vs θ1 F1 H1 p1 q1 m1 r1=>?_⟩;have rs:=FL m1 r1 h2;refine ⟨by rw [rs.length]; exact hl,λ p hp=>?_⟩;have g2:Gr F1 H1 (upd F1 p (.tup vs)) (upd H1 p (.tup vs)):=Gr.one m1.sm hp;exact q _ θ1 _ _ p1 (q1.trans g2.ff) (m1.grow g2) (show Rel X.K _ (.tuple xs) (.ref p) from kF (SqT.of aA) (rs.mono g2.ff))
 ·cases hf
end
section
variable {X:Cx} {tg a b c:Expr} {B:Bd} {fs:En->Option (List PD)} {pos:Pos}
end
section
variable {X:Cx} {cl:Nat->Qd} {tg a b e:Expr} {f g:MF} {pos:Pos}
theorem ME.sub (ha:ME X cl a f) (hb:ME X cl b g):ME X cl (.BinOp a .Sub b pos) (mOp wB f g):=ME.op HZ (sv λ _ _ _=>dQ) ha hb
end
section
variable {X:Cx} {cl:Nat->Qd} {elts:List Expr} {kk:Nat} {tp np ap ip cp pos:Pos} {elt:Expr} {ifs:List Expr} {scope:Scope} {N':List Str} {mp:List (Option Nat)} {ks:List Nat} {gt:TG} {t:En->PD->Option En} {p:En->Option Bool} {f:En->Option PD}
end
def gQ (o g:MF):MF:=λ w=>(o w).bind λ r=>(g ⟨w.η,r.2⟩).bind λ q=>match r.1,q.1 with
 | .r n,.d x=>(Dy x).bind λ k=>(match q.2[n]? with
  | some (.dct kvs)=>(ci kvs k).bind λ d=>some (d,q.2)
  | _=>none)
 | _,_=>none
def sZ (kvs:List (Key×D)) (k:Key) (d:D):List (Key×D):=if (kvs.any λ kv=>decide (kv.1=k))=true then kvs.map (λ kv=>if kv.1=k then (kv.1,d) else kv) else kvs++[(k,d)]
def jC (o g e:MF):Wd->Option MOut:=λ w=>(e w).bind λ r=>(o ⟨w.η,r.2⟩).bind λ q=>(g ⟨w.η,q.2⟩).bind λ z=>match q.1,z.1 with
 | .r n,.d x=>(Dy x).bind λ k=>(match z.2[n]? with
  | some (.dct kvs)=>if kvs.length < P4 then some (.nx ⟨w.η,z.2.set n (.dct (sZ kvs k r.1))⟩) else none
  | _=>none)
 | _,_=>none
theorem KG {vs:List (Key×V)} (h:DRk K θ F kvs vs) (k:Key):(kvs.any λ kv=>decide (kv.1=k))=vs.any λ kv=>decide (kv.1=k):=by
 induction h with
 | nil=>rfl
 | cons r t ih=>rw [QV,QV,ih,r.1]
theorem KD {vs:List (Key×V)} (h:DRk K θ F kvs vs) (k:Key) {d:D} {v:V} (r:DR K θ F d v):DRk K θ F (kvs.map λ kv=>if kv.1=k then (kv.1,d) else kv) (vs.map λ kv=>if kv.1=k then (kv.1,v) else kv):=by
 induction h with
 | nil=>exact .nil
 | @cons a b as bs q t ih =>
  refine .cons ?_ ih;dsimp only;by_cases hk:a.1=k
  ·rw [if_pos hk,if_pos (by rw [<- q.1]; exact hk)];exact ⟨q.1,r⟩
  ·rw [if_neg hk,if_neg (by rw [<- q.1]; exact hk)];exact q
theorem KC {vs:List (Key×V)} (h:DRk K θ F kvs vs) (k:Key) {d:D} {v:V} (r:DR K θ F d v):DRk K θ F (sZ kvs k d) (pH vs k v):=by
 unfold sZ pH;rw [KG h k]
 split
 ·exact KD h k r
 ·exact uj h (.cons ⟨rfl,r⟩ .nil)
theorem key_of' {x:PD} {k:Key} {u:V} (hk:Dy x=some k) (r:Rel K F x u):u=kV k:=by
 cases x <;> simp only [Dy,Option.some.injEq,reduceCtorEq] at hk
 ·subst hk; exact (show Rel K F (.int _) u from r).int
 ·subst hk; exact (show Rel K F (.str _) u from r).str
section
variable {X:Cx} {cl:Nat->Qd} {o e i value:Expr} {f g h:MF} {pos pos' tpos apos cpos:Pos}
theorem jN (hr:Room k X.A) (ho:ME X cl o f) (hi:ME X cl e g) (hs:Np e:=by intro _ _; rfl):ME X cl (.Subscript o e pos) (gQ f g):=PE.imp (J5 (Room.one hr) ho hi hs) λ σ H Q ⟨θ,F,w,d,s',m,v,hf,q⟩=>by
 obtain ⟨⟨d1,s1⟩,h1,hf⟩:=ac hf;obtain ⟨⟨d2,s2⟩,h2,hf⟩:=ac hf;dsimp only at hf;split at hf
 ·rename_i _ n x _;obtain ⟨k,hk,hf⟩:=ac hf;split at hf
  ·rename_i kvs hc;obtain ⟨d3,hl,hf⟩:=ac hf;cases hf;refine ⟨θ,F,w,_,s1,m,v,h1,λ u θ1 F1 H1 p1 q1 m1 r1=>⟨θ1,F1,⟨w.η,s1⟩,_,_,m1,v.mono p1 q1,h2,λ u2 θ2 F2 H2 p2 q2 m2 r2=>?_⟩⟩;obtain ⟨ad,z1,rfl⟩:=r1;have z3:=nS p2 z1;obtain ⟨w5,ks,w6,w7⟩:=m2.cel n ad _ z3 hc;obtain ⟨v',e1,e2⟩:=(w7.look k).1 _ hl;exact ⟨ad,v',rfl,.inl ⟨ks,k,.inl w6,key_of' hk r2,e1.symm⟩,q _ θ2 F2 H2 (p1.trans p2) (q1.trans q2) m2 e2⟩
  ·cases hf
 ·cases hf
theorem MS.putC (hr:Room k X.A) (ho:ME X cl o f) (hi:ME X cl e g) (hv:ME X cl value h) (hs:swapsWith value (some (.Subscript o e pos')) pos.line X.env=pure false:=by rfl):MS X cl (.Assign [.Subscript o e pos'] value pos) (jC f g h):=PS.imp (JV (Room.one hr) ho hi hv hs) λ Z σ H ⟨θ,F,w,out,m,v,hf,q⟩=>by
 obtain ⟨⟨d1,s1⟩,h1,hf⟩:=ac hf;obtain ⟨⟨d2,s2⟩,h2,hf⟩:=ac hf;obtain ⟨⟨d3,s3⟩,h3,hf⟩:=ac hf;dsimp only at hf;split at hf
 ·rename_i _ n x _;obtain ⟨k,hk,hf⟩:=ac hf;split at hf
  ·rename_i kvs hc;split at hf
   ·rename_i hl;cases hf;refine ⟨θ,F,w,_,s1,m,v,h1,λ u θ1 F1 H1 p1 q1 m1 r1=>⟨θ1,F1,⟨w.η,s1⟩,_,s2,m1,v.mono p1 q1,h2,λ u2 θ2 F2 H2 p2 q2 m2 r2=>⟨θ2,F2,⟨w.η,s2⟩,_,s3,m2,v.mono (p1.trans p2) (q1.trans q2),h3,λ u3 θ3 F3 H3 p3 q3 m3 r3=>?_⟩⟩⟩;obtain ⟨ad,z1,rfl⟩:=r2;have z3:=nS p3 z1;obtain ⟨w5,ks,w6,w7⟩:=m3.cel n ad _ z3 hc;have hll:ks.length < P4:=by rw [<- j9 w7]; exact hl
    refine ⟨ad,_,rfl,.inl ⟨ks,k,w6,key_of' hk r3,hll,rfl⟩,?_⟩;exact q σ θ3 F3 _ (p1.trans (p2.trans p3)) (q1.trans (q2.trans q3)) (m3.put z3 hc rfl ⟨w5,_,aA,KC w7 k (r1.mono (p2.trans p3) (q2.trans q3))⟩) (v.mono (p1.trans (p2.trans p3)) (q1.trans (q2.trans q3)))
   ·cases hf
  ·cases hf
 ·cases hf
end
section
variable {K:PH} {cl:Nat->Qd} {θ:List Qd} {F H:Hp} {s:Sto}
theorem MR.lay (m:MR K cl θ F H s) (na:∀ (k:Nat) b,θ[k]?=some b->b≠a) (fa:F a=none) (h:CelR K cl (θ++[a]) F (upd H a o) a c):MR K cl (θ++[a]) F (upd H a o) (s++[c]) where
 sm:=λ b u q=>by
  have nb:b≠a:=aU q fa;rw [aD nb]; exact m.sm b u q
 len:=by rw [PL,PL,m.len]; rfl
 nd:=by
  rw [RI];refine ⟨m.nd,by simp,λ b hb b' hb'=>?_⟩;rw [Qt.mp hb'];obtain ⟨k,hk⟩:=RY hb;exact na k b hk
 cel:=λ k b c2 f1 f2=>by
  by_cases hk:k < θ.length
  ·rw [PM hk] at f1;rw [PM (by rw [<- m.len]; exact hk)] at f2;exact ((m.cel k b c2 f1 f2).else (na k b f1)).pre (QM _ _)
  ·have hk1:k=θ.length:=by
    have:=(PR.mp f1).1
    rw [PL] at this;have e1:[a].length=1:=rfl;omega
   subst hk1;rw [P0 (PV _),QE] at f1;rw [P0 (by rw [m.len]; exact PV _),m.len,QE] at f2;cases f1;cases f2;exact h
theorem IK:∀ {kvs:List (Key×PD)} {ks:List (Key×V)},RelD K F (prs kvs) ks->DRk K θ F (kvs.map λ kv=>(kv.1,D.d kv.2)) ks
 | [],ks,h=>by rw [h.nil_of]; exact .nil
 | (k',d')::kvs,ks,h=>by
  obtain ⟨k2,x',r,rfl,e,h3,h4⟩:=RelD.cons_of (d:=kD k') (e:=d') (es:=prs kvs) h
  have:=Ah e
  subst this;exact .cons ⟨rfl,h3⟩ (IK h4)
end
section
variable {X:Cx} {cl:Nat->Qd} {a b c e o st:Expr} {es:List Expr} {sts:List Stmt} {f g h:MF} {fs:MFs} {p:MTF} {u:Wd->Option MOut} {pos p2 pp:Pos}
def Io (ps:List PF):MF:=λ w=>(evP ps (vw w)).bind λ es=>(EJ es).bind λ kvs=>if kvs.length<=15 then some (.r w.s.length,w.s++[.dct ((Ex [] kvs).map λ kv=>(kv.1,D.d kv.2))]) else none
theorem ME.dispC {dp:Pos} {keys:List (Option Expr)} {values:List Expr} {ps:List PF} (h:∀ B,DP X B dp keys values ps) (hall:keys.all (·.isSome)=true:=by rfl) (hl:keys.length=values.length:=by rfl) (h0:keys≠[]:=by intro z; cases z) (h15:keys.length<=15:=by decide) :
  ME X cl (.Dict keys values dp) (Io ps):=λ pz s σ H Q I ⟨θ,F,w,d,s',m,v,hf,q⟩=>by
 refine J4 (h ⟨F,H⟩) hall hl h0 h15 pz s σ H Q I ?_;obtain ⟨es,h1,hd⟩:=ac hf;obtain ⟨kvs,h2,hd⟩:=ac hd;split at hd
 ·rename_i hz;cases hd;intro p hp;have sr:=m.vw v;have g1:Gr F H F (upd H p (.dK [])):=⟨.refl _,cL hp _,m.sm.trans (cL hp _),λ _ z=>.inl z⟩;refine De (sr.grow g1) h1 λ pvs F2 H2 g2 rp=>?_;obtain ⟨ks,e,rd⟩:=Dx h2 rp;have hp2:H2 p=some (.dK []):=g2.hh _ _ aA;have fp:F p=none:=m.sm.free hp;have fp2:F2 p=none:=by
   cases z:F2 p with
   | none=>rfl
   | some o =>
    rcases g2.new p (by rw [z]; simp) with y | y
    ·exact absurd fp y
    ·rw [aA] at y; cases y
  refine ⟨hp2,ks,e,by rw [rd.length]; exact hz,?_⟩;have rm:=RelD.merge rd (acc:=[]) (as:=[]) .nil;have m2:MR X.K cl θ F2 H2 w.s:=m.grow (g1.trans g2);have pp:θ<+:θ++[p]:=QM _ _;exact q _ (θ++[p]) F2 _ pp g2.ff (m2.lay (λ k b e=>m.ne hp e) fp2 ⟨fp2,_,aA,IK rm⟩) ⟨p,ur m.len,rfl⟩
 ·cases hd
def mWh (c:MTF) (body:Wd->Option MOut):Nat->Wd->Option MOut
 | 0,_=>none
 | n+1,w=>(c w).bind λ r=>if r.1=true then (body ⟨w.η,r.2⟩).bind λ o=>match o with
  | .nx w'=>mWh c body n w'
  | .ct w'=>mWh c body n w'
  | .bk w'=>some (.nx w')
  | .rt d s=>some (.rt d s) else some (.nx ⟨w.η,r.2⟩)
theorem MS.while (n:Nat) (hp:PassesOwn (Qq X.prog X.w) X.A X.env X.xe) (hc:MT X cl c p) (hb:MSs X cl sts u):MS X cl (.While c sts [] pos) (mWh p u n):=PS.imp (Da hp hc hb) λ Z σ H ⟨θ,F,w,o,m,v,hf,q⟩=>by
 refine ⟨λ k σ H=>∃ θc Fc wc,θ<+:θc/\Same F Fc/\MR X.K cl θc Fc H wc.s/\MV X.K θc Fc σ wc.η/\mWh p u k wc=some o,⟨n,θ,F,w,Qi _,.refl _,m,v,hf⟩,?_⟩
 rintro k σc Hc ⟨θc,Fc,wc,pc,sc,mc,vc,hgo⟩
 cases k with
 | zero=>cases hgo
 | succ k =>
  unfold mWh at hgo;obtain ⟨⟨b,s1⟩,hb',hgo⟩:=ac hgo;refine ⟨θc,Fc,wc,b,s1,mc,vc,hb',λ θ1 F1 H1 p1 q1 m1=>?_⟩;cases b with
  | false =>
   rw [if_neg PN] at hgo;cases hgo;refine MQ ?_;exact q σc θ1 F1 H1 (pc.trans p1) (sc.trans q1) m1 (vc.mono p1 q1)
  | true =>
   rw [if_pos rfl] at hgo;refine MP ?_;obtain ⟨o1,e2,hgo⟩:=ac hgo;refine ⟨λ σ' H'=>∃ k',k' < k+1/\∃ θc Fc wc,θ<+:θc/\Same F Fc/\MR X.K cl θc Fc H' wc.s/\MV X.K θc Fc σ' wc.η/\mWh p u k' wc=some o,λ σ' H' z=>z,θ1,F1,⟨wc.η,s1⟩,o1,m1,vc.mono p1 q1,e2,?_⟩;have pp1:=pc.trans p1;have ss1:=sc.trans q1;cases o1 with
   | nx w2=>exact λ σ' θ' F' H' p' s' m' v'=>⟨k,Q3 _,θ',F',w2,pp1.trans p',ss1.trans s',m',v',hgo⟩
   | ct w2=>exact λ σ' θ' F' H' p' s' m' v'=>⟨k,Q3 _,θ',F',w2,pp1.trans p',ss1.trans s',m',v',hgo⟩
   | bk w2 =>
    cases hgo;exact λ σ' θ' F' H' p' s' m' v'=>q σ' θ' F' H' (pp1.trans p') (ss1.trans s') m' v'
   | rt d s2 =>
    cases hgo;exact λ v' θ' F' H' p' s' m' r'=>q v' θ' F' H' (pp1.trans p') (ss1.trans s') m' r'
def mCh (o o':PD->PD->Option PD) (f g h:MF):MTF:=λ w=>(f w).bind λ r=>(g ⟨w.η,r.2⟩).bind λ q=>(pD q.2 r.1).bind λ x=>(pD q.2 q.1).bind λ y=>(o x y).bind λ z=>(asB z).bind λ k =>
 if k=true then (h ⟨w.η,q.2⟩).bind λ t=>(pD t.2 t.1).bind λ x'=>(o' y x').bind λ z'=>(asB z').bind λ k'=>some (k',t.2) else some (false,q.2)
theorem MT.chain {op:CmpOp} {oo':PD->PD->Option PD} (ho:OpR X (QD op) r) (ad:Ad2 X.K r oo) (ho':OpR X (QD op') r') (ad':Ad2 X.K r' oo') (ha:ME X cl a f) (hb:ME X cl b g) (hc:ME X cl c h)
  (hm:lastMarks [op,op'] [b,c]=false:=by with_unfolding_all rfl):MT X cl (.Compare a [op,op'] [b,c] pos) (mCh oo oo' f g h):=PT.imp (C9 ho ho' ha hb hc hm) λ σ H Q ⟨θ,F,w,k0,s',m,v,hf,q⟩=>by
 obtain ⟨⟨d1,s1⟩,h1,hf⟩:=ac hf;obtain ⟨⟨d2,s2⟩,h2,hf⟩:=ac hf;obtain ⟨x,hx,hf⟩:=ac hf;obtain ⟨y,hy,hf⟩:=ac hf;obtain ⟨z,hz,hf⟩:=ac hf;obtain ⟨k,hk,hf2⟩:=ac hf;clear hf;obtain rfl:=jH hk;have hf:=hf2;refine ⟨θ,F,w,d1,s1,m,v,h1,λ u θ1 F1 H1 p1 q1 m1 r1=>⟨θ1,F1,⟨w.η,s1⟩,d2,s2,m1,v.mono p1 q1,h2,λ u2 θ2 F2 H2 p2 q2 m2 r2=>?_⟩⟩;have ry:=qL m2 _ _ _ hy r2;refine ad F2 H2 u u2 x y _ _ m2.sm (qL m2 _ _ _ hx (r1.mono p2 q2)) ry hz λ t F3 H3 g3 rt=>⟨k,rt.bl,?_⟩;have m3:=m2.grow g3;cases k with
 | false =>
  rw [if_neg PN] at hf ⊢;cases hf;exact ⟨false,rfl,q θ2 F3 H3 (p1.trans p2) (q1.trans (q2.trans g3.ff)) m3⟩
 | true =>
  rw [if_pos rfl] at hf ⊢;obtain ⟨⟨d4,s4⟩,h4,hf⟩:=ac hf;obtain ⟨x',hx',hf⟩:=ac hf;obtain ⟨z',hz',hf⟩:=ac hf;obtain ⟨k',hk',hf3⟩:=ac hf;clear hf;obtain rfl:=jH hk';cases hf3;refine ⟨θ2,F3,⟨w.η,s2⟩,d4,_,m3,v.mono (p1.trans p2) (q1.trans (q2.trans g3.ff)),h4,λ u4 θ4 F4 H4 p4 q4 m4 r4=>?_⟩;exact ad' F4 H4 u2 u4 y x' _ _ m4.sm (Rel.mono (g3.ff.trans q4) ry) (qL m4 _ _ _ hx' r4) hz' λ t5 F5 H5 g5 r5=>⟨_,r5.bl,q θ4 F5 H5 ((p1.trans p2).trans p4) (q1.trans (q2.trans (g3.ff.trans (q4.trans g5.ff)))) (m4.grow g5)⟩
theorem MT.eqNe (hr:Room k X.A) (ha:ME X cl a f) (hb:ME X cl b g) (hc:ME X cl c h) (hm:lastMarks [.Eq,.NotEq] [b,c]=false:=by with_unfolding_all rfl):MT X cl (.Compare a [.Eq,.NotEq] [b,c] pos) (mCh pEq pNe f g h):=MT.chain (zM hr.units) D1 (B3 hr.units) Gh ha hb hc hm
def Bo (f g:MF):MF:=λ w=>(f w).bind λ r=>(g ⟨w.η,r.2⟩).bind λ q=>match r.1,q.1 with
 | .r n,.d (.int k)=>(match q.2[n]? with
  | some (.lst ds)=>if 0<=k/\k < 1000/\ds.length*k.toNat<=1000 then some (.r q.2.length,q.2++[.lst (Qf k.toNat ds).flatten]) else none
  | _=>none)
 | _,_=>none
theorem zL {α β:Type} {R:α->β->Prop} {as:List α} {bs:List β} (h:Paired R as bs):∀ k:Nat,Paired R (Qf k as).flatten (Qf k bs).flatten
 | 0=>.nil
 | k+1=>by
  rw [QO,QZ,QO,QZ];exact uj h (zL h k)
theorem ME.repC (ha:ME X cl a f) (hb:ME X cl b g):ME X cl (.BinOp a .Mult b pos) (Bo f g):=PE.imp (Dc H0 ha hb) λ σ H Q ⟨θ,F,w,d,s',m,v,hf,q⟩=>by
 obtain ⟨⟨d1,s1⟩,h1,hf⟩:=ac hf;obtain ⟨⟨d2,s2⟩,h2,hf⟩:=ac hf;dsimp only at hf;split at hf
 ·rename_i _ n k _;split at hf
  ·rename_i ds hc;split at hf
   ·rename_i hz;cases hf;refine ⟨θ,F,w,.r n,s1,m,v,h1,λ u θ1 F1 H1 p1 q1 m1 r1=>⟨θ1,F1,⟨w.η,s1⟩,.d (.int k),s2,m1,v.mono p1 q1,h2,λ u2 θ2 F2 H2 p2 q2 m2 r2=>?_⟩⟩;obtain ⟨ad,z1,rfl⟩:=r1;have z2:θ2[n]?=some ad:=nS p2 z1;obtain ⟨w1,xs,w3,w4⟩:=m2.cel n ad _ z2 hc;have hl:xs.length*k.toNat<=1000:=by rw [<- j9 w4]; exact hz.2.2
    refine ⟨ad,k,xs,rfl,(show Rel X.K F2 (.int k) u2 from r2).int,w3,by omega,by omega,RC (Bh hl),λ p hp=>?_⟩;have pp:θ2<+:θ2++[p]:=QM _ _;exact q _ (θ2++[p]) F2 _ ((p1.trans p2).trans pp) (q1.trans q2) (m2.new hp ⟨m2.sm.free hp,_,aA,(show DRs X.K θ2 F2 _ _ from zL w4 k.toNat).mono pp (.refl _)⟩) ⟨p,ur m2.len,rfl⟩
   ·cases hf
  ·cases hf
 ·cases hf
theorem ME.toInt (hm:X.mg "int" = none) (ha:MA X cl [e] fs) (hg:Gl X "int" := by rfl) (he:PX [e] X.env=(false,eval e X.env)::PX [] X.env:=by exact bS rfl):ME X cl (.Call (.Name "int" pp) [e] [] pos) (mCB ul fs) :=
 PE.imp (xJ Bw hg hm (by decide +kernel) ha (by decide) (by decide) he (iN rfl)) (OA Je)
def keyIs':List (Key×D)->Option (List Int)
 | []=>some []
 | (.inl n,_)::r=>(keyIs' r).bind λ l=>some (n::l)
 | _=>none
theorem sK:∀ {kvs:List (Key×D)} {ns:List Int},keyIs' kvs=some ns->kvs.map (·.1)=ns.map Sum.inl
 | [],_,h=>by cases h; rfl
 | (.inl n,_)::r,_,h=>by
  obtain ⟨l,h1,h2⟩:=ac h;cases h2;rw [P2,P2,sK h1]
 | (.inr _,_)::r,_,h=>by cases h
theorem IL (h:DRk K θ F kvs ks):ks.map (·.1)=kvs.map (·.1):=by
 induction h with
 | nil=>rfl
 | cons r t ih=>rw [P2,P2,ih,r.1]
def ED (f:MF):MF:=λ w=>(f w).bind λ r=>match r.1 with
 | .r n=>(match r.2[n]? with
  | some (.dct kvs)=>(keyIs' kvs).bind λ ns=>if ns.length < 64 then some (.d (.list ((t7 ns).map Qx)),r.2) else none
  | _=>none)
 | _=>none
theorem ME.sortC (hr:Room k X.A) (hm:X.mg "sorted" = none) (h1:ME X cl e f) (hg:Gl X "sorted" := by rfl) (he:PX [e] X.env=(false,eval e X.env)::PX [] X.env:=by exact bS rfl):ME X cl (.Call (.Name "sorted" pp) [e] [] pos) (ED f) :=
 PE.imp (wA (DW hr.hd) hg hm boot_sorted (ag h1 aQ he) (by decide) (by decide) he (iN rfl)) λ σ H Q ⟨θ,F,w,d,s',m,v,hf,q⟩=>by
  obtain ⟨⟨d1,s1⟩,h1,hf⟩:=ac hf;cases d1 with
  | d x=>cases hf
  | r n =>
   dsimp only at hf;split at hf
   ·rename_i kvs hc;obtain ⟨ns,hn,hf⟩:=ac hf;split at hf
    ·rename_i h64;cases hf;refine ⟨θ,F,w,[.r n],_,m,v,by unfold maC maN; rw [h1]; rfl,λ vs θ1 F1 H1 p1 q1 m1 r1=>?_⟩;cases r1 with
     | @cons _ vv _ t r2 r3 =>
      cases r3;obtain ⟨ad,z1,rfl⟩:=r2;obtain ⟨w5,ks,w6,w7⟩:=m1.cel n ad _ z1 hc;have hk:ks.map (·.1)=ns.map Sum.inl:=(IL w7).trans (sK hn);refine ⟨ad,ks,ns,rfl,.inl w6,hk,h64,λ p hp=>?_⟩;have g:=Gr.one (o:=.lst ((t7 ns).map V.int)) m1.sm hp;exact q _ θ1 _ _ p1 (q1.trans g.ff) (m1.grow g) (show Rel X.K _ (.list _) _ from kG (SqL.of aA) (RelL.ints _))
    ·cases hf
   ·cases hf
def mRv (f:MF) (g:En->Option PD):MF:=λ w=>(f w).bind λ r=>(pD r.2 r.1).bind λ x=>(g (vw ⟨w.η,r.2⟩)).bind λ y=>(pRv x y).bind λ z=>some (.d z,r.2)
theorem ME.slRev {gs:En->Option PD} (he:ME X cl e f) (hs:∀ B,E X B st gs) (hsub:∀ o i,subscripted (.Slice none none (some st) p2) false o i=operate [o,i] (getItem o i):=by intro _ _; with_unfolding_all rfl):ME X cl (.Subscript e (.Slice none none (some st) p2) pos) (mRv f gs):=by
 intro pz s σ H Q I ⟨θ,F,w,d,s',m,v,hf,q⟩;obtain ⟨⟨d1,s1⟩,h1,hf⟩:=ac hf;obtain ⟨x,hx,hf⟩:=ac hf;obtain ⟨y,hy,hf⟩:=ac hf;obtain ⟨z,hz,hf⟩:=ac hf;cases hf
 match x,hx,hz with
 | .list ds,hx,hz =>
  obtain ⟨k,hk,hd3⟩:=ac hz;obtain rfl:=xt hk;split at hd3
  ·rename_i hk1;subst hk1;cases hd3;refine Subscript_ (thn (he pz s σ H (λ vv H1=>∃ θ1 F1,θ<+:θ1/\Same F F1/\MR X.K cl θ1 F1 H1 s1/\DR X.K θ1 F1 d1 vv) I ⟨θ,F,w,d1,s1,m,v,h1,λ u θ1 F1 H1 p1 q1 m1 r1=>⟨θ1,F1,p1,q1,m1,r1⟩⟩) λ vv s2 ⟨x,H1,I1,r1,θ1,F1,p1,q1,m1,rx0⟩=>?_);have rx:Rel X.K F1 (.list ds) x:=qL m1 _ _ _ hx rx0;refine wpAny_Slice ?_;rw [evalPart_none];refine Qe (Qe ?_);refine thn ((Mh (cl:=cl) λ B=>kA (hs B)) pz s2 σ H1 (λ o H2=>∃ F2,Same F1 F2/\MR X.K cl θ1 F2 H2 s1/\o=some (-1)) I1 ⟨θ1,F1,⟨w.η,s1⟩,some (-1),m1,v.mono p1 q1,FJ hy,λ F2 H2 q2 m2=>⟨F2,q2,m2,rfl⟩⟩) λ vs s3 ⟨o,H2,I2,ps,F2,q2,m2,eo⟩=>?_;subst eo;have I4:Inv X pz σ H2 { s3 with heap:=s3.heap.push { cls:=.type "slice", data:=.fields #[.none,.none,vs] } }:=I2.kept (t':=s3.toks) λ b ob q=>PZ _ q;obtain ⟨a,xs,rfl,hq,rs⟩:=rx.lst;cases r1;obtain ⟨its,r,ht,hz⟩:=I4.list (m2.sm.seq (q2.seq hq));have hlen:=r.length;show Qs (Qq X.prog X.w) X.A (subscriptTail e (.Slice none none (some st) p2) (.ref a) (.ref s3.heap.objs.size)) (EP X pz σ Q) X.xe { s3 with heap:=s3.heap.push { cls:=.type "slice", data:=.fields #[.none,.none,vs] } };refine tail_any (ops:=[.ref a,.ref s3.heap.objs.size]) ht.isList.typeIs slot_list_getitem.lookup ?_ (hsub _ _);refine wpAny_getItem_list_slice ht.isList (Heap.IsSliceOf.new ..) .none .none ps (by decide) ?_ (by rw [P6] <;> omega);rw [PySem.W.krv_pick,show its.toArray.toList.reverse=its.reverse by simp];have g3:∀ l,H2 l=none->Gr F2 H2 (upd F2 l (.lst xs.reverse)) (upd H2 l (.lst xs.reverse)):=λ l hl=>Gr.one m2.sm hl;have fr:=I4.hok.fresh (PV _);refine ⟨.ref _,_,I4.laid (t':=s3.toks) (o:=.lst xs.reverse) (λ b ob q=>PZ _ q) (PV _) ?_,rfl,q _ θ1 _ _ p1 (q1.trans (q2.trans (g3 _ fr).ff)) (m2.grow (g3 _ fr)) (show Rel X.K _ (.list _) _ from kG (SqL.of aA) (rs.reverse.mono (q2.trans (g3 _ fr).ff)))⟩;refine ⟨by rw [QJ]; exact hz,its.reverse,0,?_,Qn _ rfl⟩;exact r.reverse
  ·cases hd3
end
def Cc (f:MF):MF:=λ w=>(f w).bind λ r=>match r.1 with
 | .d (.list xs)=>some (.r r.2.length,r.2++[.lst (xs.map .d)])
 | _=>none
section
variable {X:Cx} {cl:Nat->Qd} {e:Expr} {f:MF} {pos pp:Pos}
theorem ME.listC (hm:X.mg "list" = none) (ha:ME X cl e f) (hg:Gl X "list" := by rfl) (he:PX [e] X.env=(false,eval e X.env)::PX [] X.env:=by exact bS rfl):ME X cl (.Call (.Name "list" pp) [e] [] pos) (Cc f) :=
 PE.imp (xJ Au hg hm (by decide +kernel) (ag ha aQ he) (by decide) (by decide) he (iN rfl)) λ σ H Q ⟨θ,F,w,d,s',m,v,hf,q⟩=>by
  obtain ⟨⟨d1,s1⟩,h1,hf⟩:=ac hf;dsimp only at hf;split at hf
  ·rename_i _ xs;cases hf;refine ⟨θ,F,w,[.d (.list xs)],s1,m,v,ar h1 cw,λ vs θ1 F1 H1 p1 q1 m1 r1=>?_⟩;cases r1 with
   | cons ra rn =>
    cases rn;obtain ⟨b,zs,rfl,hq,r3⟩:=(show Rel X.K F1 (.list xs) _ from ra).lst;refine ⟨b,zs,rfl,m1.sm.seq hq,λ p hp=>?_⟩;have pp:θ1<+:θ1++[p]:=QM _ _;exact q _ (θ1++[p]) F1 _ (p1.trans pp) q1 (m1.new hp ⟨m1.sm.free hp,zs,aA,(BO r3).mono pp (.refl _)⟩) ⟨p,ur m1.len,rfl⟩
  ·cases hf
theorem GK {w:Wd} {xs:List PD} {s:Sto} (h:f w=some (.d (.list xs),s)):Cc f w=some (.r s.length,s++[.lst (xs.map .d)]):=by
 unfold Cc;rw [h]; rfl
end
def caF (a b c d:Qd):Nat->Qd
 | 0=>a
 | 1=>b
 | 2=>c
 | _=>d
def kits (K:PH) (ca:Nat->Qd):Bool:=(List.range 4).all λ c=>QW K (.ref (ca c)) (.type "ValueError")==some true&&(List.range 4).all λ i=>QW K (.ref (ca c)) (.ref (ca i))==some (decide (c=i))
theorem refs_mk {b c d:Qd} (xa:XCls K a) (xb:XCls K b) (xc:XCls K c) (xd:XCls K d) (h:kits K (caF a b c d)=true):Refs K (caF a b c d):=by
 unfold kits at h;rw [Ri] at h;refine ⟨λ i hi=>?_,λ i j hi hj=>?_,λ i hi=>?_⟩
 ·have q:i=0\/i=1\/i=2\/i=3:=by omega
  rcases q with rfl | rfl | rfl | rfl
  ·exact xa
  ·exact xb
  ·exact xc
  ·exact xd
 ·have z:=h i (QN.mpr hi);rw [Qp,Ri] at z;exact beq_iff_eq.mp (z.2 j (QN.mpr hj))
 ·have z:=h i (QN.mpr hi);rw [Qp] at z;exact beq_iff_eq.mp z.1
def mros (K:PH) (ca:Nat->Qd) (T:Qd):Bool:=(List.range 4).all λ c=>Q2 K (ca c) (.ref T)==some true
theorem mro_mk {ca:Nat->Qd} {T:Qd} (h:mros K ca T=true):∀ c,c < 4->Q2 K (ca c) (.ref T)=some true:=λ c hc=>by
 unfold mros at h;rw [Ri] at h;exact beq_iff_eq.mp (h c (QN.mpr hc))
theorem oA {X:Cx} {scope:Scope} {s:PQ} {H:Hp} {fp:List Qd} {pos:Pos} (i:Nat) {x:Str} (hN:N'.Nodup:=by decide +kernel) (hi:(b7 X scope N' s H fp).N[i]?=some x:=by rfl) (hx:Loc (b7 X scope N' s H fp).env.scope x:=by exact Or.inl rfl) (hf:(b7 X scope N' s H fp).fn x=true\/(b7 X scope N' s H fp).env.scope.names.lookup x=some .local:=by exact .inr rfl):PG (b7 X scope N' s H fp) (.Name x pos) (xj i):=dR hN hi hx hf
end L2.PU
namespace K20
open PySem L2 L2.PU
abbrev tpF:List PD->Option PD:=λ ds=>if ds.length<=P4 then some (.tuple ds) else none
abbrev DFn:=List D->Sto->Option (D×Sto)
abbrev PFn:=List PD->Option PD
def top (i:Nat):Stmt:=PySem.Challenge.pw_touchtree_k20_hands.main.body.getD i (.Pass ⟨0,0,0,0⟩)
abbrev uh:Stmt:=top 41
abbrev sX:Stmt:=top 42
abbrev ju:Stmt:=top 43
abbrev oh:Stmt:=iG (top 39) 0
abbrev ug:Stmt:=top 53
abbrev rG:Stmt:=top 47
abbrev qQ:Stmt:=top 48
abbrev pC:Stmt:=top 49
abbrev qR:Stmt:=top 44
abbrev ue:Stmt:=top 45
abbrev pE:Stmt:=top 50
abbrev nR:Stmt:=top 51
abbrev lK:Stmt:=top 52
abbrev oJ:Stmt:=iG (top 38) 0
abbrev oI:Stmt:=iG (top 39) 1
abbrev mw:Stmt:=iG (top 38) 1
abbrev qP:Stmt:=top 17
abbrev yq:Stmt:=top 15
abbrev zE:Stmt:=top 18
abbrev wy:Stmt:=top 19
abbrev wx:Stmt:=top 16
abbrev vq:Stmt:=top 25
abbrev qO:Stmt:=top 29
abbrev mv:Stmt:=top 20
abbrev wz:Stmt:=top 27
abbrev uc:Stmt:=top 28
abbrev qp:Stmt:=top 30
abbrev ud:Stmt:=top 26
abbrev vt:Stmt:=top 31
abbrev C1:Stmt:=top 32
abbrev vp:Stmt:=top 33
abbrev yp:Stmt:=top 36
abbrev lL:Stmt:=iG (top 38) 2
abbrev nC:Stmt:=iG (top 39) 2
abbrev rM:Stmt:=iG (top 39) 3
abbrev qr:Stmt:=iG (top 38) 3
abbrev rN:Stmt:=iG (top 38) 4
abbrev ui:Stmt:=iG (top 39) 4
abbrev sY:Stmt:=top 56
abbrev rK:Stmt:=iG (top 39) 5
abbrev uf:Stmt:=top 55
abbrev rL:Stmt:=iG (top 39) 6
abbrev rJ:Stmt:=iG (top 39) 8
abbrev pG:Stmt:=iG (top 39) 7
abbrev og:Stmt:=top 57
abbrev sE:Stmt:=top 14
abbrev nB:Stmt:=top 37
abbrev qt:Stmt:=iG (top 38) 5
abbrev lY:Stmt:=iG (top 39) 9
abbrev rH:Stmt:=top 58
abbrev zD:Stmt:=top 59
abbrev qq:Stmt:=top 54
structure Adr where
 (C_Hand C_Hands gF fM fK cC gE eD iz gC iA gB c8 iy fL cQ cP bZ iw f6 me jl jk ir io jo jm gz kx gA iu qf iq kz fO eI eM dF eN gG fN ce gD eJ eG c9 cz jn eB dG de eE sw hU nQ nP kP jJ jI:Qd)
 (gw fH fF cy gu dZ il gp im gn c0 ik fG cN cM bY ij fZ md jf je ig ic ji jg gl kr gm ii qb ie kt fJ d8 ee dD eA gx fI cb gq d9 d7 c6 cx jh dY dE c7 d6 sk hJ:QX)
 (t_AROUND t_CUTS_OFF t_HEIGHT t_HIDDEN t_LEFT t_LETS_BY t_LONGEST_DOUBLE t_MARKS t_NAME t_TOP t_WIDTH:Tok)
abbrev kj:List Str:=["_law_script", "_law_k"]
abbrev jy:List Str:=["_law_script", "_law_k", "_law_many"]
abbrev jw:List Str:=["_law_script", "_law_at"]
abbrev fj:List Str:=["self", "scene"]
abbrev iP:List Str:=["_law_scene_here", "_law_around", "_law_left", "_law_top", "_law_cuts"]
abbrev lx:List Str:=["_law_areas", "_law_x", "_law_y"]
abbrev kh:List Str:=["_law_scene_here", "_law_x", "_law_y"]
abbrev ly:List Str:=["_law_scene_here", "_law_name"]
abbrev kg:List Str:=["_law_scene_here", "_law_name"]
abbrev gh:List Str:=["_law_scene_here", "_law_x", "_law_y"]
abbrev lv:List Str:=["_law_hand_here", "_law_path_here"]
abbrev jx:List Str:=["_law_scene_here", "_law_hand_here", "_law_way", "_law_moment", "_law_x", "_law_y"]
abbrev fS:List Str:=["self"]
abbrev fR:List Str:=["self", "hand"]
abbrev du:List Str:=["self", "word"]
abbrev lu:List Str:=["scene", "name"]
abbrev i7:List Str:=["scene", "name"]
abbrev pK:List Str:=["scene", "name"]
abbrev my:List Str:=["scene"]
abbrev mx:List Str:=["scene", "name"]
abbrev lm:List Str:=["scene", "name", "mark"]
abbrev lh:List Str:=["scene", "name"]
abbrev mF:List Str:=["scene", "name"]
abbrev mz:List Str:=["one", "other"]
abbrev ke:List Str:=["scene", "name"]
abbrev oj:List Str:=["scene"]
abbrev kf:List Str:=["area", "x", "y"]
abbrev ln:List Str:=["rows", "x", "y"]
abbrev uk:List Str:=["scene", "x", "y"]
abbrev lj:List Str:=["scene", "x", "y"]
abbrev ol:List Str:=["one", "other"]
abbrev jA:List Str:=["self", "path"]
abbrev iR:List Str:=["self", "hand", "moment", "x", "y"]
abbrev iT:List Str:=["self", "hand", "moment", "x", "y"]
abbrev gX:List Str:=["self", "path"]
abbrev iU:List Str:=["self", "name", "moment"]
abbrev kl:List Str:=["self", "hand", "moment", "x", "y"]
abbrev jz:List Str:=["_law_hands", "_law_way", "_law_number", "_law_moment", "_law_x", "_law_y"]
abbrev dg:List Str:=["self", "hand", "name"]
abbrev ki:List Str:=["_law_hands", "_law_number", "_law_name"]
abbrev iS:List Str:=["self", "hand"]
abbrev iQ:List Str:=["self", "hand"]
abbrev gi:List Str:=["self", "hand"]
abbrev mE:List Str:=["scene", "name"]
abbrev iO:List Str:=["scene", "names"]
abbrev gY:List Str:=["self", "scene"]
abbrev gj:List Str:=["self", "scene"]
abbrev qu:List Str:=["_law_e"]
structure Tx (K:PH) (mg:Str->Option PP) (t:Adr):Prop where
 D8:mg "Hand" = some (.ref t.C_Hand)
 oa:mg "Hands" = some (.ref t.C_Hands)
 D7:Mk K t.C_Hand t.cQ
 n8:Mk K t.C_Hands t.cC
 z8:mg "_law_cell" = some (.ref t.gF)
 bL:mg "_law_drawn" = some (.ref t.fM)
 yR:mg "_law_scene" = some (.ref t.fK)
 pM:mg "_law_hand" = some (.ref t.gE)
 rT:mg "_law_spread" = some (.ref t.eD)
 A2:mg "_law_has" = some (.ref t.iz)
 z0:mg "_law_hits" = some (.ref t.gC)
 vA:mg "_law_box" = some (.ref t.iA)
 zZ:mg "_law_path" = some (.ref t.gB)
 v9:mg "_law_hit_path" = some (.ref t.c8)
 qW:mg "_law_led" = some (.ref t.iy)
 tf:mg "_law_event" = some (.ref t.fL)
 cv:Meth K t.C_Hands "hand_of" t.cP
 iV:Meth K t.C_Hand "tell_holder" t.bZ
 vz:mg "children" = some (.ref t.iw)
 km:mg "box_of" = some (.ref t.f6)
 zY:mg "below" = some (.ref t.me)
 B8:mg "painted" = some (.ref t.jl)
 mH:mg "path_of" = some (.ref t.jk)
 qV:mg "has_mark" = some (.ref t.ir)
 A0:mg "is_shown" = some (.ref t.io)
 wS:mg "area_of" = some (.ref t.jo)
 B9:mg "overlap" = some (.ref t.jm)
 zW:mg "window_of" = some (.ref t.gz)
 Dq:mg "takers" = some (.ref t.kx)
 zX:mg "has_point" = some (.ref t.gA)
 A1:mg "first_at" = some (.ref t.iu)
 Ii:mg "hit" = some (.ref t.qf)
 qU:mg "hit_path" = some (.ref t.iq)
 yt:mg "shared" = some (.ref t.kz)
 nE:Meth K t.C_Hand "lead" t.fO
 wO:Meth K t.C_Hands "move" t.eI
 jP:Meth K t.C_Hands "down" t.eM
 v7:Meth K t.C_Hand "let_go" t.dF
 wQ:Meth K t.C_Hand "click" t.eN
 lM:Meth K t.C_Hands "up" t.gG
 ti:mg "_law_asked" = some (.ref t.fN)
 mG:Meth K t.C_Hands "hold" t.ce
 z7:mg "_law_held" = some (.ref t.gD)
 wP:Meth K t.C_Hands "free" t.eJ
 jO:Meth K t.C_Hands "over" t.eG
 oM:Meth K t.C_Hands "holder" t.c9
 ut:mg "_law_held_click" = some (.ref t.cz)
 wR:mg "has_box" = some (.ref t.jn)
 rS:mg "still_there" = some (.ref t.eB)
 v8:Meth K t.C_Hand "forget" t.dG
 oN:Meth K t.C_Hands "change" t.de
 xS:mg "_law_clicks" = some (.ref t.eE)
 Ig:mg "law" = some (.ref t.sw)
 wT:mg "_law_refused" = some (.ref t.hU)
 yn:mg "AROUND" = some (.int (1) t.t_AROUND)
 AO:mg "CUTS_OFF" = some (.str "c" t.t_CUTS_OFF)
 CK:mg "HEIGHT" = some (.int (5) t.t_HEIGHT)
 CJ:mg "HIDDEN" = some (.str "h" t.t_HIDDEN)
 Gj:mg "LEFT" = some (.int (2) t.t_LEFT)
 BF:mg "LETS_BY" = some (.str "l" t.t_LETS_BY)
 u0:mg "LONGEST_DOUBLE" = some (.int (20) t.t_LONGEST_DOUBLE)
 Ea:mg "MARKS" = some (.int (6) t.t_MARKS)
 rB:mg "NAME" = some (.int (0) t.t_NAME)
 G5:mg "TOP" = some (.int (3) t.t_TOP)
 D9:mg "WIDTH" = some (.int (4) t.t_WIDTH)
 yF:mg "ValueError" = none
 CI:mg "any" = none
 tZ:mg "enumerate" = none
 wm:mg "int" = none
 jr:mg "isinstance" = none
 tY:mg "len" = none
 Be:mg "list" = none
 zm:mg "max" = none
 zl:mg "min" = none
 pj:mg "range" = none
 vn:mg "reversed" = none
 CH:mg "sorted" = none
 CG:mg "sum" = none
 D6:mg "tuple" = none
 G4:mg "zip" = none
 z9:mg "NoBox" = some (.ref t.nQ)
 EB:mg "Taken" = some (.ref t.nP)
 Ca:mg "TooMany" = some (.ref t.kP)
 A3:mg "NoNumber" = some (.ref t.jJ)
 yS:mg "TouchError" = some (.ref t.jI)
 hZ:Cls K t.C_Hand
 aJ:Cls K t.C_Hands
 pk:NoAttr K t.C_Hand "clicked"
 kW:NoAttr K t.C_Hand "clicked_moment"
 dS:NoAttr K t.C_Hand "held_by"
 gM:NoAttr K t.C_Hand "pressed_at"
 nv:NoAttr K t.C_Hand "trail"
 nr:NoAttr K t.C_Hand "was_double"
 wn:NoAttr K t.C_Hands "known"
 ql:NoAttr K t.C_Hands "scene"
 cX:Fun K "_law_cell" "_law_cell" uh t.gF t.gw
 av:Fun K "_law_drawn" "_law_drawn" sX t.fM t.fH
 dM:Fun K "_law_scene" "_law_scene" ju t.fK t.fF
 a6:Fun K "__init__" "Hands.__init__" oh t.cC t.cy
 bE:Fun K "_law_hand" "_law_hand" ug t.gE t.gu
 bB:Fun K "_law_spread" "_law_spread" rG t.eD t.dZ
 f9:Fun K "_law_has" "_law_has" qQ t.iz t.il
 gK:Fun K "_law_hits" "_law_hits" pC t.gC t.gp
 cg:Fun K "_law_box" "_law_box" qR t.iA t.im
 gJ:Fun K "_law_path" "_law_path" ue t.gB t.gn
 aB:Fun K "_law_hit_path" "_law_hit_path" pE t.c8 t.c0
 bq:Fun K "_law_led" "_law_led" nR t.iy t.ik
 bn:Fun K "_law_event" "_law_event" lK t.fL t.fG
 cR:Fun K "__init__" "Hand.__init__" oJ t.cQ t.cN
 aw:Fun K "hand_of" "Hands.hand_of" oI t.cP t.cM
 aF:Fun K "tell_holder" "Hand.tell_holder" mw t.bZ t.bY
 bF:Fun K "children" "children" qP t.iw t.ij
 aK:Fun K "box_of" "box_of" yq t.f6 t.fZ
 eU:Fun K "below" "below" zE t.me t.md
 fe:Fun K "painted" "painted" wy t.jl t.jf
 aS:Fun K "path_of" "path_of" wx t.jk t.je
 bj:Fun K "has_mark" "has_mark" vq t.ir t.ig
 f8:Fun K "is_shown" "is_shown" qO t.io t.ic
 cZ:Fun K "area_of" "area_of" mv t.jo t.ji
 fW:Fun K "overlap" "overlap" wz t.jm t.jg
 fq:Fun K "window_of" "window_of" uc t.gz t.gl
 kC:Fun K "takers" "takers" qp t.kx t.kr
 bO:Fun K "has_point" "has_point" ud t.gA t.gm
 iC:Fun K "first_at" "first_at" vt t.iu t.ii
 qj:Fun K "hit" "hit" C1 t.qf t.qb
 aL:Fun K "hit_path" "hit_path" vp t.iq t.ie
 f7:Fun K "shared" "shared" yp t.kz t.kt
 br:Fun K "lead" "Hand.lead" lL t.fO t.fJ
 dh:Fun K "move" "Hands.move" nC t.eI t.d8
 bi:Fun K "down" "Hands.down" rM t.eM t.ee
 dJ:Fun K "let_go" "Hand.let_go" qr t.dF t.dD
 cK:Fun K "click" "Hand.click" rN t.eN t.eA
 bP:Fun K "up" "Hands.up" ui t.gG t.gx
 bN:Fun K "_law_asked" "_law_asked" sY t.fN t.fI
 bQ:Fun K "hold" "Hands.hold" rK t.ce t.cb
 fu:Fun K "_law_held" "_law_held" uf t.gD t.gq
 gf:Fun K "free" "Hands.free" rL t.eJ t.d9
 bC:Fun K "over" "Hands.over" rJ t.eG t.d7
 cE:Fun K "holder" "Hands.holder" pG t.c9 t.c6
 cD:Fun K "_law_held_click" "_law_held_click" og t.cz t.cx
 dI:Fun K "has_box" "has_box" sE t.jn t.jh
 cf:Fun K "still_there" "still_there" nB t.eB t.dY
 cS:Fun K "forget" "Hand.forget" qt t.dG t.dE
 df:Fun K "change" "Hands.change" lY t.de t.c7
 eW:Fun K "_law_clicks" "_law_clicks" rH t.eE t.d6
 uS:Fun K "law" "law" zD t.sw t.sk
 qK:Fun K "_law_refused" "_law_refused" qq t.hU t.hJ
 AB:Binds K t.gw kj []
 bM:Binds K t.fH jy []
 yY:Binds K t.fF jw []
 fm:Binds K t.cy fj []
 qc:Binds K t.gu [] []
 su:Binds K t.dZ iP []
 A7:Binds K t.il lx []
 Az:Binds K t.gp kh []
 vQ:Binds K t.im ly []
 Ay:Binds K t.gn kg []
 wg:Binds K t.c0 gh []
 rq:Binds K t.ik lv []
 tL:Binds K t.fG jx []
 vj:Binds K t.cN fS []
 cO:Binds K t.cM fR []
 jj:Binds K t.bY du []
 vP:Binds K t.ij lu []
 ku:Binds K t.fZ i7 []
 Ax:Binds K t.md pK []
 Ct:Binds K t.jf my []
 mY:Binds K t.je mx []
 ro:Binds K t.ig lm []
 A5:Binds K t.ic lh []
 xo:Binds K t.ji mF []
 Cu:Binds K t.jg mz []
 Av:Binds K t.gl ke []
 DZ:Binds K t.kr oj []
 Aw:Binds K t.gm kf []
 A6:Binds K t.ii ln []
 IX:Binds K t.qb uk []
 rj:Binds K t.ie lj []
 yE:Binds K t.kt ol []
 oC:Binds K t.fJ jA []
 xZ:Binds K t.d8 iR []
 kO:Binds K t.ee iT []
 xq:Binds K t.dD gX []
 yb:Binds K t.eA iU []
 mZ:Binds K t.gx kl []
 tN:Binds K t.fI jz []
 nO:Binds K t.cb dg []
 AA:Binds K t.gq ki []
 ya:Binds K t.d9 iS []
 kN:Binds K t.d7 iQ []
 qd:Binds K t.c6 gi []
 uM:Binds K t.cx [] []
 xn:Binds K t.jh mE []
 sq:Binds K t.dY iO []
 xr:Binds K t.dE gY []
 qe:Binds K t.c7 gj []
 xY:Binds K t.d6 [] []
 OB:Binds K t.sk ["_law_script"] []
 xp:Binds K t.hJ qu []
 BE:Refs K (caF t.nQ t.nP t.kP t.jJ)
 xB:Rb K t.jI E7 "ValueError.__new__" = true
 mro:∀ c,c < 4->Q2 K (caF t.nQ t.nP t.kP t.jJ c) (.ref t.jI)=some true
theorem tx_ex {K:PH} {mg:Str->Option PP} {C_Hand C_Hands gF fM fK cC gE eD iz gC iA gB c8 iy fL cQ cP bZ iw f6 me jl jk ir io jo jm gz kx gA iu qf iq kz fO eI eM dF eN gG fN ce gD eJ eG c9 cz jn eB dG de eE sw hU nQ nP kP jJ jI:Qd} {gw fH fF cy gu dZ il gp im gn c0 ik fG cN cM bY ij fZ md jf je ig ic ji jg gl kr gm ii qb ie kt fJ d8 ee dD eA gx fI cb gq d9 d7 c6 cx jh dY dE c7 d6 sk hJ:QX} {t_AROUND t_CUTS_OFF t_HEIGHT t_HIDDEN t_LEFT t_LETS_BY t_LONGEST_DOUBLE t_MARKS t_NAME t_TOP t_WIDTH:Tok} (tx:Tx K mg ⟨C_Hand,C_Hands,gF,fM,fK,cC,gE,eD,iz,gC,iA,gB,c8,iy,fL,cQ,cP,bZ,iw,f6,me,jl,jk,ir,io,jo,jm,gz,kx,gA,iu,qf,iq,kz,fO,eI,eM,dF,eN,gG,fN,ce,gD,eJ,eG,c9,cz,jn,eB,dG,de,eE,sw,hU,nQ,nP,kP,jJ,jI,gw,fH,fF,cy,gu,dZ,il,gp,im,gn,c0,ik,fG,cN,cM,bY,ij,fZ,md,jf,je,ig,ic,ji,jg,gl,kr,gm,ii,qb,ie,kt,fJ,d8,ee,dD,eA,gx,fI,cb,gq,d9,d7,c6,cx,jh,dY,dE,c7,d6,sk,hJ,t_AROUND,t_CUTS_OFF,t_HEIGHT,t_HIDDEN,t_LEFT,t_LETS_BY,t_LONGEST_DOUBLE,t_MARKS,t_NAME,t_TOP,t_WIDTH⟩):∃ t,Tx K mg t:=⟨_,tx⟩
end K20
section
open PySem PySem.W PyProof.Rows
set_option maxHeartbeats 0 in
theorem K20.tx:∃ K:Params->Frag,(∀ w h,K20.hk.H.says w h->(K w.params).In h)/\∀ (P:Params) (mg:Str->Option PP) (h:Heap),(K P).In h->h.Ns mainGlobals mg->∃ t,K20.Tx (K P) mg t:=by
 refine' L2.PU.tx_mk (H:=K20.hk.H) (T:=λ K mg=>∃ t,K20.Tx K mg t) (λ w h Y=>show InK _ w h from Y) ?tx
 (case tx =>
  refine (λ (f:PySem.Challenge.rw_touchtree_k20_hands=PySem.Challenge.rw_touchtree_k20_hands->_)=>f rfl) ?_
  k_fill
  intro _ P mg h KX G
  refine' K20.tx_ex ?t2
  case t2 =>
   constructor
   all_goals first
   | exact mg_of KX G (by k_is)
   | exact mg_none_of KX G (by k_is)
   | exact L2.PU.na_mk (by k_is)
   | exact L2.fun_mk (by k_is) (by k_is) (by (try dsimp only); k_is)
   | exact L2.PU.bi_mk (by (repeat' intro _); exact rfl)
   | (constructor <;> (try dsimp only) <;> k_is)
   | exact L2.PU.refs_mk ⟨by kernel_rfl,by k_is,by k_is,by k_is,by k_is,by k_is,by k_is,by k_is⟩ ⟨by kernel_rfl,by k_is,by k_is,by k_is,by k_is,by k_is,by k_is,by k_is⟩ ⟨by kernel_rfl,by k_is,by k_is,by k_is,by k_is,by k_is,by k_is,by k_is⟩ ⟨by kernel_rfl,by k_is,by k_is,by k_is,by k_is,by k_is,by k_is,by k_is⟩ (by kernel_rfl)
   | exact L2.PU.mro_mk (by kernel_rfl)
   | kernel_rfl
)
end
namespace K20
open PySem L2 L2.PU
def cl (t:Adr):Nat->Qd
 | 0=>t.C_Hand
 | _=>t.C_Hands
def ca (t:Adr):Nat->Qd:=caF t.nQ t.nP t.kP t.jJ
section
variable {Pr:Ql} {w:World} {K:PH} {mg:Str->Option PP} {base:Heap} {t:Adr}
section
variable {k:Nat} {uC tq rY vJ vK uz uy pT vI oQ yB vH Ag wY vF xh xf wZ vD uw ux yz vG DA yA oP mJ vE tw qA sh r8 se uD r9 oq uB tm tu xg rX qB pV tj uA sd r6 pU on rZ:Nat}
variable {lU aE cn mX kq lS lR iI bD gk ko bv cW lE nY nX mU lP lQ o9 mW uX jb cV ib hE kL:PFn}
variable {iY hG ax a7 b9 jc jX jV cq cY dC aV dL dW dX jd fU lT jW dz fT gO jU:DFn}
variable (tx:Tx K mg t)
variable (ni:FnOk Pr w K mg base CX0 uC t.gF t.gw kj (spP K lU)) (tJ:uC<=k)
variable (aY:FnOk Pr w K mg base CX0 tq t.fM t.fH jy (spP K aE)) (bh:tq<=k)
variable (eP:FnOk Pr w K mg base CX0 rY t.eD t.dZ iP (spP K cn)) (jQ:rY<=k)
variable (n6:FnOk Pr w K mg base CX0 vJ t.iz t.il lx (spP K mX)) (uG:vJ<=k)
variable (lF:FnOk Pr w K mg base CX0 vK t.iA t.im ly (spP K kq)) (pW:vK<=k)
variable (ng:FnOk Pr w K mg base CX0 uz t.gC t.gp kh (spP K lS)) (tG:uz<=k)
variable (m9:FnOk Pr w K mg base CX0 uy t.gB t.gn kg (spP K lR)) (tF:uy<=k)
variable (jq:FnOk Pr w K mg base CX0 pT t.c8 t.c0 gh (spP K iI)) (oR:pT<=k)
variable (jK:FnOk Pr w K mg base CX0 vI t.iy t.ik lv (spM K (cl t) iY)) (mM:vI<=k)
variable (iK:FnOk Pr w K mg base CX0 oQ t.cQ t.cN fS (spM K (cl t) hG)) (ot:oQ+1<=k)
variable (bV:FnOk Pr w K mg base CX0 yB t.f6 t.fZ i7 (spP K bD)) (dw:yB<=k)
variable (iB:FnOk Pr w K mg base CX0 vH t.iw t.ij lu (spP K gk)) (mL:vH<=k)
variable (mf:FnOk Pr w K mg base CX0 Ag t.me t.md pK (spP K ko)) (qC:Ag<=k)
variable (bK:FnOk Pr w K mg base CX0 wY t.jk t.je mx (spP K bv)) (dm:wY<=k)
variable (dt:FnOk Pr w K mg base CX0 vF t.ir t.ig lm (spP K cW)) (iX:vF<=k)
variable (m8:FnOk Pr w K mg base CX0 xh t.jo t.ji mF (spP K lE)) (qY:xh<=k)
variable (pi:FnOk Pr w K mg base CX0 xf t.jm t.jg mz (spP K nY)) (vM:xf<=k)
variable (ph:FnOk Pr w K mg base CX0 wZ t.jl t.jf my (spP K nX)) (vL:wZ<=k)
variable (n4:FnOk Pr w K mg base CX0 vD t.io t.ic lh (spP K mU)) (uE:vD<=k)
variable (m6:FnOk Pr w K mg base CX0 uw t.gz t.gl ke (spP K lP)) (tz:uw<=k)
variable (m7:FnOk Pr w K mg base CX0 ux t.gA t.gm kf (spP K lQ)) (tD:ux<=k)
variable (qJ:FnOk Pr w K mg base CX0 yz t.kx t.kr oj (spP K o9)) (xi:yz<=k)
variable (n5:FnOk Pr w K mg base CX0 vG t.iu t.ii ln (spP K mW)) (uF:vG<=k)
variable (xz:FnOk Pr w K mg base CX0 DA t.qf t.qb uk (spP K uX)) (Bu:DA<=k)
variable (kB:FnOk Pr w K mg base CX0 yA t.kz t.kt ol (spP K jb)) (oW:yA<=k)
variable (az:FnOk Pr w K mg base CX0 oP t.cP t.cM fR (spM K (cl t) ax)) (aR:oP<=k)
variable (a9:FnOk Pr w K mg base CX0 mJ t.bZ t.bY du (spM K (cl t) a7)) (cr:mJ<=k)
variable (dq:FnOk Pr w K mg base CX0 vE t.iq t.ie lj (spP K cV)) (iW:vE<=k)
variable (cG:FnOk Pr w K mg base CX0 tw t.fO t.fJ jA (spM K (cl t) b9)) (gd:tw<=k)
variable (jY:FnOk Pr w K mg base CX0 qA t.dF t.dD gX (spM K (cl t) jc)) (pX:qA<=k)
variable (kT:FnOk Pr w K mg base CX0 sh t.eN t.eA iU (spM K (cl t) jX)) (qG:sh<=k)
variable (kR:FnOk Pr w K mg base CX0 r8 t.eI t.d8 iR (spM K (cl t) jV)) (qE:r8<=k)
variable (cJ:FnOk Pr w K mg base CX0 se t.eM t.ee iT (spM K (cl t) cq)) (fB:se<=k)
variable (dH:FnOk Pr w K mg base CX0 uD t.gG t.gx kl (spM K (cl t) cY)) (gT:uD<=k)
variable (eS:FnOk Pr w K mg base CX0 r9 t.ce t.cb dg (spM K (cl t) dC)) (jR:r9<=k)
variable (aZ:FnOk Pr w K mg base CX0 oq t.cC t.cy fj (spM K (cl t) aV)) (bH:oq+1<=k)
variable (fo:FnOk Pr w K mg base CX0 uB t.gE t.gu [] (spM K (cl t) dL)) (jE:uB<=k)
variable (fP:FnOk Pr w K mg base CX0 tm t.fL t.fG jx (spM K (cl t) dW)) (kH:tm<=k)
variable (fQ:FnOk Pr w K mg base CX0 tu t.fN t.fI jz (spM K (cl t) dX)) (kI:tu<=k)
variable (jp:FnOk Pr w K mg base CX0 xg t.jn t.jh mE (spP K ib)) (nU:xg<=k)
variable (i4:FnOk Pr w K mg base CX0 rX t.eB t.dY iO (spP K hE)) (mK:rX<=k)
variable (jZ:FnOk Pr w K mg base CX0 qB t.dG t.dE gY (spM K (cl t) jd)) (pY:qB<=k)
variable (gI:FnOk Pr w K mg base CX0 pV t.de t.c7 gj (spM K (cl t) fU)) (lc:pV<=k)
variable (lW:FnOk Pr w K mg base CX0 tj t.fK t.fF jw (spP K kL)) (sj:tj<=k)
variable (nh:FnOk Pr w K mg base CX0 uA t.gD t.gq ki (spM K (cl t) lT)) (tH:uA<=k)
variable (kS:FnOk Pr w K mg base CX0 sd t.eJ t.d9 iS (spM K (cl t) jW)) (qF:sd<=k)
variable (eQ:FnOk Pr w K mg base CX0 r6 t.eG t.d7 iQ (spM K (cl t) dz)) (g7:r6<=k)
variable (gH:FnOk Pr w K mg base CX0 pU t.c9 t.c6 gi (spM K (cl t) fT)) (lb:pU<=k)
variable (hV:FnOk Pr w K mg base CX0 on t.cz t.cx [] (spM K (cl t) gO)) (nu:on<=k)
variable (kQ:FnOk Pr w K mg base CX0 rZ t.eE t.d6 [] (spM K (cl t) jU)) (qD:rZ<=k)
theorem lX:aI ["_law_e", "_law_flags"] ["_law_e"] (ah qq):=b6
theorem xA (tx:Tx K mg t):FnC Pr w K mg base 1 t.hU t.hJ qu (spE K (ca t)) :=
 fnC (k:=0) tx.qK lX (λ vs H Q h=>by obtain ⟨x,c,F,rfl,_⟩:=h; rfl) λ cdv A outer s H vs Q h=>by
  obtain ⟨x,c,F,rfl,hc,hx,sm,q⟩:=h;refine ⟨_,?_,Ht tx.BE (tx:=λ _ _ _=>False) hc hx sm q⟩;exact oi (zI (i:=1) lX.nd rfl (Or.inl rfl) (BS (iF (BT tx.jr tx.z9) (iF (BT tx.jr tx.EB) (iF (BT tx.jr tx.Ca) pJ)))))
   (oi (zI (i:=1) lX.nd rfl (Or.inl rfl) (Dc op_catS (pv 1) (BS (iF (BT tx.jr tx.A3) pJ))))
    (oi (HB (PW.pt (pw_or (BP Oa (Bk PySem.F.plainAttrs_list PySem.F.slot_list_count PySem.F.type_list_count Mx (pv 1) (iF HS pJ)) HL (nomark _)) (pw_or1 (Em (El (Mn tx.jr tx.yF (by decide +kernel))))))) PSs.no BQ)
     (za (xH (Ep (iF Er (iF (Bk PySem.F.plainAttrs_list PySem.F.slot_list_index PySem.F.type_list_index Mw (pv 1) (iF HS pJ)) pJ)))))))
abbrev AI:List Str:=["_law_script", "_law_k"]
theorem yI:aI AI kj (ah uh):=b6
def mQ  : En->Option Out :=
 (cT (sIf (bT (l2 pEq (eV 0) (oE (λ η=>(aN η).bind gL)))) (gP (l2 lz (eC (.int 7)) (eV 1))) sNx)
  (gP (l2 aH (l2 pIx (eV 0) (l2 rQ (eV 1) (lA va (aC (eV 0) aN)))) (l2 lz (eC (.int 6553)) (l2 um (eV 1) (lA va (aC (eV 0) aN)))))))
include tx in
theorem yP:FnOk Pr w K mg base CX0 (k+1) t.gF t.gw kj (spP K (cI 2 2 (mQ))) :=
 fnP tx.cX yI λ _ _ _ _ _ _ _ hr =>
  (@bf _ _ _ _ _ _ (@S.ifS _ _ _ _ _ _ _ _ _ (yc hr (ay 0) (bc (bA au))) (@bt _ _ _ _ (iE (sD aq (ay 1)))) Ss.nil)
  (@bt _ _ _ _ (iE (bW (di (ay 0) (E.mod (ay 1) (E.len tx.tY (ae (ay 0) au)))) (sD aq (E.fdiv (ay 1) (E.len tx.tY (ae (ay 0) au))))))))
abbrev yZ:List Str:=["_law_script", "_law_k", "_law_many", "_law_cell_here"]
theorem nz:aI yZ jy (ah sX):=b6
def lO (lU:PFn):En->Option Out :=
 (cT (fC 3 (l2 rQ (l2 aH (l2 lz (l2 rQ (lA lU (aC (eV 0) (aC (eV 1) aN))) (eC (.int 2147483563))) (eC (.int 69069))) (l2 lz (eC (.int 104723)) (l2 aH (eV 1) (eC (.int 1))))) (eC (.int 2147483563))))
  (cT (fC 3 (l2 rQ (l2 aH (l2 lz (eV 3) (eV 3)) (l2 um (eV 3) (eC (.int 3)))) (eC (.int 2147483399))))
  (gP (l2 rQ (l2 um (l2 rQ (l2 aH (l2 lz (eV 3) (eV 3)) (l2 um (eV 3) (eC (.int 7)))) (eC (.int 2147483647))) (eC (.int 11))) (eV 2)))))
include tx ni tJ in
theorem xM:FnOk Pr w K mg base CX0 (k+1) t.fM t.fH jy (spP K (cI 3 4 (lO lU))) :=
 fnP tx.av nz λ _ _ _ _ _ _ _ hr =>
  (@bf _ _ _ _ _ _ (iZ 3 nz.nd (E.mod (bW (sD (E.mod (aX ni hr tJ tx.z8 tx.cX.kp tx.AB (ae (ay 0) (ae (ay 1) au))) aq) aq) (sD aq (bW (ay 1) aq))) aq))
  (@bf _ _ _ _ _ _ (iZ 3 nz.nd (E.mod (bW (sD (ay 3) (ay 3)) (E.fdiv (ay 3) aq)) aq))
  (@bt _ _ _ _ (iE (E.mod (E.fdiv (E.mod (bW (sD (ay 3) (ay 3)) (E.fdiv (ay 3) aq)) aq) aq) (ay 2))))))
abbrev lV:List Str:=["_law_script", "_law_at", "_law_found", "_law_turn", "_law_k", "_law_here", "_law_around", "_law_places", "_law_sizes", "_law_marks", "_law_j", "_law_sign", "_law_name"]
theorem bg:aI lV jw (ah ju):=b6
def lN (aE:PFn):En->Option Out :=
 (cT (fC 2 (lA tpF aN))
  (cT (fC 3 (lA aE (aC (eV 0) (aC (l2 aH (eV 1) (eC (.int 1))) (aC (eC (.int 8)) aN)))))
  (cT (qS (λ η=>((aC (lA aE (aC (eV 0) (aC (eV 1) (aC (eC (.int 8)) aN)))) aN) η).bind rng1) (tgN 4)
  (cT (fC 5 (l2 aH (l2 aH (eV 1) (eC (.int 3))) (l2 lz (eC (.int 9)) (eV 4))))
  (cT (fC 6 (l2 pIx (l2 aH (oE (λ η=>((aC (eC (.str "")) aN) η).bind gL)) (oE (cm [none] (lI qk (eV 2)) (tgN 0) fg (l2 pIx (eV 0) (eC (.int 0)))))) (lA aE (aC (eV 0) (aC (eV 5) (aC (l2 aH (eV 4) (eC (.int 1))) aN))))))
  (cT (oK 7 (cm [none,some 0,some 5] (λ η=>((aC (eC (.int 2)) aN) η).bind rng1) (tgN 0) fg (l2 wB (lA aE (aC (eV 1) (aC (l2 aH (l2 aH (eV 2) (eC (.int 1))) (eV 0)) (aC (eC (.int 9)) aN)))) (eC (.int 3)))))
  (λ η=>(cT (oK 8 (cm [none,some 0,some 5] (λ η=>((aC (eC (.int 2)) aN) η).bind rng1) (tgN 0) fg (lA aE (aC (eV 1) (aC (l2 aH (l2 aH (eV 2) (eC (.int 3))) (eV 0)) (aC (eC (.int 9)) aN))))))
  (λ η=>(cT (fC 9 (eC (.str "")))
  (cT (qS (λ η=>((aC (eC (.str "cfhl")) aN) η).bind enS) (tgT (bG (tgN 10) (bG (tgN 11) kX)))
  (sIf (bT (l2 pEq (lA aE (aC (eV 0) (aC (l2 aH (l2 aH (eV 5) (eC (.int 5))) (eV 10)) (aC (l2 pIx (oE (λ η=>((aC (eC (.int 4)) (aC (eC (.int 2)) (aC (eC (.int 9)) (aC (eC (.int 6)) aN)))) η).bind gL)) (eV 10)) aN)))) (eC (.int 0)))) (fC 9 (l2 aH (eV 9) (eV 11))) sNx))
  (cT (fC 12 (l2 pIx (eC (.str "dbgahcfe")) (l2 rQ (l2 aH (eV 4) (eV 3)) (eC (.int 8)))))
  (fC 2 (l2 aH (eV 2) (lA tpF (aC (l2 aH (l2 aH (lA tpF (aC (eV 12) (aC (eV 6) aN))) (lA GB (aC (l2 aH (eV 7) (eV 8)) aN))) (lA tpF (aC (eV 9) aN))) aN))))))) (frz 8 η))) (frz 7 η))))))
  (gP (eV 2)))))
include tx aY bh in
theorem xK:FnOk Pr w K mg base CX0 (k+1) t.fK t.fF jw (spP K (cI 2 13 (lN aE))) :=
 fnP tx.dM bg λ _ _ _ _ _ _ _ hr =>
  (@bf _ _ _ _ _ _ (iZ 2 bg.nd (i6 au))
  (@bf _ _ _ _ _ _ (iZ 3 bg.nd (aX aY hr bh tx.bL tx.av.kp tx.bM (ae (ay 0) (ae (bW (ay 1) aq) (ae aq au)))))
  (@bf _ _ _ _ _ _ (@S.for _ _ _ _ _ _ _ _ _ _ _ Qv rfl (I.rng1 tx.pj (ae (aX aY hr bh tx.bL tx.av.kp tx.bM (ae (ay 0) (ae (ay 1) (ae aq au)))) au)) (dR (i:=4) bg.nd rfl (by first | exact Or.inl rfl | exact Or.inr rfl) ) (aP (i:=4))
  (@bf _ _ _ _ _ _ (iZ 5 bg.nd (bW (bW (ay 1) aq) (sD aq (ay 4))))
  (@bf _ _ _ _ _ _ (iZ 6 bg.nd (di (bW (bc (bA (ae ba au))) (bc (iL (N':=["_law_box_here"]) (mp:=[none]) rfl (bp lV (ah ju) rfl rfl (by decide +kernel)) (aP (i:=0)) (by decide) (I.tup (ay 2)) (λ _ _ _=>⟨(oA 0),Ts.nil,(di (ay 0) aq)⟩)))) (aX aY hr bh tx.bL tx.av.kp tx.bM (ae (ay 0) (ae (ay 5) (ae (bW (ay 4) aq) au))))))
  (@bf _ _ _ _ _ _ (S.setC 7 (N':=["_law_j", "_law_script", "_law_here"]) (mp:=[none,some 0,some 5]) rfl bg.nd (bp lV (ah ju) rfl rfl (by decide +kernel)) (aP (i:=0)) (by decide) (I.rng1 tx.pj (ae aq au)) (λ _ _ _=>⟨(oA 0),Ts.nil,(E.sub (aX aY hr bh tx.bL tx.av.kp tx.bM (ae (ay 1) (ae (bW (bW (ay 2) aq) (ay 0)) (ae aq au)))) aq)⟩))
  (@Ss.frz _ _ _ _ 7 (@bf _ _ _ _ _ _ (S.setC 8 (N':=["_law_j", "_law_script", "_law_here"]) (mp:=[none,some 0,some 5]) rfl bg.nd (bp lV (ah ju) rfl rfl (by decide +kernel)) (aP (i:=0)) (by decide) (I.rng1 tx.pj (ae aq au)) (λ _ _ _=>⟨(oA 0),Ts.nil,(aX aY hr bh tx.bL tx.av.kp tx.bM (ae (ay 1) (ae (bW (bW (ay 2) aq) (ay 0)) (ae aq au))))⟩))
  (@Ss.frz _ _ _ _ 8 (@bf _ _ _ _ _ _ (iZ 9 bg.nd ba)
  (@bf _ _ _ _ _ _ (@S.for _ _ _ _ _ _ _ _ _ _ _ Qv rfl (I.enum rfl tx.tZ (ae ba au)) (xI (n:=2) rfl (jv (dR (i:=10) bg.nd rfl (by first | exact Or.inl rfl | exact Or.inr rfl) ) (jv (dR (i:=11) bg.nd rfl (by first | exact Or.inl rfl | exact Or.inr rfl) ) uV))) (TgP.tup (n:=2) (gU (aP (i:=10)) (gU (aP (i:=11)) TgsP.nil)) (uT))
  (@bt _ _ _ _ (@S.ifS _ _ _ _ _ _ _ _ _ (yc hr (aX aY hr bh tx.bL tx.av.kp tx.bM (ae (ay 0) (ae (bW (bW (ay 5) aq) (ay 10)) (ae (di (bc (bA (ae aq (ae aq (ae aq (ae aq au)))))) (ay 10)) au)))) aq) (@bt _ _ _ _ (iZ 9 bg.nd (bW (ay 9) (ay 11)))) Ss.nil)) (λ _=>rfl))
  (@bf _ _ _ _ _ _ (iZ 12 bg.nd (di ba (E.mod (bW (ay 4) (ay 3)) aq)))
  (@bt _ _ _ _ (iZ 2 bg.nd (bW (ay 2) (i6 (ae (bW (bW (i6 (ae (ay 12) (ae (ay 6) au))) (E.tuple tx.D6 (ae (bW (ay 7) (ay 8)) au))) (i6 (ae (ay 9) au))) au)))))))))))))) (λ _=>rfl))
  (@bt _ _ _ _ (iE (ay 2))))))
abbrev uQ:List Str:=["self", "scene"]
theorem tR:aI uQ fj (ah oh):=b6
def g9  : Wd->Option MOut :=
 (aM (mj 1 "scene" (mV 0) (mP (eV 1)))
  (mj 1 "known" (mV 0) FU))
include tx in
theorem tW:FnOk Pr w K mg base CX0 (k+1) t.cC t.cy fj (spM K (cl t) (dO 2 2 (g9))) :=
 fnM tx.a6 tR λ _ _ _ _ _ _ hr =>
  (@aj _ _ _ _ _ _ (gS (k:=1) (a8 0) (af λ _=>(ay 1)) tx.ql)
  (@aG _ _ _ _ (gS (k:=1) (a8 0) ME.dict0 tx.wn)))
abbrev AH:List Str:=[]
theorem yH:aI AH [] (ah ug):=b6
def p8  : Wd->Option MOut :=
 (fw (Io (((eC (.str "over")),(oE (λ η=>(aN η).bind gL)))::((eC (.str "pressed")),(eC .none))::((eC (.str "held")),(eC .none))::((eC (.str "last")),(eC .none))::[])))
include tx in
theorem yO:FnOk Pr w K mg base CX0 (k+1) t.gE t.gu [] (spM K (cl t) (dO 0 0 (p8))) :=
 fnM tx.bE yH λ _ _ _ _ _ _ hr =>
  (@aG _ _ _ _ (b0 (ME.dispC (λ _=>(DP.cons ba (bc (bA au)) (DP.cons ba eY (DP.cons ba eY (DP.cons ba eY DP.nil))))))))
abbrev ye:List Str:=["_law_scene_here", "_law_around", "_law_left", "_law_top", "_law_cuts", "_law_found", "_law_box_here", "_law_area", "_law_inner"]
theorem fA:aI ye iP (ah rG):=b6
def nG (cn:PFn):En->Option Out :=
 (cT (fC 5 (oE (λ η=>(aN η).bind gL)))
  (cT (qS (lI qk (eV 0)) (tgN 6)
  (sIf (A8 (bT (l2 pEq (l2 pIx (eV 6) (eC (.int 1))) (eV 1))) (bT (l2 (pIn true) (eC (.str "h")) (l2 pIx (eV 6) (eC (.int 6)))))) (cT (fC 7 (lA tpF (aC (l2 aH (eV 2) (l2 pIx (eV 6) (eC (.int 2)))) (aC (l2 aH (eV 3) (l2 pIx (eV 6) (eC (.int 3)))) (aC (l2 aH (l2 aH (eV 2) (l2 pIx (eV 6) (eC (.int 2)))) (l2 pIx (eV 6) (eC (.int 4)))) (aC (l2 aH (l2 aH (eV 3) (l2 pIx (eV 6) (eC (.int 3)))) (l2 pIx (eV 6) (eC (.int 5)))) aN))))))
  (cT (fC 8 (l2 aH (eV 4) (EV (λ η=>((aC (eV 7) aN) η).bind gL) (lA ul (aC (l2 (pIn false) (eC (.str "c")) (l2 pIx (eV 6) (eC (.int 6)))) aN)))))
  (fC 5 (l2 aH (l2 aH (eV 5) (oE (λ η=>((aC (lA tpF (aC (eV 6) (aC (eV 7) (aC (l2 aH (eV 4) (oE (λ η=>((aC (eV 7) aN) η).bind gL))) aN)))) aN) η).bind gL))) (lA cn (aC (eV 0) (aC (l2 pIx (eV 6) (eC (.int 0))) (aC (l2 pIx (eV 7) (eC (.int 0))) (aC (l2 pIx (eV 7) (eC (.int 1))) (aC (eV 8) aN)))))))))) sNx))
  (gP (eV 5))))
include tx eP jQ in
theorem wF:FnOk Pr w K mg base CX0 (k+1) t.eD t.dZ iP (spP K (cI 5 9 (nG cn))) :=
 fnP tx.bB fA λ _ _ _ _ _ _ _ hr =>
  (@bf _ _ _ _ _ _ (iZ 5 fA.nd (bc (bA au)))
  (@bf _ _ _ _ _ _ (@S.for _ _ _ _ _ _ _ _ _ _ _ Qv rfl (I.tup (ay 0)) (dR (i:=6) fA.nd rfl (by first | exact Or.inl rfl | exact Or.inr rfl) ) (aP (i:=6))
  (@bt _ _ _ _ (@S.ifS _ _ _ _ _ _ _ _ _ (TW.t (TW.and (yc hr (di (ay 6) aq) (ay 1)) (TW.and1 (T.notIn ba (di (ay 6) aq))))) (@bf _ _ _ _ _ _ (iZ 7 fA.nd (i6 (ae (bW (ay 2) (di (ay 6) aq)) (ae (bW (ay 3) (di (ay 6) aq)) (ae (bW (bW (ay 2) (di (ay 6) aq)) (di (ay 6) aq)) (ae (bW (bW (ay 3) (di (ay 6) aq)) (di (ay 6) aq)) au))))))
  (@bf _ _ _ _ _ _ (iZ 8 fA.nd (bW (ay 4) (E.rep (bA (ae (ay 7) au)) (E.toInt tx.wm (ae (E.in ba (di (ay 6) aq)) au)))))
  (@bt _ _ _ _ (iZ 5 fA.nd (bW (bW (ay 5) (bc (bA (ae (i6 (ae (ay 6) (ae (ay 7) (ae (bW (ay 4) (bc (bA (ae (ay 7) au)))) au)))) au)))) (aX eP hr jQ tx.rT tx.bB.kp tx.su (ae (ay 0) (ae (di (ay 6) aq) (ae (di (ay 7) aq) (ae (di (ay 7) aq) (ae (ay 8) au))))))))))) Ss.nil)) (λ _=>rfl))
  (@bt _ _ _ _ (iE (ay 5)))))
abbrev vT:List Str:=["_law_areas", "_law_x", "_law_y"]
theorem zB:aI vT lx (ah qQ):=b6
def rg  : En->Option Out :=
 (gP (l2 pEq (oE (cm [none,some 1,some 2] (lI asL (eV 0)) (tgN 0) (E9 (A8 (bT (lch pLe pLt (l2 pIx (eV 0) (eC (.int 0))) (eV 1) (l2 pIx (eV 0) (eC (.int 2))))) (bT (lch pLe pLt (l2 pIx (eV 0) (eC (.int 1))) (eV 2) (l2 pIx (eV 0) (eC (.int 3))))))) (eV 0))) (oE (λ η=>(aN η).bind gL))))
include tx in
theorem zT:FnOk Pr w K mg base CX0 (k+1) t.iz t.il lx (spP K (cI 3 3 (rg))) :=
 fnP tx.f9 zB λ _ _ _ _ _ _ _ hr =>
  (@bt _ _ _ _ (iE (E.eq hr (bc (iL (N':=["_law_area", "_law_x", "_law_y"]) (mp:=[none,some 1,some 2]) rfl (bp vT (ah qQ) rfl rfl (by decide +kernel)) (aP (i:=0)) (by decide) (I.list (ay 0)) (λ _ _ _=>⟨(oA 0),(Ts.one (T.not (TW.t (TW.and (T.chain Bm (sv λ _ _ _=>fE) Dh (sv λ _ _ _=>fE) (di (ay 0) aq) (ay 1) (di (ay 0) aq)) (TW.and1 (T.chain Bm (sv λ _ _ _=>fE) Dh (sv λ _ _ _=>fE) (di (ay 0) aq) (ay 2) (di (ay 0) aq))))))),(ay 0)⟩))) (bc (bA au)))))
abbrev uO:List Str:=["_law_scene_here", "_law_x", "_law_y", "_law_rows"]
theorem sV:aI uO kh (ah pC):=b6
def p7 (cn:PFn) (mX:PFn):En->Option Out :=
 (cT (fC 3 (lA cn (aC (eV 0) (aC (eC (.str "")) (aC (eC (.int 0)) (aC (eC (.int 0)) (aC (oE (λ η=>(aN η).bind gL)) aN)))))))
  (gP (l2 pRv (oE (cm [none,some 1,some 2] (lI asL (eV 3)) (tgN 0) (A8 (bT (l2 (pIn true) (eC (.str "l")) (l2 pIx (l2 pIx (eV 0) (eC (.int 0))) (eC (.int 6))))) (bT (lA mX (aC (l2 pIx (eV 0) (eC (.int 2))) (aC (eV 1) (aC (eV 2) aN)))))) (l2 pIx (l2 pIx (eV 0) (eC (.int 0))) (eC (.int 0))))) (l1 sG (eC (.int 1))))))
include tx eP jQ n6 uG in
theorem yM:FnOk Pr w K mg base CX0 (k+1) t.gC t.gp kh (spP K (cI 3 4 (p7 cn mX))) :=
 fnP tx.gK sV λ _ _ _ _ _ _ _ hr =>
  (@bf _ _ _ _ _ _ (iZ 3 sV.nd (aX eP hr jQ tx.rT tx.bB.kp tx.su (ae (ay 0) (ae ba (ae aq (ae aq (ae (bc (bA au)) au)))))))
  (@bt _ _ _ _ (iE (E.slRev (bc (iL (N':=["_law_row", "_law_x", "_law_y"]) (mp:=[none,some 1,some 2]) rfl (bp uO (ah pC) rfl rfl (by decide +kernel)) (aP (i:=0)) (by decide) (I.list (ay 3)) (λ _ _ _=>⟨(oA 0),(Ts.one (TW.t (TW.and (T.notIn ba (di (di (ay 0) aq) aq)) (TW.and1 (T.val (aX n6 hr uG tx.A2 tx.f9.kp tx.A7 (ae (di (ay 0) aq) (ae (ay 1) (ae (ay 2) au))))))))),(di (di (ay 0) aq) aq)⟩))) (tQ aq)))))
abbrev vU:List Str:=["_law_scene_here", "_law_name"]
theorem zC:aI vU ly (ah qR):=b6
def rh  : En->Option Out :=
 (gP (l2 pIx (oE (cm [none,some 1] (lI qk (eV 0)) (tgN 0) (bT (l2 pEq (l2 pIx (eV 0) (eC (.int 0))) (eV 1))) (eV 0))) (eC (.int 0))))
include tx in
theorem zU:FnOk Pr w K mg base CX0 (k+1) t.iA t.im ly (spP K (cI 2 2 (rh))) :=
 fnP tx.cg zC λ _ _ _ _ _ _ _ hr =>
  (@bt _ _ _ _ (iE (di (bc (iL (N':=["_law_box_here", "_law_name"]) (mp:=[none,some 1]) rfl (bp vU (ah qR) rfl rfl (by decide +kernel)) (aP (i:=0)) (by decide) (I.tup (ay 0)) (λ _ _ _=>⟨(oA 0),(Ts.one (yc hr (di (ay 0) aq) (ay 1))),(ay 0)⟩))) aq)))
abbrev AF:List Str:=["_law_scene_here", "_law_name", "_law_found"]
theorem oy:aI AF kg (ah ue):=b6
def p6 (kq:PFn):En->Option Out :=
 (cT (fC 2 (oE (λ η=>((aC (eV 1) aN) η).bind gL)))
  (cT (sWh (bT (l2 pNe (l2 pIx (lA kq (aC (eV 0) (aC (l2 pIx (eV 2) (eC (.int 0))) aN))) (eC (.int 1))) (eC (.str "")))) (fC 2 (l2 aH (oE (λ η=>((aC (l2 pIx (lA kq (aC (eV 0) (aC (l2 pIx (eV 2) (eC (.int 0))) aN))) (eC (.int 1))) aN) η).bind gL)) (eV 2))) 13)
  (gP (eV 2))))
include tx lF pW in
theorem yL:FnOk Pr w K mg base CX0 (k+1) t.gB t.gn kg (spP K (cI 2 3 (p6 kq))) :=
 fnP tx.gJ oy λ _ _ _ _ _ _ _ hr =>
  (@bf _ _ _ _ _ _ (iZ 2 oy.nd (bc (bA (ae (ay 1) au))))
  (@bf _ _ _ _ _ _ (S.while 13 Qv (T.ne hr (di (aX lF hr pW tx.vA tx.cg.kp tx.vQ (ae (ay 0) (ae (di (ay 2) aq) au))) aq) ba) (@bt _ _ _ _ (iZ 2 oy.nd (bW (bc (bA (ae (di (aX lF hr pW tx.vA tx.cg.kp tx.vQ (ae (ay 0) (ae (di (ay 2) aq) au))) aq) au))) (ay 2)))))
  (@bt _ _ _ _ (iE (ay 2)))))
abbrev wj:List Str:=["_law_scene_here", "_law_x", "_law_y", "_law_some"]
theorem oH:aI wj gh (ah pE):=b6
def lZ (lS:PFn) (lR:PFn):En->Option Out :=
 (cT (fC 3 (lA lS (aC (eV 0) (aC (eV 1) (aC (eV 2) aN)))))
  (gP (vIf (bT (l2 pNe (eV 3) (oE (λ η=>(aN η).bind gL)))) (lA lR (aC (eV 0) (aC (l2 pIx (eV 3) (eC (.int 0))) aN))) (oE (λ η=>(aN η).bind gL)))))
include tx ng tG m9 tF in
theorem vd:FnOk Pr w K mg base CX0 (k+1) t.c8 t.c0 gh (spP K (cI 3 4 (lZ lS lR))) :=
 fnP tx.aB oH λ _ _ _ _ _ _ _ hr =>
  (@bf _ _ _ _ _ _ (iZ 3 oH.nd (aX ng hr tG tx.z0 tx.gK.kp tx.Az (ae (ay 0) (ae (ay 1) (ae (ay 2) au)))))
  (@bt _ _ _ _ (iE (E.ifE (T.ne hr (ay 3) (bc (bA au))) (aX m9 hr tF tx.zZ tx.gJ.kp tx.Ay (ae (ay 0) (ae (di (ay 3) aq) au))) (bc (bA au))))))
abbrev rA:List Str:=["_law_hand_here", "_law_path_here", "_law_same", "_law_found"]
theorem ml:aI rA lv (ah nR):=b6
def rf  : Wd->Option MOut :=
 (aM (bR 2 (mP (eC (.int 0))))
  (aM (mWh (mCh pEq pNe (mSl (gQ (mV 0) (mP (eC (.str "over")))) (pS (eV 2)) (pS (l2 aH (eV 2) (eC (.int 1))))) (mP (eSl (eV 1) (pS (eV 2)) (pS (l2 aH (eV 2) (eC (.int 1)))))) (mP (oE (λ η=>(aN η).bind gL)))) (bR 2 (mP (l2 aH (eV 2) (eC (.int 1))))) 13)
  (aM (bR 3 (mOp aH (mFz (mcL [none] (iM (mRv (mSl (gQ (mV 0) (mP (eC (.str "over")))) (pS (eV 2)) pN) (l1 sG (eC (.int 1))))) [0] (tgN 0) xF (mP (lA tpF (aC (eC (.str "leave")) (aC (eV 0) aN)))))) (mP (oE (cm [none] (lI asL (eSl (eV 1) (pS (eV 2)) pN)) (tgN 0) fg (lA tpF (aC (eC (.str "enter")) (aC (eV 0) aN))))))))
  (aM (jC (mV 0) (mP (eC (.str "over"))) (mP (eV 1)))
  (fw (mP (eV 3)))))))
include tx in
theorem zS:FnOk Pr w K mg base CX0 (k+1) t.iy t.ik lv (spM K (cl t) (dO 2 4 (rf))) :=
 fnM tx.bq ml λ _ _ _ _ _ _ hr =>
  (@aj _ _ _ _ _ _ (bo 2 ml.nd (af λ _=>aq))
  (@aj _ _ _ _ _ _ (MS.while 13 Qv (MT.eqNe hr (ME.sl (jN hr (a8 0) (af λ _=>ba)) (λ _=>kA (ay 2)) (λ _=>kA (bW (ay 2) aq))) (af λ _=>(E.sl (ay 1) (kA (ay 2)) (kA (bW (ay 2) aq)))) (af λ _=>(bc (bA au)))) (@aG _ _ _ _ (bo 2 ml.nd (af λ _=>(bW (ay 2) aq)))))
  (@aj _ _ _ _ _ _ (bo 3 ml.nd (ME.add (qI (ME.lcomp (N':=["_law_name"]) (mp:=[none]) rfl (bp rA (ah nR) rfl rfl (by decide +kernel)) (aP (i:=0)) (by decide) (MI.list (ME.slRev (ME.sl (jN hr (a8 0) (af λ _=>ba)) (λ _=>kA (ay 2)) (λ _=>qg)) (λ _=>(tQ aq)))) (λ _ _ _=>⟨(oA 0),MTs.nil,(af λ _=>(i6 (ae ba (ae (ay 0) au))))⟩))) (af λ _=>(bc (iL (N':=["_law_name"]) (mp:=[none]) rfl (bp rA (ah nR) rfl rfl (by decide +kernel)) (aP (i:=0)) (by decide) (I.list (E.sl (ay 1) (kA (ay 2)) qg)) (λ _ _ _=>⟨(oA 0),Ts.nil,(i6 (ae ba (ae (ay 0) au)))⟩))))))
  (@aj _ _ _ _ _ _ (MS.putC hr (a8 0) (af λ _=>ba) (af λ _=>(ay 1)))
  (@aG _ _ _ _ (b0 (af λ _=>(ay 3))))))))
abbrev oF:List Str:=["_law_scene_here", "_law_hand_here", "_law_way", "_law_moment", "_law_x", "_law_y", "_law_path_here", "_law_found", "_law_both"]
theorem gb:aI oF jx (ah lK):=b6
def cF (iI:PFn) (iY:DFn):Wd->Option MOut :=
 (aM (bR 6 (mP (lA iI (aC (eV 0) (aC (eV 4) (aC (eV 5) aN))))))
  (aM (mIf (tPv (bT (l2 pEq (eV 2) (eC (.int 0))))) (aM (mIf (mB (dP (jB true) (gQ (mV 1) (mP (eC (.str "held")))) (mP (eC .none)))) (fw (mFz (yT (maC (rV (maC (mP (eC (.str "move"))) (maC (gQ (mV 1) (mP (eC (.str "held")))) maN))) maN)))) mNx)
  (fw (mOp aH (g6 iY (maC (mV 1) (maC (mP (eV 6)) maN))) (mP (oE (cm [none] (lI asL (eSl (eV 6) (pS (l1 sG (eC (.int 1)))) pN)) (tgN 0) fg (lA tpF (aC (eC (.str "move")) (aC (eV 0) aN))))))))) mNx)
  (aM (mIf (tPv (bT (l2 pEq (eV 2) (eC (.int 1))))) (aM (bR 7 (mP (oE (λ η=>(aN η).bind gL))))
  (aM (mIf (mB (dP (jB true) (gQ (mV 1) (mP (eC (.str "pressed")))) (mP (eC .none)))) (fw (mP (oE (λ η=>(aN η).bind gL)))) mNx)
  (aM (jC (mV 1) (mP (eC (.str "pressed"))) (mP (eV 6)))
  (aM (mIf (mB (dP (jB false) (gQ (mV 1) (mP (eC (.str "held")))) (mP (eC .none)))) (aM (bR 7 (g6 iY (maC (mV 1) (maC (mP (eV 6)) maN))))
  (jC (mV 1) (mP (eC (.str "held"))) (mP (l2 pIx (l2 aH (eV 6) (oE (λ η=>((aC (eC .none) aN) η).bind gL))) (l2 wB (l1 sG (eC (.int 1))) (lA ul (aC (l2 pNe (eV 6) (oE (λ η=>(aN η).bind gL))) aN))))))) mNx)
  (fw (mOp aH (mP (eV 7)) (mFz (Bo (yT (maC (rV (maC (mP (eC (.str "down"))) (maC (gQ (mV 1) (mP (eC (.str "held")))) maN))) maN)) (mCB ul (maC (dP (jB true) (gQ (mV 1) (mP (eC (.str "held")))) (mP (eC .none))) maN)))))))))) mNx)
  (aM (mIf (mB (dP (jB false) (gQ (mV 1) (mP (eC (.str "pressed")))) (mP (eC .none)))) (fw (mP (oE (λ η=>(aN η).bind gL)))) mNx)
  (aM (bR 7 (Bo (yT (maC (rV (maC (mP (eC (.str "up"))) (maC (gQ (mV 1) (mP (eC (.str "held")))) maN))) maN)) (mCB ul (maC (dP (jB true) (gQ (mV 1) (mP (eC (.str "held")))) (mP (eC .none))) maN))))
  (aM (bR 8 (mcL [none,none,some 1,some 6] (iPu (λ η=>((aC (eV 6) aN) η).bind enL)) [0,1] (tgT (bG (tgN 0) (bG (tgN 1) kX))) (mB (dP pEq (mP (eSl (eV 3) pN (pS (l2 aH (eV 0) (eC (.int 1)))))) (mSl (gQ (mV 2) (mP (eC (.str "pressed")))) pN (pS (l2 aH (eV 0) (eC (.int 1))))))) (mP (eV 1))))
  (aM (jC (mV 1) (mP (eC (.str "pressed"))) (mP (eC .none)))
  (aM (jC (mV 1) (mP (eC (.str "held"))) (mP (eC .none)))
  (aM (mIf (mB (dP pNe (mV 8) (mP (oE (λ η=>(aN η).bind gL))))) (aM (qX (vB (mV 7) (rV (maC (mP (eC (.str "click"))) (maC (mOp pIx (mFz (mV 8)) (mP (l1 sG (eC (.int 1))))) maN)))))
  (mIf (t6 (mB (dP (jB true) (gQ (mV 1) (mP (eC (.str "last")))) (mP (eC .none)))) (t6 (mB (dP pEq (mOp pIx (gQ (mV 1) (mP (eC (.str "last")))) (mP (eC (.int 0)))) (mOp pIx (mFz (mV 8)) (mP (l1 sG (eC (.int 1))))))) (mB (dP pLe (mOp wB (mP (eV 3)) (mOp pIx (gQ (mV 1) (mP (eC (.str "last")))) (mP (eC (.int 1))))) (mP (eC (.int 20))))))) (aM (qX (vB (mV 7) (rV (maC (mP (eC (.str "double"))) (maC (mOp pIx (mFz (mV 8)) (mP (l1 sG (eC (.int 1))))) maN)))))
  (jC (mV 1) (mP (eC (.str "last"))) (mP (eC .none)))) (jC (mV 1) (mP (eC (.str "last"))) (rV (maC (mOp pIx (mFz (mV 8)) (mP (l1 sG (eC (.int 1))))) (maC (mP (eV 3)) maN)))))) mNx)
  (fw (mOp aH (mFz (mV 7)) (g6 iY (maC (mV 1) (maC (mP (eV 6)) maN))))))))))))))
include tx jq oR jK mM in
theorem xL:FnOk Pr w K mg base CX0 (k+1) t.fL t.fG jx (spM K (cl t) (dO 6 9 (cF iI iY))) :=
 fnM tx.bn gb λ _ _ _ _ _ _ hr =>
  (@aj _ _ _ _ _ _ (bo 6 gb.nd (af λ _=>(aX jq hr oR tx.v9 tx.aB.kp tx.wg (ae (ay 0) (ae (ay 4) (ae (ay 5) au))))))
  (@aj _ _ _ _ _ _ (@eO _ _ _ _ _ _ _ _ _ (qi λ _=>(yc hr (ay 2) aq)) (@aj _ _ _ _ _ _ (@eO _ _ _ _ _ _ _ _ _ (MT.notN (jN hr (a8 1) (af λ _=>ba)) (af λ _=>eY)) (@aG _ _ _ _ (b0 (qI (ME.lstM (ag (ME.tupM (ag (af λ _=>ba) (ag (jN hr (a8 1) (af λ _=>ba)) aQ))) aQ))))) dk)
  (@aG _ _ _ _ (b0 (ME.add (ME.call jK hr mM tx.qW tx.bq.kp tx.rq (ag (a8 1) (ag (af λ _=>(ay 6)) aQ))) (af λ _=>(bc (iL (N':=["_law_name"]) (mp:=[none]) rfl (bp oF (ah lK) rfl rfl (by decide +kernel)) (aP (i:=0)) (by decide) (I.list (E.sl (ay 6) (kA (tQ aq)) qg)) (λ _ _ _=>⟨(oA 0),Ts.nil,(i6 (ae ba (ae (ay 0) au)))⟩)))))))) dk)
  (@aj _ _ _ _ _ _ (@eO _ _ _ _ _ _ _ _ _ (qi λ _=>(yc hr (ay 2) aq)) (@aj _ _ _ _ _ _ (bo 7 gb.nd (af λ _=>(bc (bA au))))
  (@aj _ _ _ _ _ _ (@eO _ _ _ _ _ _ _ _ _ (MT.notN (jN hr (a8 1) (af λ _=>ba)) (af λ _=>eY)) (@aG _ _ _ _ (b0 (af λ _=>(bc (bA au))))) dk)
  (@aj _ _ _ _ _ _ (MS.putC hr (a8 1) (af λ _=>ba) (af λ _=>(ay 6)))
  (@aj _ _ _ _ _ _ (@eO _ _ _ _ _ _ _ _ _ (MT.isN (jN hr (a8 1) (af λ _=>ba)) (af λ _=>eY)) (@aj _ _ _ _ _ _ (bo 7 gb.nd (ME.call jK hr mM tx.qW tx.bq.kp tx.rq (ag (a8 1) (ag (af λ _=>(ay 6)) aQ))))
  (@aG _ _ _ _ (MS.putC hr (a8 1) (af λ _=>ba) (af λ _=>(di (bW (ay 6) (bc (bA (ae eY au)))) (E.sub (tQ aq) (E.toInt tx.wm (ae (E.ne hr (ay 6) (bc (bA au))) au)))))))) dk)
  (@aG _ _ _ _ (b0 (ME.add (af λ _=>(ay 7)) (qI (ME.repC (ME.lstM (ag (ME.tupM (ag (af λ _=>ba) (ag (jN hr (a8 1) (af λ _=>ba)) aQ))) aQ)) (ME.toInt tx.wm (ag (ME.notN (jN hr (a8 1) (af λ _=>ba)) (af λ _=>eY)) aQ))))))))))) dk)
  (@aj _ _ _ _ _ _ (@eO _ _ _ _ _ _ _ _ _ (MT.isN (jN hr (a8 1) (af λ _=>ba)) (af λ _=>eY)) (@aG _ _ _ _ (b0 (af λ _=>(bc (bA au))))) dk)
  (@aj _ _ _ _ _ _ (bo 7 gb.nd (ME.repC (ME.lstM (ag (ME.tupM (ag (af λ _=>ba) (ag (jN hr (a8 1) (af λ _=>ba)) aQ))) aQ)) (ME.toInt tx.wm (ag (ME.notN (jN hr (a8 1) (af λ _=>ba)) (af λ _=>eY)) aQ))))
  (@aj _ _ _ _ _ _ (MS.setM 8 (N':=["_law_k", "_law_one", "_law_hand_here", "_law_path_here"]) (mp:=[none,none,some 1,some 6]) rfl gb.nd (bp oF (ah lK) rfl rfl (by decide +kernel)) (TgP.tup (n:=2) (gU (aP (i:=0)) (gU (aP (i:=1)) TgsP.nil)) (uT)) (by decide) (MI.pu λ _=>(I.enumL rfl tx.tZ (ae (ay 6) au))) (λ _ _ _=>⟨(xI (n:=2) rfl (jv (oA 0) (jv (oA 1) uV))),(MTs.one (MT.eq hr (af λ _=>(E.sl (ay 3) qg (kA (bW (ay 0) aq)))) (ME.sl (jN hr (a8 2) (af λ _=>ba)) (λ _=>qg) (λ _=>kA (bW (ay 0) aq))))),(af λ _=>(ay 1))⟩))
  (@aj _ _ _ _ _ _ (MS.putC hr (a8 1) (af λ _=>ba) (af λ _=>eY))
  (@aj _ _ _ _ _ _ (MS.putC hr (a8 1) (af λ _=>ba) (af λ _=>eY))
  (@aj _ _ _ _ _ _ (@eO _ _ _ _ _ _ _ _ _ (MT.ne hr (a8 8) (af λ _=>(bc (bA au)))) (@aj _ _ _ _ _ _ (MS.exp (ME.appC (a8 7) (ME.tupM (ag (af λ _=>ba) (ag (ME.at (qI (a8 8)) (af λ _=>(tQ aq))) aQ)))))
  (@aG _ _ _ _ (@eO _ _ _ _ _ _ _ _ _ (MTW.t (MTW.and (MT.notN (jN hr (a8 1) (af λ _=>ba)) (af λ _=>eY)) (MTW.and (MT.eq hr (ME.at (jN hr (a8 1) (af λ _=>ba)) (af λ _=>aq)) (ME.at (qI (a8 8)) (af λ _=>(tQ aq)))) (MTW.and1 (MT.le (ME.sub (af λ _=>(ay 3)) (ME.at (jN hr (a8 1) (af λ _=>ba)) (af λ _=>aq))) (af λ _=>aq)))))) (@aj _ _ _ _ _ _ (MS.exp (ME.appC (a8 7) (ME.tupM (ag (af λ _=>ba) (ag (ME.at (qI (a8 8)) (af λ _=>(tQ aq))) aQ)))))
  (@aG _ _ _ _ (MS.putC hr (a8 1) (af λ _=>ba) (af λ _=>eY)))) (@aG _ _ _ _ (MS.putC hr (a8 1) (af λ _=>ba) (ME.tupM (ag (ME.at (qI (a8 8)) (af λ _=>(tQ aq))) (ag (af λ _=>(ay 3)) aQ)))))))) dk)
  (@aG _ _ _ _ (b0 (ME.add (qI (a8 7)) (ME.call jK hr mM tx.qW tx.bq.kp tx.rq (ag (a8 1) (ag (af λ _=>(ay 6)) aQ)))))))))))))))
abbrev vm:List Str:=["self"]
theorem ub:aI vm fS (ah oJ):=b6
def iH  : Wd->Option MOut :=
 (aM (mj 0 "trail" (mV 0) (mP (oE (λ η=>(aN η).bind gL))))
  (aM (mj 0 "pressed_at" (mV 0) (mP (eC .none)))
  (aM (mj 0 "held_by" (mV 0) (mP (eC .none)))
  (aM (mj 0 "clicked" (mV 0) (mP (eC .none)))
  (aM (mj 0 "clicked_moment" (mV 0) (mP (eC (.int 0))))
  (mj 0 "was_double" (mV 0) (mP (eC (.bool false)))))))))
include tx in
theorem uq:FnOk Pr w K mg base CX0 (k+1) t.cQ t.cN fS (spM K (cl t) (dO 1 1 (iH))) :=
 fnM tx.cR ub λ _ _ _ _ _ _ hr =>
  (@aj _ _ _ _ _ _ (gS (k:=0) (a8 0) (af λ _=>(bc (bA au))) tx.nv)
  (@aj _ _ _ _ _ _ (gS (k:=0) (a8 0) (af λ _=>eY) tx.gM)
  (@aj _ _ _ _ _ _ (gS (k:=0) (a8 0) (af λ _=>eY) tx.dS)
  (@aj _ _ _ _ _ _ (gS (k:=0) (a8 0) (af λ _=>eY) tx.pk)
  (@aj _ _ _ _ _ _ (gS (k:=0) (a8 0) (af λ _=>aq) tx.kW)
  (@aG _ _ _ _ (gS (k:=0) (a8 0) (af λ _=>AN) tx.nr)))))))
abbrev vk:List Str:=["self", "hand"]
theorem ua:aI vk fR (ah oI):=b6
def lf (hG:DFn):Wd->Option MOut :=
 (fw (Ij (vg (mV 0) "known") (mP (eV 1)) (qv 0 hG maN)))
include tx iK ot in
theorem uo:FnOk Pr w K mg base CX0 (k+1) t.cP t.cM fR (spM K (cl t) (dO 2 2 (lf hG))) :=
 fnM tx.aw ua λ _ _ _ _ _ _ hr =>
  (@aG _ _ _ _ (b0 (ME.setdef (ME.fld (a8 0)) (af λ _=>(ay 1)) (ME.make0 (kc:=0) tx.hZ tx.D7 iK hr ot tx.D8 tx.vj))))
abbrev sR:List Str:=["self", "word"]
theorem rF:aI sR du (ah mw):=b6
def ja  : Wd->Option MOut :=
 (fw (MC (tPv (bT (l2 (jB false) (gR 0 "held_by") (eC .none)))) (mN (λ η=>(aN η).bind gL)) (mN (λ η=>((aC (lA tpF (aC (eV 1) (aC (gR 0 "held_by") aN))) aN) η).bind gL))))
include tx in
theorem rR:FnOk Pr w K mg base CX0 (k+1) t.bZ t.bY du (spM K (cl t) (dO 2 2 (ja))) :=
 fnM tx.aF rF λ _ _ _ _ _ _ hr =>
  (@aG _ _ _ _ (b0 (ME.ifx (qi λ _=>(T.isN (kE 0) eY)) (ME.nw λ _=>(bA au)) (ME.nw λ _=>(bA (ae (i6 (ae (ay 1) (ae (kE 0) au))) au))))))
abbrev vS:List Str:=["scene", "name"]
theorem zA:aI vS lu (ah qP):=b6
def nW  : En->Option Out :=
 (gP (oE (cm [none,some 1] (lI qk (eV 0)) (tgN 0) (bT (l2 pEq (l2 pIx (eV 0) (eC (.int 1))) (eV 1))) (l2 pIx (eV 0) (eC (.int 0))))))
include tx in
theorem zR:FnOk Pr w K mg base CX0 (k+1) t.iw t.ij lu (spP K (cI 2 2 (nW))) :=
 fnP tx.bF zA λ _ _ _ _ _ _ _ hr =>
  (@bt _ _ _ _ (iE (bc (iL (N':=["box", "name"]) (mp:=[none,some 1]) rfl (bp vS (ah qP) rfl rfl (by decide +kernel)) (aP (i:=0)) (by decide) (I.tup (ay 0)) (λ _ _ _=>⟨(oA 0),(Ts.one (yc hr (di (ay 0) (kU tx.yn)) (ay 1))),(di (ay 0) (kU tx.rB))⟩)))))
abbrev D4:List Str:=["scene", "name", "box"]
theorem oU:aI D4 i7 (ah yq):=b6
def qH  : En->Option Out :=
 (cT (qS (lI qk (eV 0)) (tgN 2)
  (sIf (bT (l2 pEq (l2 pIx (eV 2) (eC (.int 0))) (eV 1))) (gP (eV 2)) sNx))
  (λ _=>none))
include tx in
theorem B6:FnOk Pr w K mg base CX0 (k+1) t.f6 t.fZ i7 (spP K (cI 2 3 (qH))) :=
 fnP tx.aK oU λ _ _ _ _ _ _ _ hr =>
  (@bf _ _ _ _ _ _ (@S.for _ _ _ _ _ _ _ _ _ _ _ Qv rfl (I.tup (ay 0)) (dR (i:=2) oU.nd rfl (by first | exact Or.inl rfl | exact Or.inr rfl) ) (aP (i:=2))
  (@bt _ _ _ _ (@S.ifS _ _ _ _ _ _ _ _ _ (yc hr (di (ay 2) (kU tx.rB)) (ay 1)) (@bt _ _ _ _ (iE (ay 2))) Ss.nil)) (λ _=>rfl))
  (@bt _ _ _ _ S.never))
def oX  : En->Option Nat :=
 (Gk (qS (lI qk (eV 0)) (tgN 2)
  (sIf (bT (l2 pEq (l2 pIx (eV 2) (eC (.int 0))) (eV 1))) (gP (eV 2)) sNx))
  (λ η=>if (λ η=>Mp η&&HV (eV 1) η) η=true then some 0 else none))
include tx in
theorem AT:FnOk Pr w K mg base (CXX Pr w) (k+1) t.f6 t.fZ i7 (spX K (ca t) (C4 2 3 (oX))) :=
 fnX tx.aK oU λ _ _ _ _ _ _ _ _ hr hx hm =>
  (SsX.cons (S.nx (@S.for _ _ _ _ _ _ _ _ _ _ _ Qv rfl (I.tup (ay 0)) (dR (i:=2) oU.nd rfl (by first | exact Or.inl rfl | exact Or.inr rfl) ) (aP (i:=2))
  (@bt _ _ _ _ (@S.ifS _ _ _ _ _ _ _ _ _ (yc hr (di (ay 2) (kU tx.rB)) (ay 1)) (@bt _ _ _ _ (iE (ay 2))) Ss.nil)) (λ _=>rfl)))
  (SsX.one (SX.raise 0 hm rfl tx.z9 (tx.BE.xc 0 (by decide)).ex (EA.js2 (ES.lit (by decide)) (ES.repr (ay 1))))))
abbrev Fg:List Str:=["scene", "name", "names", "child"]
theorem t9:aI Fg pK (ah zE):=b6
def sO (bD:PFn) (gk:PFn) (ko:PFn):En->Option Out :=
 (cT (oK 2 (λ η=>((aC (l2 pIx (lA bD (aC (eV 0) (aC (eV 1) aN))) (eC (.int 0))) aN) η).bind gL))
  (cT (qS (lI asL (lA gk (aC (eV 0) (aC (eV 1) aN)))) (tgN 3)
  (zF 2 (lI asL (lA ko (aC (eV 0) (aC (eV 3) aN))))))
  (C2 2)))
include tx bV dw iB mL mf qC in
theorem Di:FnOk Pr w K mg base CX0 (k+1) t.me t.md pK (spP K (cI 2 4 (sO bD gk ko))) :=
 fnP tx.eU t9 λ _ _ _ _ _ _ _ hr =>
  (@bf _ _ _ _ _ _ (S.setO 2 t9.nd (bA (ae (di (aX bV hr dw tx.km tx.aK.kp tx.ku (ae (ay 0) (ae (ay 1) au))) (kU tx.rB)) au)))
  (@bf _ _ _ _ _ _ (@S.for _ _ _ _ _ _ _ _ _ _ _ Qv rfl (I.list (aX iB hr mL tx.vz tx.bF.kp tx.vP (ae (ay 0) (ae (ay 1) au)))) (dR (i:=3) t9.nd rfl (by first | exact Or.inl rfl | exact Or.inr rfl) ) (aP (i:=3))
  (@bt _ _ _ _ (S.ext 2 (aX mf hr qC tx.zY tx.eU.kp tx.Ax (ae (ay 0) (ae (ay 3) au))))) (λ _=>rfl))
  (@bt _ _ _ _ (S.retO 2))))
abbrev CA:List Str:=["scene", "names", "name"]
theorem qM:aI CA my (ah wy):=b6
def oZ (gk:PFn) (ko:PFn):En->Option Out :=
 (cT (oK 1 (λ η=>(aN η).bind gL))
  (cT (qS (lI asL (lA gk (aC (eV 0) (aC (eC (.str "")) aN)))) (tgN 2)
  (zF 1 (lI asL (lA ko (aC (eV 0) (aC (eV 2) aN))))))
  (C2 1)))
include tx iB mL mf qC in
theorem AV:FnOk Pr w K mg base CX0 (k+1) t.jl t.jf my (spP K (cI 1 3 (oZ gk ko))) :=
 fnP tx.fe qM λ _ _ _ _ _ _ _ hr =>
  (@bf _ _ _ _ _ _ (S.setO 1 qM.nd (bA au))
  (@bf _ _ _ _ _ _ (@S.for _ _ _ _ _ _ _ _ _ _ _ Qv rfl (I.list (aX iB hr mL tx.vz tx.bF.kp tx.vP (ae (ay 0) (ae ba au)))) (dR (i:=2) qM.nd rfl (by first | exact Or.inl rfl | exact Or.inr rfl) ) (aP (i:=2))
  (@bt _ _ _ _ (S.ext 1 (aX mf hr qC tx.zY tx.eU.kp tx.Ax (ae (ay 0) (ae (ay 2) au))))) (λ _=>rfl))
  (@bt _ _ _ _ (S.retO 1))))
abbrev Cz:List Str:=["scene", "name", "around"]
theorem vo:aI Cz mx (ah wx):=b6
def oY (bD:PFn) (bv:PFn):En->Option Out :=
 (cT (fC 2 (l2 pIx (lA bD (aC (eV 0) (aC (eV 1) aN))) (eC (.int 1))))
  (cT (sIf (bT (l2 pEq (eV 2) (eC (.str "")))) (gP (oE (λ η=>((aC (eV 1) aN) η).bind gL))) sNx)
  (gP (l2 aH (lA bv (aC (eV 0) (aC (eV 2) aN))) (oE (λ η=>((aC (eV 1) aN) η).bind gL))))))
include tx bV dw bK dm in
theorem AU:FnOk Pr w K mg base CX0 (k+1) t.jk t.je mx (spP K (cI 2 3 (oY bD bv))) :=
 fnP tx.aS vo λ _ _ _ _ _ _ _ hr =>
  (@bf _ _ _ _ _ _ (iZ 2 vo.nd (di (aX bV hr dw tx.km tx.aK.kp tx.ku (ae (ay 0) (ae (ay 1) au))) (kU tx.yn)))
  (@bf _ _ _ _ _ _ (@S.ifS _ _ _ _ _ _ _ _ _ (yc hr (ay 2) ba) (@bt _ _ _ _ (iE (bc (bA (ae (ay 1) au))))) Ss.nil)
  (@bt _ _ _ _ (iE (bW (aX bK hr dm tx.mH tx.aS.kp tx.mY (ae (ay 0) (ae (ay 2) au))) (bc (bA (ae (ay 1) au))))))))
abbrev Bb:List Str:=["scene", "name", "mark"]
theorem zy:aI Bb lm (ah vq):=b6
def re (bD:PFn):En->Option Out :=
 (gP (l2 (pIn false) (eV 2) (l2 pIx (lA bD (aC (eV 0) (aC (eV 1) aN))) (eC (.int 6)))))
include tx bV dw in
theorem zP:FnOk Pr w K mg base CX0 (k+1) t.ir t.ig lm (spP K (cI 3 3 (re bD))) :=
 fnP tx.bj zy λ _ _ _ _ _ _ _ hr =>
  (@bt _ _ _ _ (iE (E.in (ay 2) (di (aX bV hr dw tx.km tx.aK.kp tx.ku (ae (ay 0) (ae (ay 1) au))) (kU tx.Ea)))))
abbrev vR:List Str:=["scene", "name"]
theorem zx:aI vR lh (ah qO):=b6
def qZ (bv:PFn) (cW:PFn):En->Option Out :=
 (gP (Gm (lA HY (aC (oE (cm [none,some 0] (lI asL (lA bv (aC (eV 0) (aC (eV 1) aN)))) (tgN 0) fg (lA cW (aC (eV 1) (aC (eV 0) (aC (eC (.str "h")) aN)))))) aN))))
include tx bK dm dt iX in
theorem zN:FnOk Pr w K mg base CX0 (k+1) t.io t.ic lh (spP K (cI 2 2 (qZ bv cW))) :=
 fnP tx.f8 zx λ _ _ _ _ _ _ _ hr =>
  (@bt _ _ _ _ (iE (E.not (E.any rfl tx.CI (ae (bc (iL (N':=["step", "scene"]) (mp:=[none,some 0]) rfl (bp vR (ah qO) rfl rfl (by decide +kernel)) (aP (i:=0)) (by decide) (I.list (aX bK hr dm tx.mH tx.aS.kp tx.mY (ae (ay 0) (ae (ay 1) au)))) (λ _ _ _=>⟨(oA 0),Ts.nil,(aX dt hr iX tx.qV tx.bj.kp tx.ro (ae (ay 1) (ae (ay 0) (ae (E.globS tx.CJ) au))))⟩))) au)))))
abbrev pf:List Str:=["scene", "name", "path", "left", "top", "last"]
theorem lg:aI pf mF (ah mv):=b6
def o4 (bv:PFn) (bD:PFn):En->Option Out :=
 (cT (oK 2 (cm [none,some 0] (lI asL (lA bv (aC (eV 0) (aC (eV 1) aN)))) (tgN 0) fg (lA bD (aC (eV 1) (aC (eV 0) aN)))))
  (λ η=>(cT (fC 3 (lA BV (aC (oE (cm [none] (lI asL (eV 2)) (tgN 0) fg (l2 pIx (eV 0) (eC (.int 2))))) aN)))
  (cT (fC 4 (lA BV (aC (oE (cm [none] (lI asL (eV 2)) (tgN 0) fg (l2 pIx (eV 0) (eC (.int 3))))) aN)))
  (cT (fC 5 (lA bD (aC (eV 0) (aC (eV 1) aN))))
  (gP (lA tpF (aC (eV 3) (aC (eV 4) (aC (l2 aH (eV 3) (l2 pIx (eV 5) (eC (.int 4)))) (aC (l2 aH (eV 4) (l2 pIx (eV 5) (eC (.int 5)))) aN))))))))) (frz 2 η)))
include tx bV dw bK dm in
theorem AY:FnOk Pr w K mg base CX0 (k+1) t.jo t.ji mF (spP K (cI 2 6 (o4 bv bD))) :=
 fnP tx.cZ lg λ _ _ _ _ _ _ _ hr =>
  (@bf _ _ _ _ _ _ (S.setC 2 (N':=["step", "scene"]) (mp:=[none,some 0]) rfl lg.nd (bp pf (ah mv) rfl rfl (by decide +kernel)) (aP (i:=0)) (by decide) (I.list (aX bK hr dm tx.mH tx.aS.kp tx.mY (ae (ay 0) (ae (ay 1) au)))) (λ _ _ _=>⟨(oA 0),Ts.nil,(aX bV hr dw tx.km tx.aK.kp tx.ku (ae (ay 1) (ae (ay 0) au)))⟩))
  (@Ss.frz _ _ _ _ 2 (@bf _ _ _ _ _ _ (iZ 3 lg.nd (E.sum rfl tx.CG (ae (bc (iL (N':=["box"]) (mp:=[none]) rfl (bp pf (ah mv) rfl rfl (by decide +kernel)) (aP (i:=0)) (by decide) (I.list (ay 2)) (λ _ _ _=>⟨(oA 0),Ts.nil,(di (ay 0) (kU tx.Gj))⟩))) au)))
  (@bf _ _ _ _ _ _ (iZ 4 lg.nd (E.sum rfl tx.CG (ae (bc (iL (N':=["box"]) (mp:=[none]) rfl (bp pf (ah mv) rfl rfl (by decide +kernel)) (aP (i:=0)) (by decide) (I.list (ay 2)) (λ _ _ _=>⟨(oA 0),Ts.nil,(di (ay 0) (kU tx.G5))⟩))) au)))
  (@bf _ _ _ _ _ _ (iZ 5 lg.nd (aX bV hr dw tx.km tx.aK.kp tx.ku (ae (ay 0) (ae (ay 1) au))))
  (@bt _ _ _ _ (iE (i6 (ae (ay 3) (ae (ay 4) (ae (bW (ay 3) (di (ay 5) (kU tx.D9))) (ae (bW (ay 4) (di (ay 5) (kU tx.CK))) au))))))))))))
abbrev CB:List Str:=["one", "other", "left", "top"]
theorem qN:aI CB mz (ah wz):=b6
def sM  : En->Option Out :=
 (cT (fC 2 (lA GD (aC (l2 pIx (eV 0) (eC (.int 0))) (aC (l2 pIx (eV 1) (eC (.int 0))) aN))))
  (cT (fC 3 (lA GD (aC (l2 pIx (eV 0) (eC (.int 1))) (aC (l2 pIx (eV 1) (eC (.int 1))) aN))))
  (gP (lA tpF (aC (eV 2) (aC (eV 3) (aC (lA GC (aC (l2 pIx (eV 0) (eC (.int 2))) (aC (l2 pIx (eV 1) (eC (.int 2))) aN))) (aC (lA GC (aC (l2 pIx (eV 0) (eC (.int 3))) (aC (l2 pIx (eV 1) (eC (.int 3))) aN))) aN))))))))
include tx in
theorem AW:FnOk Pr w K mg base CX0 (k+1) t.jm t.jg mz (spP K (cI 2 4 (sM))) :=
 fnP tx.fW qN λ _ _ _ _ _ _ _ hr =>
  (@bf _ _ _ _ _ _ (iZ 2 qN.nd (E.max rfl tx.zm (ae (di (ay 0) aq) (ae (di (ay 1) aq) au))))
  (@bf _ _ _ _ _ _ (iZ 3 qN.nd (E.max rfl tx.zm (ae (di (ay 0) aq) (ae (di (ay 1) aq) au))))
  (@bt _ _ _ _ (iE (i6 (ae (ay 2) (ae (ay 3) (ae (E.min rfl tx.zl (ae (di (ay 0) aq) (ae (di (ay 1) aq) au))) (ae (E.min rfl tx.zl (ae (di (ay 0) aq) (ae (di (ay 1) aq) au))) au)))))))))
abbrev AD:List Str:=["scene", "name", "window", "step"]
theorem lJ:aI AD ke (ah uc):=b6
def pZ (lE:PFn) (bv:PFn) (cW:PFn) (nY:PFn):En->Option Out :=
 (cT (fC 2 (lA lE (aC (eV 0) (aC (eV 1) aN))))
  (cT (qS (lI asL (lA bv (aC (eV 0) (aC (eV 1) aN)))) (tgN 3)
  (sIf (bT (lA cW (aC (eV 0) (aC (eV 3) (aC (eC (.str "c")) aN))))) (fC 2 (lA nY (aC (eV 2) (aC (lA lE (aC (eV 0) (aC (eV 3) aN))) aN)))) sNx))
  (gP (eV 2))))
include tx bK dm dt iX m8 qY pi vM in
theorem yJ:FnOk Pr w K mg base CX0 (k+1) t.gz t.gl ke (spP K (cI 2 4 (pZ lE bv cW nY))) :=
 fnP tx.fq lJ λ _ _ _ _ _ _ _ hr =>
  (@bf _ _ _ _ _ _ (iZ 2 lJ.nd (aX m8 hr qY tx.wS tx.cZ.kp tx.xo (ae (ay 0) (ae (ay 1) au))))
  (@bf _ _ _ _ _ _ (@S.for _ _ _ _ _ _ _ _ _ _ _ Qv rfl (I.list (aX bK hr dm tx.mH tx.aS.kp tx.mY (ae (ay 0) (ae (ay 1) au)))) (dR (i:=3) lJ.nd rfl (by first | exact Or.inl rfl | exact Or.inr rfl) ) (aP (i:=3))
  (@bt _ _ _ _ (@S.ifS _ _ _ _ _ _ _ _ _ (T.val (aX dt hr iX tx.qV tx.bj.kp tx.ro (ae (ay 0) (ae (ay 3) (ae (E.globS tx.AO) au))))) (@bt _ _ _ _ (iZ 2 lJ.nd (aX pi hr vM tx.B9 tx.fW.kp tx.Cu (ae (ay 2) (ae (aX m8 hr qY tx.wS tx.cZ.kp tx.xo (ae (ay 0) (ae (ay 3) au))) au))))) Ss.nil)) (λ _=>rfl))
  (@bt _ _ _ _ (iE (ay 2)))))
abbrev uN:List Str:=["scene", "names"]
theorem wu:aI uN oj (ah qp):=b6
def uH (nX:PFn) (mU:PFn) (cW:PFn) (lP:PFn):En->Option Out :=
 (cT (oK 1 (cm [none,some 0] (λ η=>((aC (lA nX (aC (eV 0) aN)) aN) η).bind rvS) (tgN 0) (bT (lA mU (aC (eV 1) (aC (eV 0) aN)))) (eV 0)))
  (λ η=>(gP (oE (cm [none,some 0] (lI asL (eV 1)) (tgN 0) (E9 (bT (lA cW (aC (eV 1) (aC (eV 0) (aC (eC (.str "l")) aN)))))) (lA tpF (aC (eV 0) (aC (lA lP (aC (eV 1) (aC (eV 0) aN))) aN)))))) (frz 1 η)))
include tx dt iX ph vL n4 uE m6 tz in
theorem B4:FnOk Pr w K mg base CX0 (k+1) t.kx t.kr oj (spP K (cI 1 2 (uH nX mU cW lP))) :=
 fnP tx.kC wu λ _ _ _ _ _ _ _ hr =>
  (@bf _ _ _ _ _ _ (S.setC 1 (N':=["name", "scene"]) (mp:=[none,some 0]) rfl wu.nd (bp uN (ah qp) rfl rfl (by decide +kernel)) (aP (i:=0)) (by decide) (I.rev rfl tx.vn (ae (aX ph hr vL tx.B8 tx.fe.kp tx.Ct (ae (ay 0) au)) au)) (λ _ _ _=>⟨(oA 0),(Ts.one (T.val (aX n4 hr uE tx.A0 tx.f8.kp tx.A5 (ae (ay 1) (ae (ay 0) au))))),(ay 0)⟩))
  (@Ss.frz _ _ _ _ 1 (@bt _ _ _ _ (iE (bc (iL (N':=["name", "scene"]) (mp:=[none,some 0]) rfl (bp uN (ah qp) rfl rfl (by decide +kernel)) (aP (i:=0)) (by decide) (I.list (ay 1)) (λ _ _ _=>⟨(oA 0),(Ts.one (T.not (T.val (aX dt hr iX tx.qV tx.bj.kp tx.ro (ae (ay 1) (ae (ay 0) (ae (E.globS tx.BF) au))))))),(i6 (ae (ay 0) (ae (aX m6 hr tz tx.zW tx.fq.kp tx.Av (ae (ay 1) (ae (ay 0) au))) au)))⟩)))))))
abbrev AE:List Str:=["area", "x", "y"]
theorem yG:aI AE kf (ah ud):=b6
def p0  : En->Option Out :=
 (gP (CN (lch pLe pLt (l2 pIx (eV 0) (eC (.int 0))) (eV 1) (l2 pIx (eV 0) (eC (.int 2)))) (lch pLe pLt (l2 pIx (eV 0) (eC (.int 1))) (eV 2) (l2 pIx (eV 0) (eC (.int 3))))))
include tx in
theorem yK:FnOk Pr w K mg base CX0 (k+1) t.gA t.gm kf (spP K (cI 3 3 (p0))) :=
 fnP tx.bO yG λ _ _ _ _ _ _ _ hr =>
  (@bt _ _ _ _ (iE (E.and (E.chain Bm (sv λ _ _ _=>fE) Dh (sv λ _ _ _=>fE) (di (ay 0) aq) (ay 1) (di (ay 0) aq)) (E.one (E.chain Bm (sv λ _ _ _=>fE) Dh (sv λ _ _ _=>fE) (di (ay 0) aq) (ay 2) (di (ay 0) aq))))))
abbrev Bc:List Str:=["rows", "x", "y", "name", "window"]
theorem pq:aI Bc ln (ah vt):=b6
def lB (lQ:PFn):En->Option Out :=
 (cT (qS (lI asL (eV 0)) (tgT (bG (tgN 3) (bG (tgN 4) kX)))
  (sIf (bT (lA lQ (aC (eV 4) (aC (eV 1) (aC (eV 2) aN))))) (gP (eV 3)) sNx))
  (gP (eC .none)))
include tx m7 tD in
theorem zQ:FnOk Pr w K mg base CX0 (k+1) t.iu t.ii ln (spP K (cI 3 5 (lB lQ))) :=
 fnP tx.iC pq λ _ _ _ _ _ _ _ hr =>
  (@bf _ _ _ _ _ _ (@S.for _ _ _ _ _ _ _ _ _ _ _ Qv rfl (I.list (ay 0)) (xI (n:=2) rfl (jv (dR (i:=3) pq.nd rfl (by first | exact Or.inl rfl | exact Or.inr rfl) ) (jv (dR (i:=4) pq.nd rfl (by first | exact Or.inl rfl | exact Or.inr rfl) ) uV))) (TgP.tup (n:=2) (gU (aP (i:=3)) (gU (aP (i:=4)) TgsP.nil)) (uT))
  (@bt _ _ _ _ (@S.ifS _ _ _ _ _ _ _ _ _ (T.val (aX m7 hr tD tx.zX tx.bO.kp tx.Aw (ae (ay 4) (ae (ay 1) (ae (ay 2) au))))) (@bt _ _ _ _ (iE (ay 3))) Ss.nil)) (λ _=>rfl))
  (@bt _ _ _ _ (iE eY)))
abbrev Jl:List Str:=["scene", "x", "y"]
theorem Gw:aI Jl uk (ah C1):=b6
def Am (o9:PFn) (mW:PFn):En->Option Out :=
 (gP (lA mW (aC (lA o9 (aC (eV 0) aN)) (aC (eV 1) (aC (eV 2) aN)))))
include tx qJ xi n5 uF in
theorem GH:FnOk Pr w K mg base CX0 (k+1) t.qf t.qb uk (spP K (cI 3 3 (Am o9 mW))) :=
 fnP tx.qj Gw λ _ _ _ _ _ _ _ hr =>
  (@bt _ _ _ _ (iE (aX n5 hr uF tx.A1 tx.iC.kp tx.A6 (ae (aX qJ hr xi tx.Dq tx.kC.kp tx.DZ (ae (ay 0) au)) (ae (ay 1) (ae (ay 2) au))))))
abbrev Ba:List Str:=["scene", "x", "y", "name"]
theorem t8:aI Ba lj (ah vp):=b6
def rc (uX:PFn) (bv:PFn):En->Option Out :=
 (cT (fC 3 (lA uX (aC (eV 0) (aC (eV 1) (aC (eV 2) aN)))))
  (gP (vIf (bT (l2 (jB false) (eV 3) (eC .none))) (oE (λ η=>(aN η).bind gL)) (lA bv (aC (eV 0) (aC (eV 3) aN))))))
include tx bK dm xz Bu in
theorem zO:FnOk Pr w K mg base CX0 (k+1) t.iq t.ie lj (spP K (cI 3 4 (rc uX bv))) :=
 fnP tx.aL t8 λ _ _ _ _ _ _ _ hr =>
  (@bf _ _ _ _ _ _ (iZ 3 t8.nd (aX xz hr Bu tx.Ii tx.qj.kp tx.IX (ae (ay 0) (ae (ay 1) (ae (ay 2) au)))))
  (@bt _ _ _ _ (iE (E.ifE (T.isN (ay 3) eY) (bc (bA au)) (aX bK hr dm tx.mH tx.aS.kp tx.mY (ae (ay 0) (ae (ay 3) au)))))))
abbrev D2:List Str:=["one", "other", "names", "name", "counterpart"]
theorem oT:aI D2 ol (ah yp):=b6
def uI  : En->Option Out :=
 (cT (oK 2 (λ η=>(aN η).bind gL))
  (cT (qS (λ η=>((aC (eV 0) (aC (eV 1) aN)) η).bind zpL) (tgT (bG (tgN 3) (bG (tgN 4) kX)))
  (cT (sIf (bT (l2 pNe (eV 3) (eV 4))) sBk sNx)
  (Hq 2 (eV 3))))
  (C2 2)))
include tx in
theorem B5:FnOk Pr w K mg base CX0 (k+1) t.kz t.kt ol (spP K (cI 2 5 (uI))) :=
 fnP tx.f7 oT λ _ _ _ _ _ _ _ hr =>
  (@bf _ _ _ _ _ _ (S.setO 2 oT.nd (bA au))
  (@bf _ _ _ _ _ _ (@S.for _ _ _ _ _ _ _ _ _ _ _ Qv rfl (I.zip tx.G4 (ae (ay 0) (ae (ay 1) au))) (xI (n:=2) rfl (jv (dR (i:=3) oT.nd rfl (by first | exact Or.inl rfl | exact Or.inr rfl) ) (jv (dR (i:=4) oT.nd rfl (by first | exact Or.inl rfl | exact Or.inr rfl) ) uV))) (TgP.tup (n:=2) (gU (aP (i:=3)) (gU (aP (i:=4)) TgsP.nil)) (uT))
  (@bf _ _ _ _ _ _ (@S.ifS _ _ _ _ _ _ _ _ _ (T.ne hr (ay 3) (ay 4)) (@bt _ _ _ _ S.brk) Ss.nil)
  (@bt _ _ _ _ (S.app 2 (ay 3)))) (λ _=>rfl))
  (@bt _ _ _ _ (S.retO 2))))
abbrev oG:List Str:=["self", "path", "stays", "leaves"]
theorem nA:aI oG jA (ah lL):=b6
def oB (jb:PFn):Wd->Option MOut :=
 (aM (bR 2 (mP (lA va (aC (lA jb (aC (gR 0 "trail") (aC (eV 1) aN))) aN))))
  (aM (bR 3 (mC (cm [none] (λ η=>((aC (eSl (gR 0 "trail") (pS (eV 2)) pN) aN) η).bind rvS) (tgN 0) fg (lA tpF (aC (eC (.str "leave")) (aC (eV 0) aN))))))
  (aM (mj 0 "trail" (mV 0) (mP (lA BY (aC (eV 1) aN))))
  (fw (mP (l2 aH (eV 3) (oE (cm [none] (lI asL (eSl (eV 1) (pS (eV 2)) pN)) (tgN 0) fg (lA tpF (aC (eC (.str "enter")) (aC (eV 0) aN)))))))))))
include tx kB oW in
theorem xO:FnOk Pr w K mg base CX0 (k+1) t.fO t.fJ jA (spM K (cl t) (dO 2 4 (oB jb))) :=
 fnM tx.br nA λ _ _ _ _ _ _ hr =>
  (@aj _ _ _ _ _ _ (bo 2 nA.nd (af λ _=>(E.len tx.tY (ae (aX kB hr oW tx.yt tx.f7.kp tx.yE (ae (kE 0) (ae (ay 1) au))) au))))
  (@aj _ _ _ _ _ _ (@MS.setC _ _ _ _ _ _ _ ["name"] [none] _ _ _ _ _ _ _ 3 _ _ _ rfl nA.nd (bp oG (ah lL) rfl rfl (by decide +kernel)) (aP (i:=0)) (by decide) (λ _=>(I.rev rfl tx.vn (ae (E.sl (kE 0) (kA (ay 2)) qg) au))) (λ _ _ _ _=>⟨(oA 0),Ts.nil,(i6 (ae ba (ae (ay 0) au)))⟩) rfl rfl rfl (λ _=>rfl))
  (@aj _ _ _ _ _ _ (gS (k:=0) (a8 0) (af λ _=>(E.listL tx.Be (ae (ay 1) au))) tx.nv)
  (@aG _ _ _ _ (b0 (af λ _=>(bW (ay 3) (bc (iL (N':=["name"]) (mp:=[none]) rfl (bp oG (ah lL) rfl rfl (by decide +kernel)) (aP (i:=0)) (by decide) (I.list (E.sl (ay 1) (kA (ay 2)) qg)) (λ _ _ _=>⟨(oA 0),Ts.nil,(i6 (ae ba (ae (ay 0) au)))⟩))))))))))
abbrev sB:List Str:=["self", "hand", "moment", "x", "y", "one", "path"]
theorem mn:aI sB iR (ah nC):=b6
def kJ (ax:DFn) (a7:DFn) (cV:PFn) (b9:DFn):Wd->Option MOut :=
 (aM (bR 5 (bu 1 "hand_of" ax (mV 0) (maC (mP (eV 1)) maN)))
  (aM (mIf (tPv (bT (l2 (jB true) (gR 5 "held_by") (eC .none)))) (fw (mFz (bu 0 "tell_holder" a7 (mV 5) (maC (mP (eC (.str "move"))) maN)))) mNx)
  (aM (bR 6 (mP (lA cV (aC (gR 0 "scene") (aC (eV 3) (aC (eV 4) aN))))))
  (fw (mOp aH (bu 0 "lead" b9 (mV 5) (maC (mP (eV 6)) maN)) (mP (oE (cm [none] (lI asL (eSl (eV 6) (pS (l1 sG (eC (.int 1)))) pN)) (tgN 0) fg (lA tpF (aC (eC (.str "move")) (aC (eV 0) aN)))))))))))
include tx az aR a9 cr dq iW cG gd in
theorem wI:FnOk Pr w K mg base CX0 (k+1) t.eI t.d8 iR (spM K (cl t) (dO 5 7 (kJ ax a7 cV b9))) :=
 fnM tx.dh mn λ _ _ _ _ _ _ hr =>
  (@aj _ _ _ _ _ _ (bo 5 mn.nd (bz (kc:=1) (a8 0) tx.aJ tx.cv az hr aR tx.cO (ag (af λ _=>(ay 1)) aQ)))
  (@aj _ _ _ _ _ _ (@eO _ _ _ _ _ _ _ _ _ (qi λ _=>(T.notN (kE 5) eY)) (@aG _ _ _ _ (b0 (qI (bz (kc:=0) (a8 5) tx.hZ tx.iV a9 hr cr tx.jj (ag (af λ _=>ba) aQ))))) dk)
  (@aj _ _ _ _ _ _ (bo 6 mn.nd (af λ _=>(aX dq hr iW tx.qU tx.aL.kp tx.rj (ae (kE 0) (ae (ay 3) (ae (ay 4) au))))))
  (@aG _ _ _ _ (b0 (ME.add (bz (kc:=0) (a8 5) tx.hZ tx.nE cG hr gd tx.oC (ag (af λ _=>(ay 6)) aQ)) (af λ _=>(bc (iL (N':=["name"]) (mp:=[none]) rfl (bp sB (ah nC) rfl rfl (by decide +kernel)) (aP (i:=0)) (by decide) (I.list (E.sl (ay 6) (kA (tQ aq)) qg)) (λ _ _ _=>⟨(oA 0),Ts.nil,(i6 (ae ba (ae (ay 0) au)))⟩))))))))))
abbrev yj:List Str:=["self", "hand", "moment", "x", "y", "one", "path", "rows"]
theorem gW:aI yj iT (ah rM):=b6
def kK (ax:DFn) (cV:PFn) (b9:DFn) (a7:DFn):Wd->Option MOut :=
 (aM (bR 5 (bu 1 "hand_of" ax (mV 0) (maC (mP (eV 1)) maN)))
  (aM (mIf (tPv (bT (l2 (jB true) (gR 5 "pressed_at") (eC .none)))) (fw (mP (oE (λ η=>(aN η).bind gL)))) mNx)
  (aM (bR 6 (mP (lA cV (aC (gR 0 "scene") (aC (eV 3) (aC (eV 4) aN))))))
  (aM (mj 0 "pressed_at" (mV 5) (mP (eV 6)))
  (aM (bR 7 (mP (oE (λ η=>(aN η).bind gL))))
  (aM (mIf (tPv (bT (l2 (jB false) (gR 5 "held_by") (eC .none)))) (aM (bR 7 (bu 0 "lead" b9 (mV 5) (maC (mP (eV 6)) maN)))
  (mj 0 "held_by" (mV 5) (mP (vIf (bTr (eV 6)) (l2 pIx (eV 6) (l1 sG (eC (.int 1)))) (eC .none))))) mNx)
  (fw (mOp aH (mP (eV 7)) (mFz (bu 0 "tell_holder" a7 (mV 5) (maC (mP (eC (.str "down"))) maN)))))))))))
include tx az aR a9 cr dq iW cG gd in
theorem wL:FnOk Pr w K mg base CX0 (k+1) t.eM t.ee iT (spM K (cl t) (dO 5 8 (kK ax cV b9 a7))) :=
 fnM tx.bi gW λ _ _ _ _ _ _ hr =>
  (@aj _ _ _ _ _ _ (bo 5 gW.nd (bz (kc:=1) (a8 0) tx.aJ tx.cv az hr aR tx.cO (ag (af λ _=>(ay 1)) aQ)))
  (@aj _ _ _ _ _ _ (@eO _ _ _ _ _ _ _ _ _ (qi λ _=>(T.notN (kE 5) eY)) (@aG _ _ _ _ (b0 (af λ _=>(bc (bA au))))) dk)
  (@aj _ _ _ _ _ _ (bo 6 gW.nd (af λ _=>(aX dq hr iW tx.qU tx.aL.kp tx.rj (ae (kE 0) (ae (ay 3) (ae (ay 4) au))))))
  (@aj _ _ _ _ _ _ (gS (k:=0) (a8 5) (af λ _=>(ay 6)) tx.gM)
  (@aj _ _ _ _ _ _ (bo 7 gW.nd (af λ _=>(bc (bA au))))
  (@aj _ _ _ _ _ _ (@eO _ _ _ _ _ _ _ _ _ (qi λ _=>(T.isN (kE 5) eY)) (@aj _ _ _ _ _ _ (bo 7 gW.nd (bz (kc:=0) (a8 5) tx.hZ tx.nE cG hr gd tx.oC (ag (af λ _=>(ay 6)) aQ)))
  (@aG _ _ _ _ (gS (k:=0) (a8 5) (af λ _=>(E.ifE (T.tru (ay 6)) (di (ay 6) (tQ aq)) eY)) tx.dS))) dk)
  (@aG _ _ _ _ (b0 (ME.add (af λ _=>(ay 7)) (qI (bz (kc:=0) (a8 5) tx.hZ tx.iV a9 hr cr tx.jj (ag (af λ _=>ba) aQ))))))))))))
abbrev xx:List Str:=["self", "path", "names"]
theorem pA:aI xx gX (ah qr):=b6
def mS (jb:PFn):Wd->Option MOut :=
 (aM (bR 2 (mP (lA jb (aC (gR 0 "pressed_at") (aC (eV 1) aN)))))
  (aM (mj 0 "pressed_at" (mV 0) (mP (eC .none)))
  (aM (mj 0 "held_by" (mV 0) (mP (eC .none)))
  (fw (mP (eSl (eV 2) (pS (l1 sG (eC (.int 1)))) pN))))))
include tx kB oW in
theorem v4:FnOk Pr w K mg base CX0 (k+1) t.dF t.dD gX (spM K (cl t) (dO 2 3 (mS jb))) :=
 fnM tx.dJ pA λ _ _ _ _ _ _ hr =>
  (@aj _ _ _ _ _ _ (bo 2 pA.nd (af λ _=>(aX kB hr oW tx.yt tx.f7.kp tx.yE (ae (kE 0) (ae (ay 1) au)))))
  (@aj _ _ _ _ _ _ (gS (k:=0) (a8 0) (af λ _=>eY) tx.gM)
  (@aj _ _ _ _ _ _ (gS (k:=0) (a8 0) (af λ _=>eY) tx.dS)
  (@aG _ _ _ _ (b0 (af λ _=>(E.sl (ay 2) (kA (tQ aq)) qg)))))))
abbrev yk:List Str:=["self", "name", "moment", "is_soon", "is_double"]
theorem mt:aI yk iU (ah rN):=b6
def nM  : Wd->Option MOut :=
 (aM (bR 3 (mP (l2 pLe (l2 wB (eV 2) (gR 0 "clicked_moment")) (eC (.int 20)))))
  (aM (bR 4 (mP (CN (l2 pEq (gR 0 "clicked") (eV 1)) (CN (eV 3) (Gm (gR 0 "was_double"))))))
  (aM (mj 0 "clicked" (mV 0) (mP (eV 1)))
  (aM (mj 0 "clicked_moment" (mV 0) (mP (eV 2)))
  (aM (mj 0 "was_double" (mV 0) (mP (eV 4)))
  (fw (mP (vIf (bTr (eV 4)) (oE (λ η=>((aC (lA tpF (aC (eC (.str "click")) (aC (eV 1) aN))) (aC (lA tpF (aC (eC (.str "double")) (aC (eV 1) aN))) aN)) η).bind gL)) (oE (λ η=>((aC (lA tpF (aC (eC (.str "click")) (aC (eV 1) aN))) aN) η).bind gL))))))))))
include tx in
theorem wM:FnOk Pr w K mg base CX0 (k+1) t.eN t.eA iU (spM K (cl t) (dO 3 5 (nM))) :=
 fnM tx.cK mt λ _ _ _ _ _ _ hr =>
  (@aj _ _ _ _ _ _ (bo 3 mt.nd (af λ _=>(E.le (E.sub (ay 2) (kE 0)) (kU tx.u0))))
  (@aj _ _ _ _ _ _ (bo 4 mt.nd (af λ _=>(E.and (E.eq hr (kE 0) (ay 1)) (E.and (ay 3) (E.one (E.not (kE 0)))))))
  (@aj _ _ _ _ _ _ (gS (k:=0) (a8 0) (af λ _=>(ay 1)) tx.pk)
  (@aj _ _ _ _ _ _ (gS (k:=0) (a8 0) (af λ _=>(ay 2)) tx.kW)
  (@aj _ _ _ _ _ _ (gS (k:=0) (a8 0) (af λ _=>(ay 4)) tx.nr)
  (@aG _ _ _ _ (b0 (af λ _=>(E.ifE (T.tru (ay 4)) (bc (bA (ae (i6 (ae ba (ae (ay 1) au))) (ae (i6 (ae ba (ae (ay 1) au))) au)))) (bc (bA (ae (i6 (ae ba (ae (ay 1) au))) au))))))))))))
abbrev AJ:List Str:=["self", "hand", "moment", "x", "y", "one", "path", "rows", "name"]
theorem jt:aI AJ kl (ah ui):=b6
def mR (ax:DFn) (cV:PFn) (a7:DFn) (jc:DFn) (jX:DFn) (b9:DFn):Wd->Option MOut :=
 (aM (bR 5 (bu 1 "hand_of" ax (mV 0) (maC (mP (eV 1)) maN)))
  (aM (mIf (tPv (bT (l2 (jB false) (gR 5 "pressed_at") (eC .none)))) (fw (mP (oE (λ η=>(aN η).bind gL)))) mNx)
  (aM (bR 6 (mP (lA cV (aC (gR 0 "scene") (aC (eV 3) (aC (eV 4) aN))))))
  (aM (bR 7 (bu 0 "tell_holder" a7 (mV 5) (maC (mP (eC (.str "up"))) maN)))
  (aM (xU [8] (iM (bu 0 "let_go" jc (mV 5) (maC (mP (eV 6)) maN))) (tgN 8)
  (qX (wV (mV 7) (bu 0 "click" jX (mV 5) (maC (mP (eV 8)) (maC (mP (eV 2)) maN))))))
  (fw (mOp aH (mFz (mV 7)) (bu 0 "lead" b9 (mV 5) (maC (mP (eV 6)) maN)))))))))
include tx az aR a9 cr dq iW cG gd jY pX kT qG in
theorem yQ:FnOk Pr w K mg base CX0 (k+1) t.gG t.gx kl (spM K (cl t) (dO 5 9 (mR ax cV a7 jc jX b9))) :=
 fnM tx.bP jt λ _ _ _ _ _ _ hr =>
  (@aj _ _ _ _ _ _ (bo 5 jt.nd (bz (kc:=1) (a8 0) tx.aJ tx.cv az hr aR tx.cO (ag (af λ _=>(ay 1)) aQ)))
  (@aj _ _ _ _ _ _ (@eO _ _ _ _ _ _ _ _ _ (qi λ _=>(T.isN (kE 5) eY)) (@aG _ _ _ _ (b0 (af λ _=>(bc (bA au))))) dk)
  (@aj _ _ _ _ _ _ (bo 6 jt.nd (af λ _=>(aX dq hr iW tx.qU tx.aL.kp tx.rj (ae (kE 0) (ae (ay 3) (ae (ay 4) au))))))
  (@aj _ _ _ _ _ _ (bo 7 jt.nd (bz (kc:=0) (a8 5) tx.hZ tx.iV a9 hr cr tx.jj (ag (af λ _=>ba) aQ)))
  (@aj _ _ _ _ _ _ (@MS.for _ _ _ _ _ _ _ _ _ _ _ Qv rfl (MI.list (bz (kc:=0) (a8 5) tx.hZ tx.v7 jY hr pX tx.xq (ag (af λ _=>(ay 6)) aQ))) (dR (i:=8) jt.nd rfl (by first | exact Or.inl rfl | exact Or.inr rfl) ) (aP (i:=8))
  (@aG _ _ _ _ (MS.exp (ME.extC (a8 7) (bz (kc:=0) (a8 5) tx.hZ tx.wQ kT hr qG tx.yb (ag (af λ _=>(ay 8)) (ag (af λ _=>(ay 2)) aQ)))))) (λ _=>rfl))
  (@aG _ _ _ _ (b0 (ME.add (qI (a8 7)) (bz (kc:=0) (a8 5) tx.hZ tx.nE cG hr gd tx.oC (ag (af λ _=>(ay 6)) aQ))))))))))
abbrev y0:List Str:=["_law_hands", "_law_way", "_law_number", "_law_moment", "_law_x", "_law_y"]
theorem xG:aI y0 jz (ah sY):=b6
def jF (jV:DFn) (cq:DFn) (cY:DFn):Wd->Option MOut :=
 (aM (mIf (tPv (bT (l2 pEq (eV 1) (eC (.int 0))))) (fw (bu 1 "move" jV (mV 0) (maC (mP (eV 2)) (maC (mP (eV 3)) (maC (mP (eV 4)) (maC (mP (eV 5)) maN)))))) mNx)
  (aM (mIf (tPv (bT (l2 pEq (eV 1) (eC (.int 1))))) (fw (bu 1 "down" cq (mV 0) (maC (mP (eV 2)) (maC (mP (eV 3)) (maC (mP (eV 4)) (maC (mP (eV 5)) maN)))))) mNx)
  (fw (bu 1 "up" cY (mV 0) (maC (mP (eV 2)) (maC (mP (eV 3)) (maC (mP (eV 4)) (maC (mP (eV 5)) maN))))))))
include tx kR qE cJ fB dH gT in
theorem xN:FnOk Pr w K mg base CX0 (k+1) t.fN t.fI jz (spM K (cl t) (dO 6 6 (jF jV cq cY))) :=
 fnM tx.bN xG λ _ _ _ _ _ _ hr =>
  (@aj _ _ _ _ _ _ (@eO _ _ _ _ _ _ _ _ _ (qi λ _=>(yc hr (ay 1) aq)) (@aG _ _ _ _ (b0 (bz (kc:=1) (a8 0) tx.aJ tx.wO kR hr qE tx.xZ (ag (af λ _=>(ay 2)) (ag (af λ _=>(ay 3)) (ag (af λ _=>(ay 4)) (ag (af λ _=>(ay 5)) aQ))))))) dk)
  (@aj _ _ _ _ _ _ (@eO _ _ _ _ _ _ _ _ _ (qi λ _=>(yc hr (ay 1) aq)) (@aG _ _ _ _ (b0 (bz (kc:=1) (a8 0) tx.aJ tx.jP cJ hr fB tx.kO (ag (af λ _=>(ay 2)) (ag (af λ _=>(ay 3)) (ag (af λ _=>(ay 4)) (ag (af λ _=>(ay 5)) aQ))))))) dk)
  (@aG _ _ _ _ (b0 (bz (kc:=1) (a8 0) tx.aJ tx.lM dH hr gT tx.mZ (ag (af λ _=>(ay 2)) (ag (af λ _=>(ay 3)) (ag (af λ _=>(ay 4)) (ag (af λ _=>(ay 5)) aQ)))))))))
abbrev yh:List Str:=["self", "hand", "name", "one"]
theorem mq:aI yh dg (ah rK):=b6
def nJ (bD:PFn) (ax:DFn):Wd->Option MOut :=
 (aM (qX (mP (lA bD (aC (gR 0 "scene") (aC (eV 2) aN)))))
  (aM (bR 3 (bu 1 "hand_of" ax (mV 0) (maC (mP (eV 1)) maN)))
  (mj 0 "held_by" (mV 3) (mP (eV 2)))))
include tx bV dw az aR in
theorem wJ:FnOk Pr w K mg base CX0 (k+1) t.ce t.cb dg (spM K (cl t) (dO 3 4 (nJ bD ax))) :=
 fnM tx.bQ mq λ _ _ _ _ _ _ hr =>
  (@aj _ _ _ _ _ _ (MS.exp (af λ _=>(aX bV hr dw tx.km tx.aK.kp tx.ku (ae (kE 0) (ae (ay 2) au)))))
  (@aj _ _ _ _ _ _ (bo 3 mq.nd (bz (kc:=1) (a8 0) tx.aJ tx.cv az hr aR tx.cO (ag (af λ _=>(ay 1)) aQ)))
  (@aG _ _ _ _ (gS (k:=0) (a8 3) (af λ _=>(ay 2)) tx.dS))))
def jS (o8:List PD->Option Nat):MXF :=
 (mxP (λ η=>((aC (gR 0 "scene") (aC (eV 2) aN)) η).bind o8))
include tx in
theorem v0 {wX:Nat} {o8:List PD->Option Nat} (sS:FnOk Pr w K mg base (CXX Pr w) wX t.f6 t.fZ i7 (spX K (ca t) o8)) (Ju:wX<=k):FnOk Pr w K mg base (CXX Pr w) (k+1) t.ce t.cb dg (Gu K (cl t) (ca t) (C5 3 4 (jS o8))) :=
 Pl tx.bQ mq λ _ _ _ _ _ _ _ hr hx hm =>
  (MSsX.one (MSX.exp (MEX.pu λ _=>(EX.call sS hx hr (by omega) tx.km tx.aK.kp tx.ku (ae (kE 0) (ae (ay 2) au))))))
abbrev AG:List Str:=["_law_hands", "_law_number", "_law_name", "_law_e"]
theorem sW:aI AG ki (ah uf):=b6
def mO (dC:DFn) (jT:List D->Sto->Option (Nat×Sto)):Wd->Option MOut :=
 (EC (B7 1 "hold" jT (mV 0) (maC (mP (eV 1)) (maC (mP (eV 2)) maN))) (λ c=>if c < 4 then some (C6 c) else none)
  (fw (bu 1 "hold" dC (mV 0) (maC (mP (eV 1)) (maC (mP (eV 2)) maN)))))
include tx eS jR in
theorem yN (hk_ref:1<=k) {qz:Nat} {jT:List D->Sto->Option (Nat×Sto)} (nq:FnOk Pr w K mg base (CXX Pr w) qz t.ce t.cb dg (Gu K (cl t) (ca t) jT)) (EQ:qz<=k):FnOk Pr w K mg base CX0 (k+1) t.gD t.gq ki (spM K (cl t) (dO 3 4 (mO dC jT))) :=
 fnM tx.fu sW λ _ _ _ _ _ _ hr =>
  (@aG _ _ _ _ (MS.tryX (λ _ _=>(@aG _ _ _ _ (b0 (bz (kc:=1) (a8 0) tx.aJ tx.mG eS hr jR tx.nO (ag (af λ _=>(ay 1)) (ag (af λ _=>(ay 2)) aQ))))))
  (λ _ _ _ hx=>(MSsX.one (MSX.ret (MEX.meth (kc:=1) (a8 0) tx.aJ tx.mG nq hx hr (by omega) tx.nO (ag (af λ _=>(ay 1)) (ag (af λ _=>(ay 2)) aQ))))))
  (λ _=>(Hdl.as (i:=3) tx.yS tx.BE tx.xB tx.mro (xA tx) ((RoomC.of hr).mono hk_ref) tx.wT tx.qK.kp tx.xp sW.nd))))
abbrev yi:List Str:=["self", "hand", "one"]
theorem qo:aI yi iS (ah rL):=b6
def nK (ax:DFn):Wd->Option MOut :=
 (aM (bR 2 (bu 1 "hand_of" ax (mV 0) (maC (mP (eV 1)) maN)))
  (mj 0 "held_by" (mV 2) (mP (eC .none))))
include tx az aR in
theorem wK:FnOk Pr w K mg base CX0 (k+1) t.eJ t.d9 iS (spM K (cl t) (dO 2 3 (nK ax))) :=
 fnM tx.gf qo λ _ _ _ _ _ _ hr =>
  (@aj _ _ _ _ _ _ (bo 2 qo.nd (bz (kc:=1) (a8 0) tx.aJ tx.cv az hr aR tx.cO (ag (af λ _=>(ay 1)) aQ)))
  (@aG _ _ _ _ (gS (k:=0) (a8 2) (af λ _=>eY) tx.dS)))
abbrev yg:List Str:=["self", "hand"]
theorem ww:aI yg iQ (ah rJ):=b6
def nI (ax:DFn):Wd->Option MOut :=
 (fw (Cc (vg (bu 1 "hand_of" ax (mV 0) (maC (mP (eV 1)) maN)) "trail")))
include tx az aR in
theorem wH:FnOk Pr w K mg base CX0 (k+1) t.eG t.d7 iQ (spM K (cl t) (dO 2 2 (nI ax))) :=
 fnM tx.bC ww λ _ _ _ _ _ _ hr =>
  (@aG _ _ _ _ (b0 (ME.listC tx.Be (ME.fld (bz (kc:=1) (a8 0) tx.aJ tx.cv az hr aR tx.cO (ag (af λ _=>(ay 1)) aQ))))))
abbrev wk:List Str:=["self", "hand"]
theorem u9:aI wk gi (ah pG):=b6
def l7 (ax:DFn):Wd->Option MOut :=
 (fw (vg (bu 1 "hand_of" ax (mV 0) (maC (mP (eV 1)) maN)) "held_by"))
include tx az aR in
theorem ve:FnOk Pr w K mg base CX0 (k+1) t.c9 t.c6 gi (spM K (cl t) (dO 2 2 (l7 ax))) :=
 fnM tx.cE u9 λ _ _ _ _ _ _ hr =>
  (@aG _ _ _ _ (b0 (ME.fld (bz (kc:=1) (a8 0) tx.aJ tx.cv az hr aR tx.cO (ag (af λ _=>(ay 1)) aQ)))))
abbrev uP:List Str:=["_law_scene_here", "_law_hands", "_law_mine", "_law_way", "_law_moment", "_law_due"]
theorem cj:aI uP [] (ah og):=b6
def kn (aV:DFn) (dL:DFn) (dC:DFn) (dW:DFn) (dX:DFn):Wd->Option MOut :=
 (aM (bR 0 (mP (eC (.tuple [(.tuple [(.str "a"),(.str ""),(.int 0),(.int 0),(.int 5),(.int 5),(.str "")]),(.tuple [(.str "b"),(.str ""),(.int 10),(.int 0),(.int 5),(.int 5),(.str "")])]))))
  (aM (bR 1 (qv 1 aV (maC (mP (eV 0)) maN)))
  (aM (bR 2 (g6 dL maN))
  (aM (qX (bu 1 "hold" dC (mV 1) (maC (mP (eC (.int 1))) (maC (mP (eC (.str "a"))) maN))))
  (aM (jC (mV 2) (mP (eC (.str "held"))) (mP (eC (.str "a"))))
  (aM (xU [3,4] (iPu (lI qk (eC (.tuple [(.tuple [(.int 1),(.int 0)]),(.tuple [(.int 2),(.int 5)])])))) (tgT (bG (tgN 3) (bG (tgN 4) kX)))
  (aM (bR 5 (g6 dW (maC (mP (eV 0)) (maC (mV 2) (maC (mP (eV 3)) (maC (mP (eV 4)) (maC (mP (eC (.int 12))) (maC (mP (eC (.int 2))) maN))))))))
  (mIf (mB (dP pNe (g6 dX (maC (mV 1) (maC (mP (eV 3)) (maC (mP (eC (.int 1))) (maC (mP (eV 4)) (maC (mP (eC (.int 12))) (maC (mP (eC (.int 2))) maN))))))) (mP (eV 5)))) (fw (mP (eC (.bool false)))) mNx)))
  (fw (mP (eC (.bool true))))))))))
include tx eS jR aZ bH fo jE fP kH fQ kI in
theorem tV:FnOk Pr w K mg base CX0 (k+1) t.cz t.cx [] (spM K (cl t) (dO 0 6 (kn aV dL dC dW dX))) :=
 fnM tx.cD cj λ _ _ _ _ _ _ hr =>
  (@aj _ _ _ _ _ _ (@bo _ _ _ _ _ _ 0 _ cj.nd (@af _ _ _ _ (λ _=>(@E.cst _ _ _ _ (by kernel_rfl)))) rfl (by first | exact Or.inl rfl | exact Or.inr rfl) rfl (by first | exact .inl rfl | exact .inr rfl))
  (@aj _ _ _ _ _ _ (bo 1 cj.nd (ME.make (kc:=1) tx.aJ tx.n8 aZ hr bH tx.oa tx.fm (ag (af λ _=>(ay 0)) aQ)))
  (@aj _ _ _ _ _ _ (bo 2 cj.nd (ME.call0 fo hr jE tx.pM tx.bE.kp tx.qc))
  (@aj _ _ _ _ _ _ (MS.exp (bz (kc:=1) (a8 1) tx.aJ tx.mG eS hr jR tx.nO (ag (af λ _=>aq) (ag (af λ _=>ba) aQ))))
  (@aj _ _ _ _ _ _ (MS.putC hr (a8 2) (af λ _=>ba) (af λ _=>ba))
  (@aj _ _ _ _ _ _ (@MS.for _ _ _ _ _ _ _ _ _ _ _ Qv rfl (@MI.pu _ _ _ _ _ (λ _=>(@I.tup _ _ _ _ _ (@E.cst _ _ _ _ (by kernel_rfl))))) (xI (n:=2) rfl (jv (dR (i:=3) cj.nd rfl (by first | exact Or.inl rfl | exact Or.inr rfl) ) (jv (dR (i:=4) cj.nd rfl (by first | exact Or.inl rfl | exact Or.inr rfl) ) uV))) (TgP.tup (n:=2) (gU (aP (i:=3)) (gU (aP (i:=4)) TgsP.nil)) (uT))
  (@aj _ _ _ _ _ _ (bo 5 cj.nd (ME.call fP hr kH tx.tf tx.bn.kp tx.tL (ag (af λ _=>(ay 0)) (ag (a8 2) (ag (af λ _=>(ay 3)) (ag (af λ _=>(ay 4)) (ag (af λ _=>aq) (ag (af λ _=>aq) aQ))))))))
  (@aG _ _ _ _ (@eO _ _ _ _ _ _ _ _ _ (MT.ne hr (ME.call fQ hr kI tx.ti tx.bN.kp tx.tN (ag (a8 1) (ag (af λ _=>(ay 3)) (ag (af λ _=>aq) (ag (af λ _=>(ay 4)) (ag (af λ _=>aq) (ag (af λ _=>aq) aQ))))))) (af λ _=>(ay 5))) (@aG _ _ _ _ (b0 (af λ _=>AN))) dk))) (λ _=>rfl))
  (@aG _ _ _ _ (b0 (af λ _=>AN)))))))))
abbrev xw:List Str:=["scene", "name"]
theorem AR:aI xw mE (ah sE):=b6
def sN  : En->Option Out :=
 (gP (lA HY (aC (oE (cm [none,some 1] (lI qk (eV 0)) (tgN 0) fg (l2 pEq (l2 pIx (eV 0) (eC (.int 0))) (eV 1)))) aN)))
include tx in
theorem AX:FnOk Pr w K mg base CX0 (k+1) t.jn t.jh mE (spP K (cI 2 2 (sN))) :=
 fnP tx.dI AR λ _ _ _ _ _ _ _ hr =>
  (@bt _ _ _ _ (iE (E.any rfl tx.CI (ae (bc (iL (N':=["box", "name"]) (mp:=[none,some 1]) rfl (bp xw (ah sE) rfl rfl (by decide +kernel)) (aP (i:=0)) (by decide) (I.tup (ay 0)) (λ _ _ _=>⟨(oA 0),Ts.nil,(E.eq hr (di (ay 0) (kU tx.rB)) (ay 1))⟩))) au))))
abbrev sy:List Str:=["scene", "names"]
theorem wv:aI sy iO (ah nB):=b6
def nF (ib:PFn):En->Option Out :=
 (gP (oE (cm [none,some 0] (lI asL (eV 1)) (tgN 0) (bT (lA ib (aC (eV 1) (aC (eV 0) aN)))) (eV 0))))
include tx jp nU in
theorem wE:FnOk Pr w K mg base CX0 (k+1) t.eB t.dY iO (spP K (cI 2 2 (nF ib))) :=
 fnP tx.cf wv λ _ _ _ _ _ _ _ hr =>
  (@bt _ _ _ _ (iE (bc (iL (N':=["name", "scene"]) (mp:=[none,some 0]) rfl (bp sy (ah nB) rfl rfl (by decide +kernel)) (aP (i:=0)) (by decide) (I.list (ay 1)) (λ _ _ _=>⟨(oA 0),(Ts.one (T.val (aX jp hr nU tx.wR tx.dI.kp tx.xn (ae (ay 1) (ae (ay 0) au))))),(ay 0)⟩)))))
abbrev xy:List Str:=["self", "scene", "lost"]
theorem pB:aI xy gY (ah qt):=b6
def mT (hE:PFn) (ib:PFn):Wd->Option MOut :=
 (aM (mj 0 "trail" (mV 0) (mP (lA hE (aC (eV 1) (aC (gR 0 "trail") aN)))))
  (aM (mIf (tPv (bT (l2 (jB true) (gR 0 "pressed_at") (eC .none)))) (mj 0 "pressed_at" (mV 0) (mP (lA hE (aC (eV 1) (aC (gR 0 "pressed_at") aN))))) mNx)
  (aM (mIf (tPv (bOr (bT (l2 (jB false) (gR 0 "held_by") (eC .none))) (bT (lA ib (aC (eV 1) (aC (gR 0 "held_by") aN)))))) (fw (mP (oE (λ η=>(aN η).bind gL)))) mNx)
  (aM (bR 2 (mP (gR 0 "held_by")))
  (aM (mj 0 "held_by" (mV 0) (mP (eC .none)))
  (fw (mP (oE (λ η=>((aC (eV 2) aN) η).bind gL)))))))))
include tx jp nU i4 mK in
theorem v5:FnOk Pr w K mg base CX0 (k+1) t.dG t.dE gY (spM K (cl t) (dO 2 3 (mT hE ib))) :=
 fnM tx.cS pB λ _ _ _ _ _ _ hr =>
  (@aj _ _ _ _ _ _ (gS (k:=0) (a8 0) (af λ _=>(aX i4 hr mK tx.rS tx.cf.kp tx.sq (ae (ay 1) (ae (kE 0) au)))) tx.nv)
  (@aj _ _ _ _ _ _ (@eO _ _ _ _ _ _ _ _ _ (qi λ _=>(T.notN (kE 0) eY)) (@aG _ _ _ _ (gS (k:=0) (a8 0) (af λ _=>(aX i4 hr mK tx.rS tx.cf.kp tx.sq (ae (ay 1) (ae (kE 0) au)))) tx.gM)) dk)
  (@aj _ _ _ _ _ _ (@eO _ _ _ _ _ _ _ _ _ (qi λ _=>(TW.t (TW.or (T.isN (kE 0) eY) (TW.or1 (T.val (aX jp hr nU tx.wR tx.dI.kp tx.xn (ae (ay 1) (ae (kE 0) au)))))))) (@aG _ _ _ _ (b0 (af λ _=>(bc (bA au))))) dk)
  (@aj _ _ _ _ _ _ (bo 2 pB.nd (af λ _=>(kE 0)))
  (@aj _ _ _ _ _ _ (gS (k:=0) (a8 0) (af λ _=>eY) tx.dS)
  (@aG _ _ _ _ (b0 (af λ _=>(bc (bA (ae (ay 2) au)))))))))))
abbrev qh:List Str:=["self", "scene", "rows", "hand"]
theorem kY:aI qh gj (ah lY):=b6
def ma (jd:DFn):Wd->Option MOut :=
 (aM (mj 1 "scene" (mV 0) (mP (eV 1)))
  (aM (bR 2 (mN (λ η=>(aN η).bind gL)))
  (aM (xU [3] (iM (ED (vg (mV 0) "known"))) (tgN 3)
  (qX (wV (mV 2) (mFz (mcL [none,some 3] (iM (bu 0 "forget" jd (gQ (vg (mV 0) "known") (mP (eV 3))) (maC (mP (eV 1)) maN))) [0] (tgN 0) xF (mP (lA tpF (aC (eV 1) (aC (eV 0) aN)))))))))
  (fw (mFz (mV 2))))))
include tx jZ pY in
theorem vf:FnOk Pr w K mg base CX0 (k+1) t.de t.c7 gj (spM K (cl t) (dO 2 4 (ma jd))) :=
 fnM tx.df kY λ _ _ _ _ _ _ hr =>
  (@aj _ _ _ _ _ _ (gS (k:=1) (a8 0) (af λ _=>(ay 1)) tx.ql)
  (@aj _ _ _ _ _ _ (bo 2 kY.nd (ME.nw λ _=>(bA au)))
  (@aj _ _ _ _ _ _ (@MS.for _ _ _ _ _ _ _ _ _ _ _ Qv rfl (MI.list (ME.sortC hr tx.CH (ME.fld (a8 0)))) (dR (i:=3) kY.nd rfl (by first | exact Or.inl rfl | exact Or.inr rfl) ) (aP (i:=3))
  (@aG _ _ _ _ (MS.exp (ME.extC (a8 2) (qI (ME.lcomp (N':=["name", "hand"]) (mp:=[none,some 3]) rfl (bp qh (ah lY) rfl rfl (by decide +kernel)) (aP (i:=0)) (by decide) (MI.list (bz (kc:=0) (jN hr (ME.fld (a8 0)) (af λ _=>(ay 3))) tx.hZ tx.v8 jZ hr pY tx.xr (ag (af λ _=>(ay 1)) aQ))) (λ _ _ _=>⟨(oA 0),MTs.nil,(af λ _=>(i6 (ae (ay 1) (ae (ay 0) au))))⟩)))))) (λ _=>rfl))
  (@aG _ _ _ _ (b0 (qI (a8 2)))))))
abbrev yf:List Str:=["_law_one", "_law_gone", "_law_told", "_law_still", "_law_click", "_law_rows", "_law_down", "_law_up", "_law_double"]
theorem bU:aI yf [] (ah rH):=b6
def nH (aV:DFn) (cY:DFn) (fU:DFn) (cq:DFn):Wd->Option MOut :=
 (aM (bR 0 (mP (lA tpF (aC (eC (.str "a")) (aC (eC (.str "")) (aC (eC (.int 0)) (aC (eC (.int 0)) (aC (eC (.int 5)) (aC (eC (.int 5)) (aC (eC (.str "")) aN))))))))))
  (aM (bR 1 (qv 1 aV (maC (mP (lA tpF (aC (eV 0) aN))) maN)))
  (aM (bR 2 (mFz (yT (maC (bu 1 "down" cq (mV 1) (maC (mP (eC (.int 1))) (maC (mP (eC (.int 0))) (maC (mP (eC (.int 2))) (maC (mP (eC (.int 2))) maN))))) (maC (bu 1 "change" fU (mV 1) (maC (mP (eC (.tuple [(.tuple [(.str "b"),(.str ""),(.int 0),(.int 0),(.int 5),(.int 5),(.str "")])]))) maN)) (maC (bu 1 "up" cY (mV 1) (maC (mP (eC (.int 1))) (maC (mP (eC (.int 5))) (maC (mP (eC (.int 2))) (maC (mP (eC (.int 2))) maN))))) maN))))))
  (aM (mIf (tPv (bT (l2 pNe (eV 2) (eC (.list [(.list [(.tuple [(.str "enter"),(.str "a")]),(.tuple [(.str "down"),(.str "a")])]),(.list [(.tuple [(.int 1),(.str "a")])]),(.list [(.tuple [(.str "enter"),(.str "b")])])]))))) (fw (mP (eC (.bool false)))) mNx)
  (aM (bR 3 (qv 1 aV (maC (mP (lA tpF (aC (eV 0) aN))) maN)))
  (aM (qX (bu 1 "down" cq (mV 3) (maC (mP (eC (.int 1))) (maC (mP (eC (.int 0))) (maC (mP (eC (.int 2))) (maC (mP (eC (.int 2))) maN))))))
  (aM (bR 4 (mP (eC (.list [(.tuple [(.str "up"),(.str "a")]),(.tuple [(.str "click"),(.str "a")])]))))
  (aM (mIf (CP (mB (dP pNe (bu 1 "change" fU (mV 3) (maC (mP (lA tpF (aC (eV 0) (aC (lA tpF (aC (eC (.str "c")) (aC (eC (.str "")) (aC (eC (.int 6)) (aC (eC (.int 6)) (aC (eC (.int 2)) (aC (eC (.int 2)) (aC (eC (.str "")) aN)))))))) aN)))) maN)) (mP (oE (λ η=>(aN η).bind gL))))) (mB (dP pNe (bu 1 "up" cY (mV 3) (maC (mP (eC (.int 1))) (maC (mP (eC (.int 5))) (maC (mP (eC (.int 2))) (maC (mP (eC (.int 2))) maN))))) (mP (eV 4))))) (fw (mP (eC (.bool false)))) mNx)
  (aM (bR 5 (mN (λ η=>(aN η).bind gL)))
  (aM (xU [6,7] (iPu (lI qk (eC (.tuple [(.tuple [(.int 20),(.int 25)]),(.tuple [(.int 30),(.int 45)]),(.tuple [(.int 60),(.int 66)]),(.tuple [(.int 70),(.int 86)])])))) (tgT (bG (tgN 6) (bG (tgN 7) kX)))
  (qX (vB (mV 5) (mOp aH (bu 1 "down" cq (mV 3) (maC (mP (eC (.int 1))) (maC (mP (eV 6)) (maC (mP (eC (.int 2))) (maC (mP (eC (.int 2))) maN))))) (bu 1 "up" cY (mV 3) (maC (mP (eC (.int 1))) (maC (mP (eV 7)) (maC (mP (eC (.int 2))) (maC (mP (eC (.int 2))) maN)))))))))
  (aM (bR 8 (mP (l2 aH (l2 aH (eC (.list [(.tuple [(.str "down"),(.str "a")])])) (eV 4)) (eC (.list [(.tuple [(.str "double"),(.str "a")])])))))
  (fw (dP pEq (mV 5) (mP (oE (λ η=>((aC (eV 8) (aC (eSl (eV 8) pN (pS (eC (.int 3)))) (aC (eSl (eV 8) pN (pS (eC (.int 3)))) (aC (eV 8) aN)))) η).bind gL))))))))))))))))
include tx cJ fB dH gT aZ bH gI lc in
theorem wG:FnOk Pr w K mg base CX0 (k+1) t.eE t.d6 [] (spM K (cl t) (dO 0 9 (nH aV cY fU cq))) :=
 fnM tx.eW bU λ _ _ _ _ _ _ hr =>
  (@aj _ _ _ _ _ _ (bo 0 bU.nd (af λ _=>(i6 (ae ba (ae ba (ae aq (ae aq (ae aq (ae aq (ae ba au))))))))))
  (@aj _ _ _ _ _ _ (bo 1 bU.nd (ME.make (kc:=1) tx.aJ tx.n8 aZ hr bH tx.oa tx.fm (ag (af λ _=>(i6 (ae (ay 0) au))) aQ)))
  (@aj _ _ _ _ _ _ (bo 2 bU.nd (qI (ME.lstM (ag (bz (kc:=1) (a8 1) tx.aJ tx.jP cJ hr fB tx.kO (ag (af λ _=>aq) (ag (af λ _=>aq) (ag (af λ _=>aq) (ag (af λ _=>aq) aQ))))) (ag (bz (kc:=1) (a8 1) tx.aJ tx.oN gI hr lc tx.qe (ag (@af _ _ _ _ (λ _=>(@E.cst _ _ _ _ (by kernel_rfl)))) aQ)) (ag (bz (kc:=1) (a8 1) tx.aJ tx.lM dH hr gT tx.mZ (ag (af λ _=>aq) (ag (af λ _=>aq) (ag (af λ _=>aq) (ag (af λ _=>aq) aQ))))) aQ))))))
  (@aj _ _ _ _ _ _ (@eO _ _ _ _ _ _ _ _ _ (qi λ _=>(T.ne hr (ay 2) (@E.cst _ _ _ _ (by kernel_rfl)))) (@aG _ _ _ _ (b0 (af λ _=>AN))) dk)
  (@aj _ _ _ _ _ _ (bo 3 bU.nd (ME.make (kc:=1) tx.aJ tx.n8 aZ hr bH tx.oa tx.fm (ag (af λ _=>(i6 (ae (ay 0) au))) aQ)))
  (@aj _ _ _ _ _ _ (MS.exp (bz (kc:=1) (a8 3) tx.aJ tx.jP cJ hr fB tx.kO (ag (af λ _=>aq) (ag (af λ _=>aq) (ag (af λ _=>aq) (ag (af λ _=>aq) aQ))))))
  (@aj _ _ _ _ _ _ (@bo _ _ _ _ _ _ 4 _ bU.nd (@af _ _ _ _ (λ _=>(@E.cst _ _ _ _ (by kernel_rfl)))) rfl (by first | exact Or.inl rfl | exact Or.inr rfl) rfl (by first | exact .inl rfl | exact .inr rfl))
  (@aj _ _ _ _ _ _ (@eO _ _ _ _ _ _ _ _ _ (MTW.t (MTW.or (MT.ne hr (bz (kc:=1) (a8 3) tx.aJ tx.oN gI hr lc tx.qe (ag (af λ _=>(i6 (ae (ay 0) (ae (i6 (ae ba (ae ba (ae aq (ae aq (ae aq (ae aq (ae ba au)))))))) au)))) aQ)) (af λ _=>(bc (bA au)))) (MTW.or1 (MT.ne hr (bz (kc:=1) (a8 3) tx.aJ tx.lM dH hr gT tx.mZ (ag (af λ _=>aq) (ag (af λ _=>aq) (ag (af λ _=>aq) (ag (af λ _=>aq) aQ))))) (af λ _=>(ay 4)))))) (@aG _ _ _ _ (b0 (af λ _=>AN))) dk)
  (@aj _ _ _ _ _ _ (bo 5 bU.nd (ME.nw λ _=>(bA au)))
  (@aj _ _ _ _ _ _ (@MS.for _ _ _ _ _ _ _ _ _ _ _ Qv rfl (@MI.pu _ _ _ _ _ (λ _=>(@I.tup _ _ _ _ _ (@E.cst _ _ _ _ (by kernel_rfl))))) (xI (n:=2) rfl (jv (dR (i:=6) bU.nd rfl (by first | exact Or.inl rfl | exact Or.inr rfl) ) (jv (dR (i:=7) bU.nd rfl (by first | exact Or.inl rfl | exact Or.inr rfl) ) uV))) (TgP.tup (n:=2) (gU (aP (i:=6)) (gU (aP (i:=7)) TgsP.nil)) (uT))
  (@aG _ _ _ _ (MS.exp (ME.appC (a8 5) (ME.add (bz (kc:=1) (a8 3) tx.aJ tx.jP cJ hr fB tx.kO (ag (af λ _=>aq) (ag (af λ _=>(ay 6)) (ag (af λ _=>aq) (ag (af λ _=>aq) aQ))))) (bz (kc:=1) (a8 3) tx.aJ tx.lM dH hr gT tx.mZ (ag (af λ _=>aq) (ag (af λ _=>(ay 7)) (ag (af λ _=>aq) (ag (af λ _=>aq) aQ))))))))) (λ _=>rfl))
  (@aj _ _ _ _ _ _ (bo 8 bU.nd (af λ _=>(bW (bW (@E.cst _ _ _ _ (by kernel_rfl)) (ay 4)) (@E.cst _ _ _ _ (by kernel_rfl)))))
  (@aG _ _ _ _ (b0 (ME.eq hr (a8 5) (af λ _=>(bc (bA (ae (ay 8) (ae (E.sl (ay 8) qg (kA aq)) (ae (E.sl (ay 8) qg (kA aq)) (ae (ay 8) au)))))))))))))))))))))
abbrev D3:List Str:=["_law_script", "_law_scene_here", "_law_hands", "_law_other", "_law_mine", "_law_names", "_law_moment", "_law_k", "_law_number", "_law_way", "_law_x", "_law_y", "_law_due", "_law_name", "_law_at"]
theorem cU:aI D3 ["_law_script"] (ah zD):=b6
def DE (kL:PFn) (aV:DFn) (dL:DFn) (aE:PFn) (dW:DFn) (dX:DFn) (lT:DFn) (jW:DFn) (dz:DFn) (fT:DFn) (gO:DFn) (jU:DFn):Wd->Option MOut :=
 (aM (bR 1 (mP (lA kL (aC (eV 0) (aC (eC (.int 0)) aN)))))
  (aM (bR 2 (qv 1 aV (maC (mP (eV 1)) maN)))
  (aM (bR 3 (qv 1 aV (maC (mP (eV 1)) maN)))
  (aM (bR 4 (yT (maC (g6 dL maN) (maC (g6 dL maN) maN))))
  (aM (bR 5 (mP (l2 aH (oE (cm [none] (lI qk (eV 1)) (tgN 0) fg (l2 pIx (eV 0) (eC (.int 0))))) (oE (λ η=>((aC (eC (.str "zz")) aN) η).bind gL)))))
  (aM (bR 6 (mP (eC (.int 0))))
  (aM (xU [7] (iPu (λ η=>((aC (lA GD (aC (eC (.int 1)) (aC (lA GC (aC (eC (.int 10)) (aC (lA va (aC (eV 0) aN)) aN))) aN))) aN) η).bind rng1)) (tgN 7)
  (aM (bR 8 (mP (lA aE (aC (eV 0) (aC (l2 aH (eC (.int 100)) (l2 lz (eC (.int 9)) (eV 7))) (aC (eC (.int 2)) aN))))))
  (aM (bR 9 (mP (l2 pIx (eC (.list [(.int 0),(.int 0),(.int 1),(.int 1),(.int 2),(.int 2),(.int 3),(.int 4)])) (lA aE (aC (eV 0) (aC (l2 aH (eC (.int 101)) (l2 lz (eC (.int 9)) (eV 7))) (aC (eC (.int 8)) aN)))))))
  (aM (bR 10 (mP (l2 wB (lA aE (aC (eV 0) (aC (l2 aH (eC (.int 102)) (l2 lz (eC (.int 9)) (eV 7))) (aC (eC (.int 10)) aN)))) (eC (.int 2)))))
  (aM (bR 11 (mP (l2 wB (lA aE (aC (eV 0) (aC (l2 aH (eC (.int 103)) (l2 lz (eC (.int 9)) (eV 7))) (aC (eC (.int 10)) aN)))) (eC (.int 2)))))
  (aM (bR 6 (mP (l2 aH (eV 6) (lA aE (aC (eV 0) (aC (l2 aH (eC (.int 104)) (l2 lz (eC (.int 9)) (eV 7))) (aC (eC (.int 15)) aN)))))))
  (aM (mIf (tPv (bT (l2 pLt (eV 9) (eC (.int 3))))) (aM (bR 12 (g6 dW (maC (mP (eV 1)) (maC (wU (mV 4) (mP (eV 8))) (maC (mP (eV 9)) (maC (mP (eV 6)) (maC (mP (eV 10)) (maC (mP (eV 11)) maN))))))))
  (mIf (mB (dP pNe (g6 dX (maC (mV 2) (maC (mP (eV 9)) (maC (mP (eV 8)) (maC (mP (eV 6)) (maC (mP (eV 10)) (maC (mP (eV 11)) maN))))))) (mP (eV 12)))) (fw (mP (eC (.bool false)))) mNx)) (mIf (tPv (bT (l2 pEq (eV 9) (eC (.int 3))))) (aM (bR 13 (mP (l2 pIx (eV 5) (lA aE (aC (eV 0) (aC (l2 aH (eC (.int 105)) (l2 lz (eC (.int 9)) (eV 7))) (aC (lA va (aC (eV 5) aN)) aN)))))))
  (aM (bR 12 (mP (lA tpF (aC (eC (.str "refused")) (aC (eC (.int 0)) aN)))))
  (aM (mIf (tPv (bT (l2 pNe (eV 13) (eC (.str "zz"))))) (aM (bR 12 (mP (eC .none)))
  (jC (wU (mV 4) (mP (eV 8))) (mP (eC (.str "held"))) (mP (eV 13)))) mNx)
  (mIf (mB (dP pNe (g6 lT (maC (mV 2) (maC (mP (eV 8)) (maC (mP (eV 13)) maN)))) (mP (eV 12)))) (fw (mP (eC (.bool false)))) mNx)))) (aM (jC (wU (mV 4) (mP (eV 8))) (mP (eC (.str "held"))) (mP (eC .none)))
  (mIf (mB (dP (jB true) (bu 1 "free" jW (mV 2) (maC (mP (eV 8)) maN)) (mP (eC .none)))) (fw (mP (eC (.bool false)))) mNx))))
  (aM (xU [14] (iPu (λ η=>((aC (eC (.int 2)) aN) η).bind rng1)) (tgN 14)
  (mIf (CP (mB (dP pNe (bu 1 "holder" fT (mV 2) (maC (mP (eV 14)) maN)) (gQ (wU (mV 4) (mP (eV 14))) (mP (eC (.str "held")))))) (mB (dP pNe (bu 1 "over" dz (mV 2) (maC (mP (eV 14)) maN)) (gQ (wU (mV 4) (mP (eV 14))) (mP (eC (.str "over"))))))) (fw (mP (eC (.bool false)))) mNx))
  (qX (vB (bu 1 "over" dz (mV 2) (maC (mP (eV 8)) maN)) (mP (eC (.str "zz")))))))))))))
  (aM (mIf (CP (zr (mB (g6 jU maN))) (zr (mB (g6 gO maN)))) (fw (mP (eC (.bool false)))) mNx)
  (fw (EF (dP pEq (bu 1 "over" dz (mV 2) (maC (mP (eC (.int 2))) maN)) (mP (oE (λ η=>(aN η).bind gL)))) (EF (dP pEq (bu 1 "over" dz (mV 3) (maC (mP (eC (.int 0))) maN)) (mP (oE (λ η=>(aN η).bind gL)))) (dP (jB false) (bu 1 "holder" fT (mV 3) (maC (mP (eC (.int 1))) maN)) (mP (eC .none))))))))))))))
include tx aY bh aZ bH fo jE fP kH fQ kI lW sj nh tH kS qF eQ g7 gH lb hV nu kQ qD in
theorem GG:FnOk Pr w K mg base CX0 (k+1) t.sw t.sk ["_law_script"] (spM K (cl t) (dO 1 15 (DE kL aV dL aE dW dX lT jW dz fT gO jU))) :=
 fnM tx.uS cU λ _ _ _ _ _ _ hr =>
  (@aj _ _ _ _ _ _ (bo 1 cU.nd (af λ _=>(aX lW hr sj tx.yR tx.dM.kp tx.yY (ae (ay 0) (ae aq au)))))
  (@aj _ _ _ _ _ _ (bo 2 cU.nd (ME.make (kc:=1) tx.aJ tx.n8 aZ hr bH tx.oa tx.fm (ag (af λ _=>(ay 1)) aQ)))
  (@aj _ _ _ _ _ _ (bo 3 cU.nd (ME.make (kc:=1) tx.aJ tx.n8 aZ hr bH tx.oa tx.fm (ag (af λ _=>(ay 1)) aQ)))
  (@aj _ _ _ _ _ _ (bo 4 cU.nd (ME.lstM (ag (ME.call0 fo hr jE tx.pM tx.bE.kp tx.qc) (ag (ME.call0 fo hr jE tx.pM tx.bE.kp tx.qc) aQ))))
  (@aj _ _ _ _ _ _ (bo 5 cU.nd (af λ _=>(bW (bc (iL (N':=["_law_box_here"]) (mp:=[none]) rfl (bp D3 (ah zD) rfl rfl (by decide +kernel)) (aP (i:=0)) (by decide) (I.tup (ay 1)) (λ _ _ _=>⟨(oA 0),Ts.nil,(di (ay 0) aq)⟩))) (bc (bA (ae ba au))))))
  (@aj _ _ _ _ _ _ (bo 6 cU.nd (af λ _=>aq))
  (@aj _ _ _ _ _ _ (@MS.for _ _ _ _ _ _ _ _ _ _ _ Qv rfl (MI.pu λ _=>(I.rng1 tx.pj (ae (E.max rfl tx.zm (ae aq (ae (E.min rfl tx.zl (ae aq (ae (E.len tx.tY (ae (ay 0) au)) au))) au))) au))) (dR (i:=7) cU.nd rfl (by first | exact Or.inl rfl | exact Or.inr rfl) ) (aP (i:=7))
  (@aj _ _ _ _ _ _ (bo 8 cU.nd (af λ _=>(aX aY hr bh tx.bL tx.av.kp tx.bM (ae (ay 0) (ae (bW aq (sD aq (ay 7))) (ae aq au))))))
  (@aj _ _ _ _ _ _ (bo 9 cU.nd (af λ _=>(di (@E.cst _ _ _ _ rfl) (aX aY hr bh tx.bL tx.av.kp tx.bM (ae (ay 0) (ae (bW aq (sD aq (ay 7))) (ae aq au)))))))
  (@aj _ _ _ _ _ _ (bo 10 cU.nd (af λ _=>(E.sub (aX aY hr bh tx.bL tx.av.kp tx.bM (ae (ay 0) (ae (bW aq (sD aq (ay 7))) (ae aq au)))) aq)))
  (@aj _ _ _ _ _ _ (bo 11 cU.nd (af λ _=>(E.sub (aX aY hr bh tx.bL tx.av.kp tx.bM (ae (ay 0) (ae (bW aq (sD aq (ay 7))) (ae aq au)))) aq)))
  (@aj _ _ _ _ _ _ (bo 6 cU.nd (af λ _=>(bW (ay 6) (aX aY hr bh tx.bL tx.av.kp tx.bM (ae (ay 0) (ae (bW aq (sD aq (ay 7))) (ae aq au)))))))
  (@aj _ _ _ _ _ _ (@eO _ _ _ _ _ _ _ _ _ (qi λ _=>(T.lt (ay 9) aq)) (@aj _ _ _ _ _ _ (bo 12 cU.nd (ME.call fP hr kH tx.tf tx.bn.kp tx.tL (ag (af λ _=>(ay 1)) (ag (ME.ixL (a8 4) (af λ _=>(ay 8))) (ag (af λ _=>(ay 9)) (ag (af λ _=>(ay 6)) (ag (af λ _=>(ay 10)) (ag (af λ _=>(ay 11)) aQ))))))))
  (@aG _ _ _ _ (@eO _ _ _ _ _ _ _ _ _ (MT.ne hr (ME.call fQ hr kI tx.ti tx.bN.kp tx.tN (ag (a8 2) (ag (af λ _=>(ay 9)) (ag (af λ _=>(ay 8)) (ag (af λ _=>(ay 6)) (ag (af λ _=>(ay 10)) (ag (af λ _=>(ay 11)) aQ))))))) (af λ _=>(ay 12))) (@aG _ _ _ _ (b0 (af λ _=>AN))) dk))) (@aG _ _ _ _ (@eO _ _ _ _ _ _ _ _ _ (qi λ _=>(yc hr (ay 9) aq)) (@aj _ _ _ _ _ _ (bo 13 cU.nd (af λ _=>(di (ay 5) (aX aY hr bh tx.bL tx.av.kp tx.bM (ae (ay 0) (ae (bW aq (sD aq (ay 7))) (ae (E.len tx.tY (ae (ay 5) au)) au)))))))
  (@aj _ _ _ _ _ _ (bo 12 cU.nd (af λ _=>(i6 (ae ba (ae aq au)))))
  (@aj _ _ _ _ _ _ (@eO _ _ _ _ _ _ _ _ _ (qi λ _=>(T.ne hr (ay 13) ba)) (@aj _ _ _ _ _ _ (bo 12 cU.nd (af λ _=>eY))
  (@aG _ _ _ _ (MS.putC hr (ME.ixL (a8 4) (af λ _=>(ay 8))) (af λ _=>ba) (af λ _=>(ay 13))))) dk)
  (@aG _ _ _ _ (@eO _ _ _ _ _ _ _ _ _ (MT.ne hr (ME.call nh hr tH tx.z7 tx.fu.kp tx.AA (ag (a8 2) (ag (af λ _=>(ay 8)) (ag (af λ _=>(ay 13)) aQ)))) (af λ _=>(ay 12))) (@aG _ _ _ _ (b0 (af λ _=>AN))) dk))))) (@aj _ _ _ _ _ _ (MS.putC hr (ME.ixL (a8 4) (af λ _=>(ay 8))) (af λ _=>ba) (af λ _=>eY))
  (@aG _ _ _ _ (@eO _ _ _ _ _ _ _ _ _ (MT.notN (bz (kc:=1) (a8 2) tx.aJ tx.wP kS hr qF tx.ya (ag (af λ _=>(ay 8)) aQ)) (af λ _=>eY)) (@aG _ _ _ _ (b0 (af λ _=>AN))) dk))))))
  (@aj _ _ _ _ _ _ (@MS.for _ _ _ _ _ _ _ _ _ _ _ Qv rfl (MI.pu λ _=>(I.rng1 tx.pj (ae aq au))) (dR (i:=14) cU.nd rfl (by first | exact Or.inl rfl | exact Or.inr rfl) ) (aP (i:=14))
  (@aG _ _ _ _ (@eO _ _ _ _ _ _ _ _ _ (MTW.t (MTW.or (MT.ne hr (bz (kc:=1) (a8 2) tx.aJ tx.oM gH hr lb tx.qd (ag (af λ _=>(ay 14)) aQ)) (jN hr (ME.ixL (a8 4) (af λ _=>(ay 14))) (af λ _=>ba))) (MTW.or1 (MT.ne hr (bz (kc:=1) (a8 2) tx.aJ tx.jO eQ hr g7 tx.kN (ag (af λ _=>(ay 14)) aQ)) (jN hr (ME.ixL (a8 4) (af λ _=>(ay 14))) (af λ _=>ba)))))) (@aG _ _ _ _ (b0 (af λ _=>AN))) dk)) (λ _=>rfl))
  (@aG _ _ _ _ (MS.exp (ME.appC (bz (kc:=1) (a8 2) tx.aJ tx.jO eQ hr g7 tx.kN (ag (af λ _=>(ay 8)) aQ)) (af λ _=>ba))))))))))) (λ _=>rfl))
  (@aj _ _ _ _ _ _ (@eO _ _ _ _ _ _ _ _ _ (MTW.t (MTW.or (MT.not (MT.val (ME.call0 kQ hr qD tx.xS tx.eW.kp tx.xY))) (MTW.or1 (MT.not (MT.val (ME.call0 hV hr nu tx.ut tx.cD.kp tx.uM)))))) (@aG _ _ _ _ (b0 (af λ _=>AN))) dk)
  (@aG _ _ _ _ (b0 (ME.and (ME.eq hr (bz (kc:=1) (a8 2) tx.aJ tx.jO eQ hr g7 tx.kN (ag (af λ _=>aq) aQ)) (af λ _=>(bc (bA au)))) (ME.and (ME.eq hr (bz (kc:=1) (a8 3) tx.aJ tx.jO eQ hr g7 tx.kN (ag (af λ _=>aq) aQ)) (af λ _=>(bc (bA au)))) (ME.one (ME.isN (bz (kc:=1) (a8 3) tx.aJ tx.oM gH hr lb tx.qd (ag (af λ _=>aq) aQ)) (af λ _=>eY)))))))))))))))
end
def cX:PFn:=cI 2 2 (mQ )
theorem ni (tx:Tx K mg t):FnOk Pr w K mg base CX0 1 t.gF t.gw kj (spP K cX):=yP (k:=0) tx 
def av:PFn:=cI 3 4 (lO cX)
theorem aY (tx:Tx K mg t):FnOk Pr w K mg base CX0 2 t.fM t.fH jy (spP K av):=xM (k:=1) tx (ni tx) (by omega)
def dM:PFn:=cI 2 13 (lN av)
theorem lW (tx:Tx K mg t):FnOk Pr w K mg base CX0 3 t.fK t.fF jw (spP K dM):=xK (k:=2) tx (aY tx) (by omega)
def a6:DFn:=dO 2 2 (g9 )
theorem aZ (tx:Tx K mg t):FnOk Pr w K mg base CX0 1 t.cC t.cy fj (spM K (cl t) a6):=tW (k:=0) tx 
def bE:DFn:=dO 0 0 (p8 )
theorem fo (tx:Tx K mg t):FnOk Pr w K mg base CX0 1 t.gE t.gu [] (spM K (cl t) bE):=yO (k:=0) tx 
def bB:Nat->PFn
 | 0=>λ _=>none
 | n+1=>cI 5 9 (nG (bB n))
theorem eP (tx:Tx K mg t):∀ n:Nat,FnOk Pr w K mg base CX0 (n+0) t.eD t.dZ iP (spP K (bB n))
 | 0=>fn0
 | n+1=>(wF (k:=n+0) tx (eP tx n) (by omega)).mono (by omega)
def f9:PFn:=cI 3 3 (rg )
theorem n6 (tx:Tx K mg t):FnOk Pr w K mg base CX0 1 t.iz t.il lx (spP K f9):=zT (k:=0) tx 
def gK:PFn:=cI 3 4 (p7 (bB 13) f9)
theorem ng (tx:Tx K mg t):FnOk Pr w K mg base CX0 14 t.gC t.gp kh (spP K gK):=yM (k:=13) tx (eP tx 13) (by omega) (n6 tx) (by omega)
def cg:PFn:=cI 2 2 (rh )
theorem lF (tx:Tx K mg t):FnOk Pr w K mg base CX0 1 t.iA t.im ly (spP K cg):=zU (k:=0) tx 
def gJ:PFn:=cI 2 3 (p6 cg)
theorem m9 (tx:Tx K mg t):FnOk Pr w K mg base CX0 2 t.gB t.gn kg (spP K gJ):=yL (k:=1) tx (lF tx) (by omega)
def aB:PFn:=cI 3 4 (lZ gK gJ)
theorem jq (tx:Tx K mg t):FnOk Pr w K mg base CX0 15 t.c8 t.c0 gh (spP K aB):=vd (k:=14) tx (ng tx) (by omega) (m9 tx) (by omega)
def bq:DFn:=dO 2 4 (rf )
theorem jK (tx:Tx K mg t):FnOk Pr w K mg base CX0 1 t.iy t.ik lv (spM K (cl t) bq):=zS (k:=0) tx 
def bn:DFn:=dO 6 9 (cF aB bq)
theorem fP (tx:Tx K mg t):FnOk Pr w K mg base CX0 16 t.fL t.fG jx (spM K (cl t) bn):=xL (k:=15) tx (jq tx) (by omega) (jK tx) (by omega)
def cR:DFn:=dO 1 1 (iH )
theorem iK (tx:Tx K mg t):FnOk Pr w K mg base CX0 1 t.cQ t.cN fS (spM K (cl t) cR):=uq (k:=0) tx 
def aw:DFn:=dO 2 2 (lf cR)
theorem az (tx:Tx K mg t):FnOk Pr w K mg base CX0 3 t.cP t.cM fR (spM K (cl t) aw):=uo (k:=2) tx (iK tx) (by omega)
def aF:DFn:=dO 2 2 (ja )
theorem a9 (tx:Tx K mg t):FnOk Pr w K mg base CX0 1 t.bZ t.bY du (spM K (cl t) aF):=rR (k:=0) tx 
def bF:PFn:=cI 2 2 (nW )
theorem iB (tx:Tx K mg t):FnOk Pr w K mg base CX0 1 t.iw t.ij lu (spP K bF):=zR (k:=0) tx 
def aK:PFn:=cI 2 3 (qH )
theorem bV (tx:Tx K mg t):FnOk Pr w K mg base CX0 1 t.f6 t.fZ i7 (spP K aK):=B6 (k:=0) tx 
def fX:List PD->Option Nat:=C4 2 3 (oX )
theorem sS (tx:Tx K mg t):FnOk Pr w K mg base (CXX Pr w) 1 t.f6 t.fZ i7 (spX K (ca t) fX):=AT (k:=0) tx 
def eU:Nat->PFn
 | 0=>λ _=>none
 | n+1=>cI 2 4 (sO aK bF (eU n))
theorem mf (tx:Tx K mg t):∀ n:Nat,FnOk Pr w K mg base CX0 (n+1) t.me t.md pK (spP K (eU n))
 | 0=>fn0
 | n+1=>(Di (k:=n+1) tx (bV tx) (by omega) (iB tx) (by omega) (mf tx n) (by omega)).mono (by omega)
def fe:PFn:=cI 1 3 (oZ bF (eU 13))
theorem ph (tx:Tx K mg t):FnOk Pr w K mg base CX0 15 t.jl t.jf my (spP K fe):=AV (k:=14) tx (iB tx) (by omega) (mf tx 13) (by omega)
def aS:Nat->PFn
 | 0=>λ _=>none
 | n+1=>cI 2 3 (oY aK (aS n))
theorem bK (tx:Tx K mg t):∀ n:Nat,FnOk Pr w K mg base CX0 (n+1) t.jk t.je mx (spP K (aS n))
 | 0=>fn0
 | n+1=>(AU (k:=n+1) tx (bV tx) (by omega) (bK tx n) (by omega)).mono (by omega)
def bj:PFn:=cI 3 3 (re aK)
theorem dt (tx:Tx K mg t):FnOk Pr w K mg base CX0 2 t.ir t.ig lm (spP K bj):=zP (k:=1) tx (bV tx) (by omega)
def f8:PFn:=cI 2 2 (qZ (aS 13) bj)
theorem n4 (tx:Tx K mg t):FnOk Pr w K mg base CX0 15 t.io t.ic lh (spP K f8):=zN (k:=14) tx (bK tx 13) (by omega) (dt tx) (by omega)
def cZ:PFn:=cI 2 6 (o4 (aS 13) aK)
theorem m8 (tx:Tx K mg t):FnOk Pr w K mg base CX0 15 t.jo t.ji mF (spP K cZ):=AY (k:=14) tx (bV tx) (by omega) (bK tx 13) (by omega)
def fW:PFn:=cI 2 4 (sM )
theorem pi (tx:Tx K mg t):FnOk Pr w K mg base CX0 1 t.jm t.jg mz (spP K fW):=AW (k:=0) tx 
def fq:PFn:=cI 2 4 (pZ cZ (aS 13) bj fW)
theorem m6 (tx:Tx K mg t):FnOk Pr w K mg base CX0 16 t.gz t.gl ke (spP K fq):=yJ (k:=15) tx (bK tx 13) (by omega) (dt tx) (by omega) (m8 tx) (by omega) (pi tx) (by omega)
def kC:PFn:=cI 1 2 (uH fe f8 bj fq)
theorem qJ (tx:Tx K mg t):FnOk Pr w K mg base CX0 17 t.kx t.kr oj (spP K kC):=B4 (k:=16) tx (dt tx) (by omega) (ph tx) (by omega) (n4 tx) (by omega) (m6 tx) (by omega)
def bO:PFn:=cI 3 3 (p0 )
theorem m7 (tx:Tx K mg t):FnOk Pr w K mg base CX0 1 t.gA t.gm kf (spP K bO):=yK (k:=0) tx 
def iC:PFn:=cI 3 5 (lB bO)
theorem n5 (tx:Tx K mg t):FnOk Pr w K mg base CX0 2 t.iu t.ii ln (spP K iC):=zQ (k:=1) tx (m7 tx) (by omega)
def qj:PFn:=cI 3 3 (Am kC iC)
theorem xz (tx:Tx K mg t):FnOk Pr w K mg base CX0 18 t.qf t.qb uk (spP K qj):=GH (k:=17) tx (qJ tx) (by omega) (n5 tx) (by omega)
def aL:PFn:=cI 3 4 (rc qj (aS 13))
theorem dq (tx:Tx K mg t):FnOk Pr w K mg base CX0 19 t.iq t.ie lj (spP K aL):=zO (k:=18) tx (bK tx 13) (by omega) (xz tx) (by omega)
def f7:PFn:=cI 2 5 (uI )
theorem kB (tx:Tx K mg t):FnOk Pr w K mg base CX0 1 t.kz t.kt ol (spP K f7):=B5 (k:=0) tx 
def br:DFn:=dO 2 4 (oB f7)
theorem cG (tx:Tx K mg t):FnOk Pr w K mg base CX0 2 t.fO t.fJ jA (spM K (cl t) br):=xO (k:=1) tx (kB tx) (by omega)
def dh:DFn:=dO 5 7 (kJ aw aF aL br)
theorem kR (tx:Tx K mg t):FnOk Pr w K mg base CX0 20 t.eI t.d8 iR (spM K (cl t) dh):=wI (k:=19) tx (az tx) (by omega) (a9 tx) (by omega) (dq tx) (by omega) (cG tx) (by omega)
def bi:DFn:=dO 5 8 (kK aw aL br aF)
theorem cJ (tx:Tx K mg t):FnOk Pr w K mg base CX0 20 t.eM t.ee iT (spM K (cl t) bi):=wL (k:=19) tx (az tx) (by omega) (a9 tx) (by omega) (dq tx) (by omega) (cG tx) (by omega)
def dJ:DFn:=dO 2 3 (mS f7)
theorem jY (tx:Tx K mg t):FnOk Pr w K mg base CX0 2 t.dF t.dD gX (spM K (cl t) dJ):=v4 (k:=1) tx (kB tx) (by omega)
def cK:DFn:=dO 3 5 (nM )
theorem kT (tx:Tx K mg t):FnOk Pr w K mg base CX0 1 t.eN t.eA iU (spM K (cl t) cK):=wM (k:=0) tx 
def bP:DFn:=dO 5 9 (mR aw aL aF dJ cK br)
theorem dH (tx:Tx K mg t):FnOk Pr w K mg base CX0 20 t.gG t.gx kl (spM K (cl t) bP):=yQ (k:=19) tx (az tx) (by omega) (a9 tx) (by omega) (dq tx) (by omega) (cG tx) (by omega) (jY tx) (by omega) (kT tx) (by omega)
def bN:DFn:=dO 6 6 (jF dh bi bP)
theorem fQ (tx:Tx K mg t):FnOk Pr w K mg base CX0 21 t.fN t.fI jz (spM K (cl t) bN):=xN (k:=20) tx (kR tx) (by omega) (cJ tx) (by omega) (dH tx) (by omega)
def bQ:DFn:=dO 3 4 (nJ aK aw)
theorem eS (tx:Tx K mg t):FnOk Pr w K mg base CX0 4 t.ce t.cb dg (spM K (cl t) bQ):=wJ (k:=3) tx (bV tx) (by omega) (az tx) (by omega)
def hW:List D->Sto->Option (Nat×Sto):=C5 3 4 (jS  fX)
theorem nq (tx:Tx K mg t):FnOk Pr w K mg base (CXX Pr w) 2 t.ce t.cb dg (Gu K (cl t) (ca t) hW):=v0 (k:=1) tx  (sS tx) (by omega)
def fu:DFn:=dO 3 4 (mO bQ hW)
theorem nh (tx:Tx K mg t):FnOk Pr w K mg base CX0 5 t.gD t.gq ki (spM K (cl t) fu):=yN (k:=4) tx (eS tx) (by omega) (by omega) (nq tx) (by omega)
def gf:DFn:=dO 2 3 (nK aw)
theorem kS (tx:Tx K mg t):FnOk Pr w K mg base CX0 4 t.eJ t.d9 iS (spM K (cl t) gf):=wK (k:=3) tx (az tx) (by omega)
def bC:DFn:=dO 2 2 (nI aw)
theorem eQ (tx:Tx K mg t):FnOk Pr w K mg base CX0 4 t.eG t.d7 iQ (spM K (cl t) bC):=wH (k:=3) tx (az tx) (by omega)
def cE:DFn:=dO 2 2 (l7 aw)
theorem gH (tx:Tx K mg t):FnOk Pr w K mg base CX0 4 t.c9 t.c6 gi (spM K (cl t) cE):=ve (k:=3) tx (az tx) (by omega)
def cD:DFn:=dO 0 6 (kn a6 bE bQ bn bN)
theorem hV (tx:Tx K mg t):FnOk Pr w K mg base CX0 22 t.cz t.cx [] (spM K (cl t) cD):=tV (k:=21) tx (eS tx) (by omega) (aZ tx) (by omega) (fo tx) (by omega) (fP tx) (by omega) (fQ tx) (by omega)
def dI:PFn:=cI 2 2 (sN )
theorem jp (tx:Tx K mg t):FnOk Pr w K mg base CX0 1 t.jn t.jh mE (spP K dI):=AX (k:=0) tx 
def cf:PFn:=cI 2 2 (nF dI)
theorem i4 (tx:Tx K mg t):FnOk Pr w K mg base CX0 2 t.eB t.dY iO (spP K cf):=wE (k:=1) tx (jp tx) (by omega)
def cS:DFn:=dO 2 3 (mT cf dI)
theorem jZ (tx:Tx K mg t):FnOk Pr w K mg base CX0 3 t.dG t.dE gY (spM K (cl t) cS):=v5 (k:=2) tx (jp tx) (by omega) (i4 tx) (by omega)
def df:DFn:=dO 2 4 (ma cS)
theorem gI (tx:Tx K mg t):FnOk Pr w K mg base CX0 4 t.de t.c7 gj (spM K (cl t) df):=vf (k:=3) tx (jZ tx) (by omega)
def eW:DFn:=dO 0 9 (nH a6 bP df bi)
theorem kQ (tx:Tx K mg t):FnOk Pr w K mg base CX0 21 t.eE t.d6 [] (spM K (cl t) eW):=wG (k:=20) tx (cJ tx) (by omega) (dH tx) (by omega) (aZ tx) (by omega) (gI tx) (by omega)
def uS:DFn:=dO 1 15 (DE dM a6 bE av bn bN fu gf bC cE cD eW)
theorem Jm (tx:Tx K mg t):FnOk Pr w K mg base CX0 23 t.sw t.sk ["_law_script"] (spM K (cl t) uS):=GG (k:=22) tx (aY tx) (by omega) (aZ tx) (by omega) (fo tx) (by omega) (fP tx) (by omega) (fQ tx) (by omega) (lW tx) (by omega) (nh tx) (by omega) (kS tx) (by omega) (eQ tx) (by omega) (gH tx) (by omega) (hV tx) (by omega) (kQ tx) (by omega)
end
end K20
namespace K20
variable {q x:Nat} {ps:List Nat}
def chN (st:List (Nat×Nat)) (q:Nat):List Nat:=(st.filter λ x=>decide (x.2=q)).map (·.1)
def vY:List (Nat×Nat)->Nat->Option Nat
 | [],_=>none
 | x::r,q=>if x.1=q then some x.2 else vY r q
def E4 (f:Nat->Option (List Nat)):List Nat->Option (List Nat)
 | []=>some []
 | x::r=>(f x).bind λ a=>(E4 f r).bind λ b=>some (a++b)
def C8 (st:List (Nat×Nat)):Nat->Nat->Option (List Nat)
 | 0,_=>none
 | n+1,q=>(vY st q).bind λ p=>if p=0 then some [q] else (C8 st n p).bind λ l=>if l.length+1<=3000000 then some (l++[q]) else none
def G0 (st:List (Nat×Nat)):Nat->Nat->Option (List Nat)
 | 0,_=>none
 | n+1,q=>(vY st q).bind λ _=>(E4 (G0 st n) (chN st q)).bind λ r=>if r.length+1<=3000000 then some (q::r) else none
def HF (st:List (Nat×Nat)):Option (List Nat):=(E4 (G0 st 13) (chN st 0)).bind λ r=>if r.length<=3000000 then some r else none
def stF (ps:List Nat):List (Nat×Nat):=(List.range ps.length).map λ i=>(i+1,ps.getD i 0)
def par (ps:List Nat) (q:Nat):Nat:=ps.getD (q - 1) 0
structure A9 (ps:List Nat):Prop where
 len:ps.length<=7
 par:∀ i,ps.getD i 0<=i
def pF (ps:List Nat):Nat->Nat->List Nat
 | 0,_=>[]
 | n+1,q=>if q=0 then [] else pF ps n (par ps q)++[q]
def P (ps:List Nat) (q:Nat):List Nat:=pF ps q q
def blF (st:List (Nat×Nat)):Nat->Nat->List Nat
 | 0,_=>[]
 | n+1,q=>q::(chN st q).flatMap (blF st n)
def kids (st:List (Nat×Nat)) (n a:Nat):List Nat:=(chN st a).flatMap (blF st n)
theorem we {α β:Type} {f g:α->List β}:∀ {l:List α},(∀ x∈l,f x=g x)->l.flatMap f=l.flatMap g
 | [],_=>rfl
 | x::r,h=>by
  rw [QU,QU,h x Qc,we λ y hy=>h y (P3 _ hy)]
theorem xk {α β:Type} {f:α->List β}:∀ {l:List α},(∀ x∈l,f x=[])->l.flatMap f=[]
 | [],_=>rfl
 | x::r,h=>by
  rw [QU,h x Qc,xk λ y hy=>h y (P3 _ hy)]; rfl
theorem uJ {α β:Type} {f:α->List β} {b:Nat}:∀ {l:List α},(∀ x∈l,(f x).length<=b)->(l.flatMap f).length<=l.length*b
 | [],_=>by simp
 | x::r,h=>by
  have h1:=h x Qc;have h2:=uJ (l:=r) λ y hy=>h y (P3 _ hy);rw [QU,PL,P8,Nat.add_mul];omega
section
variable {ps:List Nat} (ok:A9 ps)
theorem BZ (n:Nat):pF ps n 0=[]:=by
 cases n with
 | zero=>rfl
 | succ n=>rfl
theorem vX (ok:A9 ps) (h:1<=q):par ps q < q:=by
 have:=ok.par (q - 1)
 unfold par;omega
include ok
theorem Lv:∀ q n,q<=n->pF ps n q=pF ps q q:=by
 intro q
 induction q using Nat.strongRecOn with
 | _ q ih =>
  intro n hn;cases q with
  | zero=>rw [BZ,BZ]
  | succ j =>
   cases n with
   | zero=>omega
   | succ m =>
    have hp:=vX ok (q:=j+1) (by omega);unfold pF;rw [if_neg (by omega),if_neg (by omega),ih _ hp m (by omega),ih _ hp j (by omega)]
theorem yd (h:1<=q):P ps q=P ps (par ps q)++[q]:=by
 obtain ⟨j,rfl⟩:∃ j,q=j+1:=⟨q - 1,by omega⟩;have hp:=vX ok (q:=j+1) h;unfold P;rw [pF,if_neg (by omega),Lv ok _ j (by omega)]
omit ok in
theorem Es:∀ n q,(pF ps n q).length<=n
 | 0,_=>by simp [pF]
 | n+1,q=>by
  have:=Es n (par ps q)
  unfold pF
  split
  ·simp
  ·simp; omega
omit ok in
theorem Eh {x:Nat×Nat} (h:x∈stF ps):1<=x.1/\x.1<=ps.length/\x.2=par ps x.1:=by
 obtain ⟨i,hi,rfl⟩:=Rf.mp h
 have:=QN.mp hi
 refine ⟨by simp,by show i+1<=_; omega,?_⟩;show _=ps.getD (i+1 - 1) 0;rfl
omit ok in
theorem Mz (h1:1<=q) (h2:q<=ps.length):(q,par ps q)∈stF ps:=by
 refine Rf.mpr ⟨q - 1,QN.mpr (by omega),?_⟩;unfold par;rw [show q - 1+1=q by omega]
omit ok in
theorem FI {q p:Nat}:∀ {st:List (Nat×Nat)},(∀ y∈st,y.1=q->y.2=p)->(q,p)∈st->vY st q=some p
 | x::r,hu,hm=>by
  unfold vY;by_cases e:x.1=q
  ·rw [if_pos e,hu x Qc e]
  ·rw [if_neg e];rcases Qh.mp hm with z | z
   ·exact absurd (by rw [<- z]) e
   ·exact FI (λ y hy=>hu y (P3 _ hy)) z
omit ok in
theorem zd (h1:1<=q) (h2:q<=ps.length):vY (stF ps) q=some (par ps q) :=
 FI (λ y hy e=>by rw [(Eh hy).2.2,e]) (Mz h1 h2)
theorem FB:∀ n q,n<=13->1<=q->q<=ps.length->q<=n->C8 (stF ps) n q=some (pF ps n q)
 | 0,q,_,h1,_,h3=>by omega
 | n+1,q,hn,h1,h2,h3=>by
  have hp:=vX ok h1;unfold C8 pF;rw [zd h1 h2,PC,if_neg (show ¬ q=0 by omega)];by_cases e:par ps q=0
  ·rw [if_pos e,e,BZ]; rfl
  ·rw [if_neg e,FB n _ (by omega) (by omega) (by omega) (by omega),PC]
   have:=Es (ps:=ps) n (par ps q)
   rw [if_pos (by omega)]
theorem Ka (h1:1<=q) (h2:q<=ps.length):C8 (stF ps) 13 q=some (P ps q):=by
 have:=ok.len
 rw [FB ok 13 q (by omega) h1 h2 (by omega),Lv ok q 13 (by omega)]; rfl
theorem gy {a:Nat} (h:x∈chN (stF ps) a):1<=x/\x<=ps.length/\par ps x=a/\a < x:=by
 obtain ⟨y,hy,rfl⟩:=Rf.mp h;have ⟨h1,h2⟩:=QR.mp hy;have h3:=Eh h1;have h4:=vX ok h3.1;have h5:y.2=a:=by simpa using h2
 exact ⟨h3.1,h3.2.1,by rw [<- h3.2.2,h5],by rw [<- h5,h3.2.2]; exact h4⟩
theorem Cp (a:Nat):(chN (stF ps) a).length<=7:=by
 unfold chN;rw [PJ];refine Qg (Q4 ..) ?_;unfold stF;rw [PJ,Q7];exact ok.len
omit ok in
theorem Cq {f:Nat->Option (List Nat)} {g:Nat->List Nat}:∀ {xs:List Nat},(∀ x∈xs,f x=some (g x))->E4 f xs=some (xs.flatMap g)
 | [],_=>rfl
 | x::r,h=>by
  unfold E4;rw [h x Qc,PC,Cq λ y hy=>h y (P3 _ hy)]
  simp
theorem xm:∀ n q,1<=q->q<=ps.length->ps.length < n+q->(blF (stF ps) n q).length<=8 ^ (ps.length - q)
 | 0,q,_,h2,h3=>by omega
 | n+1,q,h1,h2,h3=>by
  unfold blF;rw [P8];by_cases e:q=ps.length
  ·have:(chN (stF ps) q)=[]:=by
    rw [List.eq_nil_iff_forall_not_mem];intro x hx
    have:=gy ok hx
    omega
   rw [this,e]; simp
  ·obtain ⟨k,hk⟩:∃ k,ps.length - q=k+1:=⟨ps.length - q - 1,by omega⟩;have h4:=uJ (f:=blF (stF ps) n) (b:=8 ^ k) (l:=chN (stF ps) q) λ x hx=>by
    have hm:=gy ok hx;exact Qg (xm n x hm.1 hm.2.1 (by omega)) (Nat.pow_le_pow_right (by decide) (by omega))
   have h5:=Cp ok q;have h6:(chN (stF ps) q).length*8 ^ k<=7*8 ^ k:=Nat.mul_le_mul_right _ h5;have h7:0 < 8 ^ k:=Nat.pow_pos (by decide);rw [hk,Nat.pow_succ];omega
theorem zc (h1:1<=q):8 ^ (ps.length - q)<=262144:=by
 have:=ok.len
 exact Qg (Nat.pow_le_pow_right (by decide) (show ps.length - q<=6 by omega)) (by decide)
theorem Gc:∀ n q,1<=q->q<=ps.length->ps.length < n+q->G0 (stF ps) n q=some (blF (stF ps) n q)
 | 0,q,_,h2,h3=>by omega
 | n+1,q,h1,h2,h3=>by
  have hl:=xm ok (n+1) q h1 h2 h3;unfold blF at hl;rw [P8] at hl;have hp:=zc ok h1;unfold G0 blF;rw [zd h1 h2,PC,Cq (g:=blF (stF ps) n) λ x hx=>Gc n x (gy ok hx).1 (gy ok hx).2.1 (by have:=gy ok hx; omega),PC,if_pos (by omega)]
theorem Dw:(kids (stF ps) 13 0).length<=3000000:=by
 have:=ok.len
 have h4:=uJ (f:=blF (stF ps) 13) (b:=262144) (l:=chN (stF ps) 0) λ x hx=>Qg (xm ok 13 x (gy ok hx).1 (gy ok hx).2.1 (by omega)) (zc ok (gy ok hx).1);have h5:=Cp ok 0;unfold kids;omega
theorem Mi:HF (stF ps)=some (kids (stF ps) 13 0):=by
 have:=ok.len
 have hl:=Dw ok;unfold kids at hl;unfold HF;rw [Cq (g:=blF (stF ps) 13) λ x hx=>Gc ok 13 x (gy ok hx).1 (gy ok hx).2.1 (by have:=gy ok hx; omega),PC,if_pos hl];rfl
theorem Af {n a:Nat} (h:x∈kids (stF ps) n a):1<=x/\x<=ps.length:=by
 induction n generalizing a x with
 | zero =>
  obtain ⟨y,_,hy⟩:=List.mem_flatMap.mp h;cases hy
 | succ n ih =>
  have ⟨y,hy,hx⟩:=List.mem_flatMap.mp h;rcases Qh.mp hx with rfl | z
  ·exact ⟨(gy ok hy).1,(gy ok hy).2.1⟩
  ·exact ih z
end
abbrev Ar:=Int×Int×Int×Int
abbrev Row:=Nat×Ar×List Ar
structure Geo where
 L:Nat->Int
 T:Nat->Int
 W:Nat->Int
 H:Nat->Int
 c:Nat->Bool
 h:Nat->Bool
 l:Nat->Bool
def Geo.at (g:Geo) (l t:Int) (x:Nat):Ar:=(l+g.L x,t+g.T x,l+g.L x+g.W x,t+g.T x+g.H x)
def spF (g:Geo) (st:List (Nat×Nat)):Nat->Nat->Int->Int->List Ar->List Row
 | 0,_,_,_,_=>[]
 | n+1,a,l,t,cu=>(chN st a).flatMap λ x=>if g.h x=true then [] else (x,g.at l t x,cu++[g.at l t x])::spF g st n x (l+g.L x) (t+g.T x) (cu++if g.c x=true then [g.at l t x] else [])
section
variable (g:Geo) (ps:List Nat)
def Geo.sL (q:Nat):Int:=((P ps q).map g.L).sum
def Geo.sT (q:Nat):Int:=((P ps q).map g.T).sum
def Geo.area (q:Nat):Ar:=(g.sL ps q,g.sT ps q,g.sL ps q+g.W q,g.sT ps q+g.H q)
def Geo.cuts (a:Nat):List Ar:=((P ps a).filter g.c).map (g.area ps)
def Geo.shown (q:Nat):Bool:=(P ps q).all λ x=>!g.h x
def Geo.row (x:Nat):Row:=(x,g.area ps x,g.cuts ps (par ps x)++[g.area ps x])
end
section
variable {g:Geo} {ps:List Nat} (ok:A9 ps)
include ok
theorem Lp (h:1<=x):g.sL ps x=g.sL ps (par ps x)+g.L x:=by
 unfold Geo.sL;rw [yd ok h,QG,List.sum_append]; simp
theorem Ln (h:1<=x):g.sT ps x=g.sT ps (par ps x)+g.T x:=by
 unfold Geo.sT;rw [yd ok h,QG,List.sum_append]; simp
theorem OF (h:1<=x):g.at (g.sL ps (par ps x)) (g.sT ps (par ps x)) x=g.area ps x:=by
 unfold Geo.at Geo.area;rw [Lp ok h,Ln ok h]
theorem CW (h:1<=x):g.shown ps x=(g.shown ps (par ps x)&&!g.h x):=by
 unfold Geo.shown;rw [yd ok h,List.all_append]; simp
theorem F9 (h:1<=x):g.cuts ps x=g.cuts ps (par ps x)++if g.c x=true then [g.area ps x] else []:=by
 unfold Geo.cuts;rw [yd ok h,List.filter_append,QG]
 congr 1
 cases hc:g.c x <;> simp [hc]
theorem ID:∀ n a,g.shown ps a=false->(kids (stF ps) n a).filter (g.shown ps)=[]:=by
 intro n
 induction n with
 | zero =>
  intro a _
  have:kids (stF ps) 0 a=[]:=xk λ _ _=>rfl
  rw [this]; rfl
 | succ n ih =>
  intro a ha;unfold kids;rw [List.filter_flatMap];refine xk λ x hx=>?_;have hm:=gy ok hx;have hs:g.shown ps x=false:=by rw [CW ok hm.1,hm.2.2.1,ha]; rfl
  show List.filter _ (x::kids (stF ps) n x)=[];rw [QS,hs,ih x hs]; rfl
theorem Gt:∀ n a,g.shown ps a=true->spF g (stF ps) n a (g.sL ps a) (g.sT ps a) (g.cuts ps a)=((kids (stF ps) n a).filter (g.shown ps)).map (g.row ps):=by
 intro n
 induction n with
 | zero =>
  intro a _
  have:kids (stF ps) 0 a=[]:=xk λ _ _=>rfl
  rw [this]; rfl
 | succ n ih =>
  intro a ha;unfold kids spF;rw [List.filter_flatMap,List.map_flatMap];refine we λ x hx=>?_;have hm:=gy ok hx;obtain ⟨h1,h2,rfl,h4⟩:=hm;have hs:g.shown ps x=!g.h x:=by rw [CW ok h1,ha]; rfl
  rw [OF ok h1];show _=List.map _ (List.filter _ (x::kids (stF ps) n x));cases hh:g.h x with
  | true =>
   rw [hh] at hs;rw [if_pos rfl,QS,hs,ID ok n x hs]; rfl
  | false =>
   rw [hh] at hs;have e1:List.filter (g.shown ps) (x::kids (stF ps) n x)=x::List.filter (g.shown ps) (kids (stF ps) n x):=RK hs;rw [if_neg (show ¬ false=true by decide),e1,P2,<- ih x hs,<- F9 ok h1,<- Lp ok h1,<- Ln ok h1];rfl
end
def vh (a:Ar) (x y:Int):Bool:=decide (a.1<=x)&&decide (x < a.2.2.1)&&(decide (a.2.1<=y)&&decide (y < a.2.2.2))
def ovl (a b:Ar):Ar:=(max a.1 b.1,max a.2.1 b.2.1,min a.2.2.1 b.2.2.1,min a.2.2.2 b.2.2.2)
theorem Ng:∀ a b c d:Bool,((a&&b)&&(c&&d))=((a&&c)&&(b&&d)):=by decide
theorem IF (a b:Ar) (x y:Int):vh (ovl a b) x y=(vh a x y&&vh b x y):=by
 have h1:∀ p q r:Int,decide (max p q<=r)=(decide (p<=r)&&decide (q<=r)):=λ p q r=>by
  rw [Rc,Qp,decide_eq_true_eq,decide_eq_true_eq,decide_eq_true_eq];exact Int.max_le
 have h2:∀ p q r:Int,decide (r < min p q)=(decide (r < p)&&decide (r < q)):=λ p q r=>by
  rw [Rc,Qp,decide_eq_true_eq,decide_eq_true_eq,decide_eq_true_eq];exact Int.lt_min
 unfold vh ovl;dsimp only;rw [h1,h1,h2,h2,Ng (decide (a.1<=x)),Ng (decide (a.2.1<=y)),Ng]
def Eb (g:Geo) (ps:List Nat):List Nat->Ar->Ar
 | [],w=>w
 | s::r,w=>Eb g ps r (if g.c s=true then ovl w (g.area ps s) else w)
def Geo.wnd (g:Geo) (ps:List Nat) (q:Nat):Ar:=Eb g ps (P ps q) (g.area ps q)
theorem CL (g:Geo) (ps:List Nat) (x y:Int):∀ l w,vh (Eb g ps l w) x y=(vh w x y&&((l.filter g.c).map (g.area ps)).all λ a=>vh a x y)
 | [],w=>by simp [Eb]
 | s::r,w=>by
  unfold Eb;rw [CL g ps x y r,QS];cases hc:g.c s with
  | false=>rfl
  | true =>
   rw [if_pos rfl,if_pos rfl,IF,P2,Q9,Bool.and_assoc]
def Geo.tch (g:Geo) (ps:List Nat) (x y:Int) (q:Nat):Bool:=(g.row ps q).2.2.all λ a=>vh a x y
theorem Jx {g:Geo} (ok:A9 ps) (h:1<=q) (x y:Int):vh (g.wnd ps q) x y=g.tch ps x y q:=by
 unfold Geo.wnd Geo.tch Geo.row;rw [CL];show (_&&(g.cuts ps q).all _)=_;rw [F9 ok h,List.all_append];dsimp only;rw [List.all_append];generalize (g.cuts ps (par ps q)).all (λ a=>vh a x y)=u;cases g.c q
 ·simp [Bool.and_comm]
 ·cases h2:vh (g.area ps q) x y <;> simp [h2]
def Geo.hits (g:Geo) (ps:List Nat) (x y:Int):List Nat:=(((kids (stF ps) 13 0).reverse.filter (g.shown ps)).filter λ q=>!g.l q).filter (g.tch ps x y)
theorem IC (g:Geo) (ps:List Nat) (x y:Int):((((kids (stF ps) 13 0).filter (g.shown ps)).filter λ q=>!g.l q&&g.tch ps x y q)).reverse=g.hits ps x y:=by
 unfold Geo.hits;rw [<- List.filter_reverse,<- List.filter_reverse];generalize List.filter (g.shown ps) _=A;rw [List.filter_filter]
 congr 1
 funext q
 rw [Bool.and_comm]
def BR (ps:List Nat):List Nat:=kids (stF ps) 13 0
abbrev In (ps:List Nat) (q:Nat):Prop:=1<=q/\q<=ps.length
theorem P_in' (ok:A9 ps) :∀ q,In ps q->x∈P ps q->In ps x:=by
 intro q
 induction q using Nat.strongRecOn with
 | _ q ih =>
  intro hq hx;rw [yd ok hq.1] at hx;rcases Q6.mp hx with z | z
  ·have hp:=vX ok hq.1;by_cases e:par ps q=0
   ·rw [e] at z;cases z
   ·exact ih _ hp ⟨by omega,by have:=hq.2; omega⟩ z
  ·have:x=q:=by simpa using z
   rw [this]; exact hq
theorem MJ (ok:A9 ps):(BR ps).length<=2000000:=by
 have:=ok.len
 have h4:=uJ (f:=blF (stF ps) 13) (b:=262144) (l:=chN (stF ps) 0) λ x hx=>Qg (xm ok 13 x (gy ok hx).1 (gy ok hx).2.1 (by omega)) (zc ok (gy ok hx).1);have h5:=Cp ok 0;unfold BR kids;omega
def tkL (g:Geo) (ps pnt:List Nat):List Nat:=(pnt.reverse.filter (g.shown ps)).filter λ q=>!g.l q
def Cg (g:Geo) (ps pnt:List Nat) (x y:Int):List Nat:=(tkL g ps pnt).filter (g.tch ps x y)
end K20
namespace K20
open PySem L2 L2.PU
variable {a n q i k m way kd:Nat} {b:Bool} {p ps:List Nat} {l:Option (Nat×Int)} {o g:MF} {f:En->Option PD} {η:En} {x nm:PD} {y j mo u:Int} {r:Option Nat} {ds xs:List PD} {body:En->Option Out} {mp:List (Option Nat)} {w:Wd} {kvs:List (Key×D)} {ns:List Int} {O:Nat->Prop} {s1 s':Sto}
theorem kM {ι:Type} {t:En->PD->Option En} {p:En->Option Bool} {f:En->Option PD} {η:En} (D:ι->PD) (P:ι->Bool) (Y:ι->PD) :
  ∀ xs:List ι,(∀ x∈xs,∃ η1,t η (D x)=some η1/\p η1=some (P x)/\(P x=true->f η1=some (Y x)))->cGo t p f η (xs.map D)=some ((xs.filter P).map Y)
 | [],_=>rfl
 | x::r,h=>by
  obtain ⟨η1,h1,h2,h3⟩:=h x Qc;have ih:=kM D P Y r λ y hy=>h y (P3 _ hy);rw [P2];unfold cGo;rw [h1,PC,h2,PC,ih,QS];cases hP:P x with
  | false=>rfl
  | true=>rw [if_pos rfl,h3 hP]; rfl
structure Sc where
 st:List (Nat×Nat)
 nm:Nat->Str
 L:Nat->Int
 T:Nat->Int
 W:Nat->Int
 H:Nat->Int
 mr:Nat->Str
variable {c:Sc}
structure Sc.Ok (c:Sc):Prop where
 inj:∀ a b,c.nm a=c.nm b->a=b
 top:c.nm 0 = ""
 ok:∀ a,Qj (c.nm a)=true
 okm:∀ a,Qj (c.mr a)=true
 len:c.st.length<=12
def Sc.box (c:Sc) (x:Nat×Nat):PD:=.tuple [.str (c.nm x.1),.str (c.nm x.2),.int (c.L x.1),.int (c.T x.1),.int (c.W x.1),.int (c.H x.1),.str (c.mr x.1)]
def Sc.d (c:Sc):PD:=.tuple (c.st.map c.box)
def Sc.s (c:Sc) (q:Nat):PD:=.str (c.nm q)
def Sc.S (c:Sc) (l:List Nat):PD:=.list (l.map c.s)
theorem str_dec (a b:Str):(a==b)=decide (a=b):=rfl
theorem ny {a:Str} (h:Qj a=true):Qu (.str a)=true:=by
 simp [Qu,Qz,PyData.depth,h]
theorem FK {a b:Str} (ha:Qj a=true) (hb:Qj b=true):pEq (.str a) (.str b)=some (.bool (decide (a=b))):=by
 unfold pEq;rw [if_pos ⟨ny ha,ny hb⟩];simp [QK,str_dec]
theorem ze {a b:Str} (ha:Qj a=true) (hb:Qj b=true):pNe (.str a) (.str b)=some (.bool (!decide (a=b))):=by
 unfold pNe;rw [if_pos ⟨ny ha,ny hb⟩];simp [QK,str_dec]
section
variable {c:Sc} (h:c.Ok)
include h
theorem Sc.Ok.dec (a b:Nat):decide (c.nm a=c.nm b)=decide (a=b):=by
 by_cases e:a=b
 ·subst e; simp
 ·have:¬ c.nm a=c.nm b:=λ z=>e (h.inj _ _ z)
  rw [decide_eq_false this,decide_eq_false e]
theorem Sc.Ok.eqs (a b:Nat):pEq (c.s a) (c.s b)=some (.bool (decide (a=b))):=by
 unfold Sc.s;rw [FK (h.ok a) (h.ok b),h.dec]
theorem Sc.Ok.nes (a b:Nat):pNe (c.s a) (c.s b)=some (.bool (!decide (a=b))):=by
 unfold Sc.s;rw [ze (h.ok a) (h.ok b),h.dec]
theorem Sc.Ok.eq0 (a:Nat):pEq (c.s a) (.str "")=some (.bool (decide (a=0))):=by
 have:=h.eqs a 0
 unfold Sc.s at this ⊢;rw [h.top] at this;exact this
theorem Sc.Ok.ne0 (a:Nat):pNe (c.s a) (.str "")=some (.bool (!decide (a=0))):=by
 have:=h.nes a 0
 unfold Sc.s at this ⊢;rw [h.top] at this;exact this
theorem Sc.Ok.canAll (l:List Nat):QA (l.map c.s)=true:=by
 induction l with
 | nil=>rfl
 | cons x r ih=>simp [QA,Sc.s,Qz,h.ok x]; simpa [Sc.s] using ih
omit h in
theorem EZ (l:List Nat):QF (l.map c.s)=0:=by
 induction l with
 | nil=>rfl
 | cons x r ih=>simp [QF,Sc.s,PyData.depth]; simpa [Sc.s] using ih
theorem Sc.Ok.shS (l:List Nat):Qu (c.S l)=true:=by
 simp [Qu,Sc.S,Qz,PyData.depth,h.canAll l,EZ]
theorem Sc.Ok.eqvS:∀ (l m:List Nat),PyData.eqvAll (l.map c.s) (m.map c.s)=decide (l=m)
 | [],[]=>by simp [PyData.eqvAll]
 | [],_::_=>by simp [PyData.eqvAll]
 | _::_,[]=>by simp [PyData.eqvAll]
 | x::r,y::t=>by
  have ih:=Sc.Ok.eqvS r t;rw [P2,P2];unfold PyData.eqvAll;rw [ih];unfold Sc.s QK;rw [str_dec,h.dec];by_cases e:x=y
  ·subst e; simp
  ·simp [e]
theorem Sc.Ok.neS (l m:List Nat):pNe (c.S l) (c.S m)=some (.bool (!decide (l=m))):=by
 unfold pNe;rw [if_pos ⟨h.shS l,h.shS m⟩];unfold Sc.S QK;rw [h.eqvS]
end
theorem big (h:n<=3000000):n<=P4:=Qg h (by show 3000000<=2 ^ 24; decide)
section
variable {c:Sc} (h:c.Ok)
include h
theorem L9:(c.st.map c.box).length<=P4:=by
 rw [PJ];exact big (Qg h.len (by decide))
theorem vV (q:Nat):bF [c.d,c.s q]=some (c.S (chN c.st q)):=by
 unfold bF cI;rw [if_pos (by rfl)];show (nW [.val c.d,.val (c.s q)]).bind _=_;have e:cGo (tgN 0) (bT (l2 pEq (l2 pIx (eV 0) (eC (.int 1))) (eV 1))) (l2 pIx (eV 0) (eC (.int 0))) [.un,.val (c.s q)] (c.st.map c.box)=some ((c.st.filter λ x=>decide (x.2=q)).map λ x=>c.s x.1):=by
  refine kM c.box (λ x=>decide (x.2=q)) (λ x=>c.s x.1) _ λ x _=>⟨_,rfl,?_,λ _=>rfl⟩;show (pEq (c.s x.2) (c.s q)).bind asB=_;rw [h.eqs]; rfl
 have e2:cm [none,some 1] (lI qk (eV 0)) (tgN 0) (bT (l2 pEq (l2 pIx (eV 0) (eC (.int 1))) (eV 1))) (l2 pIx (eV 0) (eC (.int 0))) [.val c.d,.val (c.s q)]=some ((c.st.filter λ x=>decide (x.2=q)).map λ x=>c.s x.1):=by
  show (if (c.st.map c.box).length<=P4 then cGo _ _ _ _ _ else none)=_;rw [if_pos (L9 h)];exact e
 unfold nW gP oE;rw [e2];show some (PyData.list _)=some (PyData.list _);unfold chN;rw [QC]; rfl
theorem E5 (q p:Nat):∀ (l:List (Nat×Nat)),vY l q=some p->∀ s:Sl,sGo (tgN 2) (sIf (bT (l2 pEq (l2 pIx (eV 2) (eC (.int 0))) (eV 1))) (gP (eV 2)) sNx) (l.map c.box) [.val c.d,.val (c.s q),s]=some (.rt (c.box (q,p)))
 | x::r,hm,s=>by
  rw [P2];unfold sGo;have et:tgN 2 [.val c.d,.val (c.s q),s] (c.box x)=some [.val c.d,.val (c.s q),.val (c.box x)]:=rfl;rw [et,PC];have eb:(bT (l2 pEq (l2 pIx (eV 2) (eC (.int 0))) (eV 1))) [.val c.d,.val (c.s q),.val (c.box x)]=some (decide (x.1=q)):=by
   show (pEq (c.s x.1) (c.s q)).bind asB=_;rw [h.eqs]; rfl
  unfold sIf;rw [eb,PC];unfold vY at hm;by_cases e:x.1=q
  ·rw [if_pos e] at hm;cases hm;rw [if_pos (by simpa using e)];subst e;rfl
  ·rw [if_neg e] at hm;rw [if_neg (by simpa using e)];show sGo _ _ (r.map c.box) _=_;exact E5 q p r hm _
theorem sC {p:Nat} (h1:vY c.st q=some p):aK [c.d,c.s q]=some (c.box (q,p)):=by
 unfold aK cI;rw [if_pos (by rfl)];show (qH [.val c.d,.val (c.s q),.un]).bind _=_;have e2:qS (lI qk (eV 0)) (tgN 2) (sIf (bT (l2 pEq (l2 pIx (eV 2) (eC (.int 0))) (eV 1))) (gP (eV 2)) sNx) [.val c.d,.val (c.s q),.un]=some (.rt (c.box (q,p))):=E5 h q p c.st h1 .un;unfold qH cT;rw [e2]; rfl
theorem ym:∀ (n q:Nat) (l:List Nat),C8 c.st n q=some l->aS n [c.d,c.s q]=some (c.S l)
 | n+1,q,l,e=>by
  unfold C8 at e;obtain ⟨p,hq,e⟩:=ac e
  ·unfold aS cI;rw [if_pos (by rfl)];show (oY aK (aS n) [.val c.d,.val (c.s q),.un]).bind _=_;have eb:=sC h hq;have e1:fC 2 (l2 pIx (lA aK (aC (eV 0) (aC (eV 1) aN))) (eC (.int 1))) [.val c.d,.val (c.s q),.un]=some (.nx [.val c.d,.val (c.s q),.val (c.s (p))]):=by
    show ((aK [c.d,c.s q]).bind λ x=>_).bind _=_;rw [eb]; rfl
   have e2:(bT (l2 pEq (eV 2) (eC (.str "")))) [.val c.d,.val (c.s q),.val (c.s (p))]=some (decide (p=0)):=by
    show (pEq (c.s (p)) (.str "")).bind asB=_;rw [h.eq0]; rfl
   unfold oY cT;rw [e1,PC];show P7 (P7 (sIf _ _ _ _) _) _=_;unfold sIf;rw [e2,PC];split at e
   ·rename_i h0;cases e;rw [if_pos (by simpa using h0)];rfl
   ·rename_i h0;rw [if_neg (by simpa using h0)];obtain ⟨m,hm,e⟩:=ac e;split at e
    ·rename_i hl;cases e;have ih:=ym n _ m hm;show P7 (gP _ _) _=_;have e3:gP (l2 aH (lA (aS n) (aC (eV 0) (aC (eV 2) aN))) (oE (λ η=>((aC (eV 1) aN) η).bind gL))) [.val c.d,.val (c.s q),.val (c.s (p))]=some (.rt (c.S (m++[q]))):=by
      show (((aS n) [c.d,c.s (p)]).bind λ x=>(oE _ _).bind λ y=>aH x y).bind _=_;rw [ih,PC];show ((aH (c.S m) (.list [c.s q])).bind _)=_;unfold Sc.S aH;dsimp only;rw [if_pos (by rw [PJ]; exact big hl)];simp [Sc.S]
     rw [e3]; rfl
    ·cases e
theorem DY {F:PFn} {f:Nat->Option (List Nat)} (hF:∀ x l,f x=some l->F [c.d,c.s x]=some (c.S l)) (q:Nat) :
  ∀ (xs r:List Nat),E4 f xs=some r->∀ (done:List Nat) (s3:Sl),done.length+r.length<=3000000->∃ s3',sGo (tgN 3) (zF 2 (lI asL (lA F (aC (eV 0) (aC (eV 3) aN))))) (xs.map c.s) [.val c.d,.val (c.s q),.own (done.map c.s),s3]=some (.nx [.val c.d,.val (c.s q),.own ((done++r).map c.s),s3'])
 | [],r,e,done,s3,_=>by
  cases e;exact ⟨s3,by rw [Qr]; rfl⟩
 | x::xs,r,e,done,s3,hl=>by
  obtain ⟨a,ea,e⟩:=ac e;obtain ⟨b,eb,e⟩:=ac e;cases e;rw [PL] at hl;obtain ⟨s3',ih⟩:=DY hF q xs b eb (done++a) (.val (c.s x)) (by rw [PL]; omega);refine ⟨s3',?_⟩;have e1:zF 2 (lI asL (lA F (aC (eV 0) (aC (eV 3) aN)))) [.val c.d,.val (c.s q),.own (done.map c.s),.val (c.s x)]=some (.nx [.val c.d,.val (c.s q),.own ((done++a).map c.s),.val (c.s x)]):=by
   show P7 (P7 (F [c.d,c.s x]) asL) _=_;rw [hF x a ea];show (if (done.map c.s).length+(a.map c.s).length<=P4 then _ else _)=_;rw [if_pos (by rw [PJ,PJ]; exact big (by omega)),QG];rfl
  rw [P2];unfold sGo;show P7 (zF 2 _ [.val c.d,.val (c.s q),.own (done.map c.s),.val (c.s x)]) _=_;rw [e1,PC];show sGo _ _ _ _=_;rw [ih,QP]
theorem Df {F:PFn} {f:Nat->Option (List Nat)} (hF:∀ x l,f x=some l->F [c.d,c.s x]=some (c.S l)) :
  ∀ (xs r:List Nat),E4 f xs=some r->∀ (done:List Nat) (s3:Sl),done.length+r.length<=3000000->∃ s3',sGo (tgN 2) (zF 1 (lI asL (lA F (aC (eV 0) (aC (eV 2) aN))))) (xs.map c.s) [.val c.d,.own (done.map c.s),s3]=some (.nx [.val c.d,.own ((done++r).map c.s),s3'])
 | [],r,e,done,s3,_=>by
  cases e;exact ⟨s3,by rw [Qr]; rfl⟩
 | x::xs,r,e,done,s3,hl=>by
  obtain ⟨a,ea,e⟩:=ac e;obtain ⟨b,eb,e⟩:=ac e;cases e;rw [PL] at hl;obtain ⟨s3',ih⟩:=Df hF xs b eb (done++a) (.val (c.s x)) (by rw [PL]; omega);refine ⟨s3',?_⟩;have e1:zF 1 (lI asL (lA F (aC (eV 0) (aC (eV 2) aN)))) [.val c.d,.own (done.map c.s),.val (c.s x)]=some (.nx [.val c.d,.own ((done++a).map c.s),.val (c.s x)]):=by
   show P7 (P7 (F [c.d,c.s x]) asL) _=_;rw [hF x a ea];show (if (done.map c.s).length+(a.map c.s).length<=P4 then _ else _)=_;rw [if_pos (by rw [PJ,PJ]; exact big (by omega)),QG];rfl
  rw [P2];unfold sGo;show P7 (zF 1 _ [.val c.d,.own (done.map c.s),.val (c.s x)]) _=_;rw [e1,PC];show sGo _ _ _ _=_;rw [ih,QP]
theorem AK:∀ (n q:Nat) (l:List Nat),G0 c.st n q=some l->eU n [c.d,c.s q]=some (c.S l)
 | n+1,q,l,e=>by
  unfold G0 at e;obtain ⟨p,hq,e⟩:=ac e
  ·obtain ⟨r,hr,e⟩:=ac e;split at e
   ·rename_i hl;cases e;unfold eU cI;rw [if_pos (by rfl)];show (sO aK bF (eU n) [.val c.d,.val (c.s q),.un,.un]).bind _=_;have eb:=sC h hq;have e1:oK 2 (λ η=>((aC (l2 pIx (lA aK (aC (eV 0) (aC (eV 1) aN))) (eC (.int 0))) aN) η).bind gL) [.val c.d,.val (c.s q),.un,.un]=some (.nx [.val c.d,.val (c.s q),.own [c.s q],.un]):=by
     show P7 (P7 (P7 (P7 (aK [c.d,c.s q]) _) _) _) _=_;rw [eb];rfl
    obtain ⟨s3',e2⟩:=DY h (AK n) q (chN c.st q) r hr [q] .un (by simpa [Nat.add_comm] using hl);have e3:qS (lI asL (lA bF (aC (eV 0) (aC (eV 1) aN)))) (tgN 3) (zF 2 (lI asL (lA (eU n) (aC (eV 0) (aC (eV 3) aN))))) [.val c.d,.val (c.s q),.own [c.s q],.un]=some (.nx [.val c.d,.val (c.s q),.own (([q]++r).map c.s),s3']):=by
     show P7 (P7 (bF [c.d,c.s q]) asL) _=_;rw [vV h];exact e2
    unfold sO cT;rw [e1,PC];show P7 (P7 (qS _ _ _ _) _) _=_;rw [e3];rfl
   ·cases e
theorem CC {l:List Nat} (e:HF c.st=some l):fe [c.d]=some (c.S l):=by
 unfold HF at e;have ⟨r,hr,e⟩:=ac e;split at e
 ·rename_i hl;cases e;unfold fe cI;rw [if_pos (by rfl)];show (oZ bF (eU 13) [.val c.d,.un,.un]).bind _=_;have ⟨s3',e2⟩:=Df h (AK h 13) (chN c.st 0) l hr [] .un (by simpa using hl);have e3:qS (lI asL (lA bF (aC (eV 0) (aC (eC (.str "")) aN)))) (tgN 2) (zF 1 (lI asL (lA (eU 13) (aC (eV 0) (aC (eV 2) aN))))) [.val c.d,.own [],.un]=some (.nx [.val c.d,.own (l.map c.s),s3']):=by
   show P7 (P7 (bF [c.d,.str ""]) asL) _=_
   have:=vV h 0
   unfold Sc.s at this;rw [h.top] at this;rw [this];exact e2
  unfold oZ cT;show P7 (P7 (qS _ _ _ [.val c.d,.own [],.un]) _) _=_;rw [e3];rfl
 ·cases e
end
def Sd (ns:List Int):PD:=.list (ns.map Qx)
theorem DV:∀ ns:List Int,QA (ns.map Qx)=true
 | []=>rfl
 | _::r=>by
  have ih:=DV r;simpa [QA,Qz] using ih
theorem DL:∀ ns:List Int,QF (ns.map Qx)=0
 | []=>rfl
 | _::r=>by
  have ih:=DL r;simpa [QF,PyData.depth] using ih
theorem CY (ns:List Int):Qu (.list (ns.map Qx))=true:=by
 simp [Qu,Qz,PyData.depth,DV,DL]
theorem zw (i:Int):Qu (.int i)=true:=by simp [Qu,Qz,PyData.depth]
theorem eZ (i j:Int):pEq (.int i) (.int j)=some (.bool (i==j)):=by
 unfold pEq;rw [if_pos ⟨zw i,zw j⟩];simp [QK]
theorem ao {o:PD->PD->Option PD} {g:En->Option PD} {y z:PD} (hf:f η=some x) (hg:g η=some y) (ho:o x y=some z):l2 o f g η=some z:=by
 unfold l2;rw [hf,PC,hg,PC,ho]
theorem oV {i:Int} (h:CMul i j):lz (.int i) (.int j)=some (.int (i*j)):=if_pos h
theorem sH {i:Int} (h:0 < j):rQ (.int i) (.int j)=some (.int (i % j)):=if_pos h
theorem wD {i:Int} (h:CDiv i j):um (.int i) (.int j)=some (.int (i / j)):=if_pos h
theorem Dl {i:Int} (h1:-(2 ^ 64) < i) (h2:i < 2 ^ 64):CMul i j:=Or.inl ⟨h1,h2⟩
theorem Pc {i:Int} (h1:-(2 ^ 64) < j) (h2:j < 2 ^ 64):CMul i j:=Or.inr ⟨h1,h2⟩
section
variable {ns:List Int}
theorem KP (hn:ns.length<=63) {k:Int} (hk:0<=k):∃ v:Int,cX [Sd ns,.int k]=some (.int v):=by
 unfold cX cI;rw [if_pos (by rfl)];have et:(bT (l2 pEq (eV 0) (oE (λ η=>(aN η).bind gL)))) [.val (Sd ns),.val (.int k)]=some (decide (ns=[])):=by
  show P7 (pEq (Sd ns) (.list [])) asB=_;unfold pEq;rw [if_pos ⟨CY ns,by rfl⟩];cases ns <;> simp [Sd,QK,PyData.eqvAll,asB]
 show ∃ v,P7 (mQ [.val (Sd ns),.val (.int k)]) _=_;unfold mQ cT sIf;rw [et,PC];by_cases h0:ns=[]
 ·rw [if_pos (by simpa using h0)];refine ⟨7*k,?_⟩
  have:l2 lz (eC (.int 7)) (eV 1) [.val (Sd ns),.val (.int k)]=some (.int (7*k)):=ao rfl rfl (oV (Dl (by decide) (by decide)))
  unfold gP;rw [this]; rfl
 ·rw [if_neg (by simpa using h0)];have hp:0 < ns.length:=by cases ns with | nil=>exact absurd rfl h0 | cons=>simp
  have hlen:lA va (aC (eV 0) aN) [.val (Sd ns),.val (.int k)]=some (.int (ns.length:Int)):=by
   show some (Qx ((ns.map Qx).length:Int))=_;rw [PJ]
  have hm:l2 rQ (eV 1) (lA va (aC (eV 0) aN)) [.val (Sd ns),.val (.int k)]=some (.int (k % (ns.length:Int))):=ao rfl hlen (sH (by omega));have hd:l2 um (eV 1) (lA va (aC (eV 0) aN)) [.val (Sd ns),.val (.int k)]=some (.int (k / (ns.length:Int))):=ao rfl hlen (wD ⟨by omega,by omega⟩);obtain ⟨j,hj⟩:∃ j:Nat,k % (ns.length:Int)=(j:Int):=⟨(k % (ns.length:Int)).toNat,by have:=RB k (show (ns.length:Int)≠0 by omega); omega⟩;have hjl:j < ns.length:=by have:=RE k (show (0:Int) < ns.length by omega); omega
  refine ⟨ns[j]+6553*(k / (ns.length:Int)),?_⟩;have hx:l2 pIx (eV 0) (l2 rQ (eV 1) (lA va (aC (eV 0) aN))) [.val (Sd ns),.val (.int k)]=some (.int ns[j]):=by
   refine ao rfl hm ?_;rw [hj];show atI (ns.map Qx) (j:Int)=_;exact zj (by rw [P9,Qk hjl]; rfl)
  have hy:l2 lz (eC (.int 6553)) (l2 um (eV 1) (lA va (aC (eV 0) aN))) [.val (Sd ns),.val (.int k)]=some (.int (6553*(k / (ns.length:Int)))):=ao rfl hd (oV (Dl (by decide) (by decide)));have hz:=ao (o:=aH) hx hy rfl;show P7 (gP _ [.val (Sd ns),.val (.int k)]) _=_;unfold gP;rw [hz];rfl
theorem jG (hn:ns.length<=63) {k m:Int} (hk:0<=k) (hm:0 < m):∃ r:Nat,(r:Int) < m/\av [Sd ns,.int k,.int m]=some (.int r):=by
 have ⟨v,hv⟩:=KP hn hk;unfold av cI;rw [if_pos (by rfl)];have hc:lA cX (aC (eV 0) (aC (eV 1) aN)) [.val (Sd ns),.val (.int k),.val (.int m),.un]=some (.int v):=hv;have x1:l2 rQ (l2 aH (l2 lz (l2 rQ (lA cX (aC (eV 0) (aC (eV 1) aN))) (eC (.int 2147483563))) (eC (.int 69069))) (l2 lz (eC (.int 104723)) (l2 aH (eV 1) (eC (.int 1))))) (eC (.int 2147483563)) [.val (Sd ns),.val (.int k),.val (.int m),.un]=some (.int ((v % 2147483563*69069+104723*(k+1)) % 2147483563)) :=
  ao (ao (ao (ao hc rfl (sH (by decide))) rfl (oV (Pc (by decide) (by decide)))) (ao rfl (ao rfl rfl rfl) (oV (Dl (by decide) (by decide)))) rfl) rfl (sH (by decide))
 generalize hx:(v % 2147483563*69069+104723*(k+1)) % 2147483563=x at x1;have bx:0<=x/\x < 2147483563:=by rw [<- hx]; exact ⟨RB _ (by decide),RE _ (by decide)⟩
 have x2:l2 rQ (l2 aH (l2 lz (eV 3) (eV 3)) (l2 um (eV 3) (eC (.int 3)))) (eC (.int 2147483399)) [.val (Sd ns),.val (.int k),.val (.int m),.val (.int x)]=some (.int ((x*x+x / 3) % 2147483399)) :=
  ao (ao (ao rfl rfl (oV (Dl (by omega) (by omega)))) (ao rfl rfl (wD ⟨by decide,by decide⟩)) rfl) rfl (sH (by decide))
 generalize hy:(x*x+x / 3) % 2147483399=y at x2;have byy:0<=y/\y < 2147483399:=by rw [<- hy]; exact ⟨RB _ (by decide),RE _ (by decide)⟩
 have x3:l2 rQ (l2 um (l2 rQ (l2 aH (l2 lz (eV 3) (eV 3)) (l2 um (eV 3) (eC (.int 7)))) (eC (.int 2147483647))) (eC (.int 11))) (eV 2) [.val (Sd ns),.val (.int k),.val (.int m),.val (.int y)]=some (.int ((y*y+y / 7) % 2147483647 / 11 % m)) :=
  ao (ao (ao (ao (ao rfl rfl (oV (Dl (by omega) (by omega)))) (ao rfl rfl (wD ⟨by decide,by decide⟩)) rfl) rfl (sH (by decide))) rfl (wD ⟨by decide,by decide⟩)) rfl (sH hm)
 refine ⟨((y*y+y / 7) % 2147483647 / 11 % m).toNat,?_,?_⟩
 ·have h1:=RB ((y*y+y / 7) % 2147483647 / 11) (show m≠0 by omega);have h2:=RE ((y*y+y / 7) % 2147483647 / 11) hm;omega
 ·have h1:=RB ((y*y+y / 7) % 2147483647 / 11) (show m≠0 by omega);have e:(((y*y+y / 7) % 2147483647 / 11 % m).toNat:Int)=(y*y+y / 7) % 2147483647 / 11 % m:=by omega
  rw [e];show P7 (lO cX [.val (Sd ns),.val (.int k),.val (.int m),.un]) _=_;unfold lO cT fC gP;rw [x1,PC,PC];show P7 (P7 (P7 (l2 rQ _ _ [.val (Sd ns),.val (.int k),.val (.int m),.val (.int x)]) _) _) _=_;rw [x2,PC,PC];show P7 (P7 (l2 rQ _ _ [.val (Sd ns),.val (.int k),.val (.int m),.val (.int y)]) _) _=_;rw [x3];rfl
end
theorem dN {f g:En->Option Out} {η1:En} {r:Option Out} (h1:f η=some (.nx η1)) (h2:g η1=r):cT f g η=r:=by
 unfold cT;rw [h1]; exact h2
theorem ia {d:PD} (h:f η=some d):fC i f η=some (.nx (η.set i (.val d))):=by
 unfold fC;rw [h]; rfl
theorem y4 {f:En->Option (List PD)} {d:List PD} (h:f η=some d):oK i f η=some (.nx (η.set i (.own d))):=by
 unfold oK;rw [h]; rfl
theorem aW {o:PFn} {fs:En->Option (List PD)} {d:PD} (h1:fs η=some ds) (h2:o ds=some d):lA o fs η=some d:=by
 unfold lA;rw [h1]; exact h2
theorem ai {g:En->Option (List PD)} {d:PD} (h1:f η=some d) (h2:g η=some ds):aC f g η=some (d::ds):=by
 unfold aC;rw [h1,PC,h2]; rfl
theorem Aj {c:En->Option Bool} {f g:En->Option Out} (h:c η=some b):sIf c f g η=if b=true then f η else g η:=by
 unfold sIf;rw [h]; rfl
theorem bw (h:f η=some (.bool b)):bT f η=some b:=by
 unfold bT;rw [h]; rfl
theorem sP {it:En->Option (List PD)} {t:En->PD->Option En} {r:Option Out} (h:it η=some ds) (h2:sGo t body ds η=r):qS it t body η=r:=by
 unfold qS;rw [h]; exact h2
theorem BM (h1:-(2 ^ 62)<=j) (h2:j < 2 ^ 62):rng1 [.int j]=some (BL 0 j.toNat):=if_pos ⟨h1,h2⟩
theorem JM {t:En->PD->Option En} {body:En->Option Out} (Inv:Nat->En->Prop) (n:Nat)
  (st:∀ k η,k < n->Inv k η->∃ η1 η2,t η (.int (0+(k:Nat)))=some η1/\body η1=some (.nx η2)/\Inv (k+1) η2) {η:En} (h0:Inv 0 η):∃ η',sGo t body (BL 0 n) η=some (.nx η')/\Inv n η':=by
 have key:∀ (m k:Nat) (η:En),k+m=n->Inv k η->∃ η',sGo t body ((List.range' k m).map λ (k:Nat)=>Qx (0+(k:Nat))) η=some (.nx η')/\Inv n η':=by
  intro m
  induction m with
  | zero=>intro k η e h; exact ⟨η,rfl,by rw [<- e]; exact h⟩
  | succ m ih =>
   intro k η e h;obtain ⟨η1,η2,h1,h2,h3⟩:=st k η (by omega) h;obtain ⟨η',e1,e2⟩:=ih (k+1) η2 (by omega) h3;refine ⟨η',?_,e2⟩;rw [List.range'_succ,P2];unfold sGo;rw [h1,PC,h2,PC];exact e1
 unfold BL;rw [List.range_eq_range'];exact key n 0 η (by omega) h0
theorem Fu {ι:Type} {t:En->PD->Option En} {body:En->Option Out} (D:ι->PD) (Inv:List ι->En->Prop) (all:List ι)
  (st:∀ done x rest η,all=done++x::rest->Inv done η->∃ η1 η2,t η (D x)=some η1/\body η1=some (.nx η2)/\Inv (done++[x]) η2) {η:En} (h0:Inv [] η):∃ η',sGo t body (all.map D) η=some (.nx η')/\Inv all η':=by
 have key:∀ (rest done:List ι) (η:En),all=done++rest->Inv done η->∃ η',sGo t body (rest.map D) η=some (.nx η')/\Inv all η':=by
  intro rest
  induction rest with
  | nil=>intro done η e h; exact ⟨η,rfl,by rw [e,Qr]; exact h⟩
  | cons x r ih =>
   intro done η e h;obtain ⟨η1,η2,h1,h2,h3⟩:=st done x r η e h;obtain ⟨η',e1,e2⟩:=ih (done++[x]) η2 (by rw [e]; simp) h3;refine ⟨η',?_,e2⟩;rw [P2];unfold sGo;rw [h1,PC,h2,PC];exact e1
 exact key all [] η rfl h0
def let8:List Nat:=[100,98,103,97,104,99,102,101]
def nmT (t:Nat):Nat->Str
 | 0 => ""
 | j+1=>if j < 8 then ⟨#[let8.getD ((j+t) % 8) 0]⟩ else ⟨(Qf (j+1) 97).toArray⟩
theorem Ir:∀ x:Fin 8,∀ y:Fin 8,let8.getD x.val 0=let8.getD y.val 0->x=y:=by decide
theorem xP {t j:Nat} (h:j < 8):nmT t (j+1)=⟨#[let8.getD ((j+t) % 8) 0]⟩:=if_pos h
theorem Ic {t j:Nat} (h:¬ j < 8):nmT t (j+1)=⟨(Qf (j+1) 97).toArray⟩:=if_neg h
theorem EU:("" : Str).cps.size=0:=by decide
theorem FQ (t:Nat):∀ a b,nmT t a=nmT t b->a=b:=by
 have sz:∀ a,(nmT t a).cps.size=if a=0 then 0 else if a - 1 < 8 then 1 else a:=λ a=>by
  cases a with
  | zero=>exact EU
  | succ j =>
   by_cases h:j < 8
   ·rw [xP h]; simp [h]
   ·rw [Ic h]; simp [h]
 intro a b e;have s1:=sz a;have s2:=sz b;rw [e,s2] at s1;cases a with
 | zero =>
  cases b with
  | zero=>rfl
  | succ k =>
   simp at s1;split at s1 <;> omega
 | succ j =>
  cases b with
  | zero =>
   simp at s1;split at s1 <;> omega
  | succ k =>
   by_cases hj:j < 8
   ·by_cases hk:k < 8
    ·rw [xP hj,xP hk] at e;have e1:(#[let8.getD ((j+t) % 8) 0]:Array Nat)=#[let8.getD ((k+t) % 8) 0]:=by injection e
     have e2:let8.getD ((j+t) % 8) 0=let8.getD ((k+t) % 8) 0:=by simpa using e1
     have e3:=Ir ⟨(j+t) % 8,Nat.mod_lt _ (by decide)⟩ ⟨(k+t) % 8,Nat.mod_lt _ (by decide)⟩ e2;have e4:(j+t) % 8=(k+t) % 8:=by injection e3
     omega
    ·simp [hj,hk] at s1; omega
   ·by_cases hk:k < 8
    ·simp [hj,hk] at s1; omega
    ·simp [hj,hk] at s1; omega
theorem Kn:∀ x:Fin 8,let8.getD x.val 0 < 0x110000:=by decide
theorem Ew (t:Nat):∀ a,Qj (nmT t a)=true:=λ a=>by
 cases a with
 | zero=>exact (by decide +kernel:Qj ("" : Str)=true)
 | succ j =>
  by_cases h:j < 8
  ·rw [xP h]
   have:=Kn ⟨(j+t) % 8,Nat.mod_lt _ (by decide)⟩
   simp only [Qy] at this;simp [Qj,this]
  ·rw [Ic h];unfold Qj;rw [Array.all_eq_true];intro i hi
   simp
structure Dr where
 ps:List Nat
 nm:Nat->Str
 L:Nat->Int
 T:Nat->Int
 W:Nat->Int
 H:Nat->Int
 mr:Nat->Str
def bd (l t w h:Int):Prop:=(-3<=l/\l<=5)/\(-3<=t/\t<=5)/\(0<=w/\w<=8)/\(0<=h/\h<=8)
def mkS:List Bool->Str
 | [] => ""
 | b::r=>mkS r++(if b then (⟨#[[99,102,104,108].getD r.length 0]⟩:Str) else ("" : Str))
def My (m:Str):Prop:=∃ bs:List Bool,bs.length=4/\m=mkS bs
structure Dr.Ok (c:Dr):Prop where
 inj:∀ a b,c.nm a=c.nm b->a=b
 top:c.nm 0 = ""
 ok:∀ a,Qj (c.nm a)=true
 okm:∀ a,Qj (c.mr a)=true
 len:c.ps.length<=12
 par:∀ i,c.ps.getD i 0<=i
 bds:∀ i,bd (c.L i) (c.T i) (c.W i) (c.H i)
 mks:∀ i,My (c.mr i)
def Dr.box (c:Dr) (i:Nat):PD:=.tuple [.str (c.nm (i+1)),.str (c.nm (c.ps.getD i 0)),.int (c.L i),.int (c.T i),.int (c.W i),.int (c.H i),.str (c.mr i)]
def Dr.d (c:Dr):PD:=.tuple ((List.range c.ps.length).map c.box)
def Dr.s (c:Dr) (q:Nat):PD:=.str (c.nm q)
def Dr.more (c:Dr) (p:Nat) (l t w h:Int) (m:Str):Dr :=
 { ps:=c.ps++[p],nm:=c.nm,L:=λ i=>if i=c.ps.length then l else c.L i,T:=λ i=>if i=c.ps.length then t else c.T i,W:=λ i=>if i=c.ps.length then w else c.W i,H:=λ i=>if i=c.ps.length then h else c.H i,mr:=λ i=>if i=c.ps.length then m else c.mr i }
theorem Dr.more_d (c:Dr) (p:Nat) (l t w h:Int) (m:Str):(c.more p l t w h m).d=.tuple ((List.range c.ps.length).map c.box++[.tuple [.str (c.nm (c.ps.length+1)),.str (c.nm p),.int l,.int t,.int w,.int h,.str m]]):=by
 unfold Dr.d;have e:(c.more p l t w h m).ps.length=c.ps.length+1:=by unfold Dr.more; simp
 rw [e,List.range_succ,QG]
 congr 2
 ·refine List.map_congr_left λ i hi=>?_;have hlt:=QN.mp hi;have hne:i≠c.ps.length:=Qm hlt;have hps:(c.ps++[p])[i]?=c.ps[i]?:=PM hlt;unfold Dr.box Dr.more;simp only [hne,if_false,Qy,hps]
 ·unfold Dr.box Dr.more
  simp
theorem Dr.more_ok {c:Dr} (h:c.Ok) (hl:c.ps.length < 12) {p:Nat} (hp:p<=c.ps.length) (l t w g:Int) {m:Str} (hm:Qj m=true) (hb:bd l t w g) (hk:My m):(c.more p l t w g m).Ok where
 inj:=h.inj
 top:=h.top
 ok:=h.ok
 okm:=λ i=>by
  unfold Dr.more;dsimp only
  split
  ·exact hm
  ·exact h.okm i
 len:=by unfold Dr.more; simp; omega
 par:=λ i=>by
  unfold Dr.more;dsimp only;rw [Qy];by_cases hi:i < c.ps.length
  ·rw [PM hi,<- Qy];exact h.par i
  ·by_cases he:i=c.ps.length
   ·subst he;rw [P0 (PV _)];simpa using hp
   ·rw [Qw (by simp; omega)];exact Q1 _
 bds:=λ i=>by
  unfold Dr.more;dsimp only;by_cases e:i=c.ps.length
  ·rw [if_pos e,if_pos e,if_pos e,if_pos e]; exact hb
  ·rw [if_neg e,if_neg e,if_neg e,if_neg e]; exact h.bds i
 mks:=λ i=>by
  unfold Dr.more;dsimp only
  split
  ·exact hk
  ·exact h.mks i
def sg4:Nat->Str:=λ j=>⟨#[[99,102,104,108].getD j 0]⟩
theorem cfhl:enS [.str "cfhl"]=some ([0,1,2,3].map λ (j:Nat)=>PyData.tuple [.int (j:Nat),.str (sg4 j)]):=by
 have e:("cfhl" : Str).cps.toList=[99,102,104,108]:=by decide +kernel
 unfold enS;dsimp only;unfold Bi;rw [e];rfl
theorem dbg:("dbgahcfe" : Str).cps.toList=let8:=by decide +kernel
theorem KK:("dbgahcfe" : Str).length<=P4:=by decide +kernel
theorem Gq {a b:Str} (ha:Qj a=true) (hb:Qj b=true):Qj (a++b)=true:=by
 unfold Qj at ha hb ⊢;show (a.cps++b.cps).all _=true;rw [Array.all_append,ha,hb]; rfl
theorem wW (a b:Str):(a++b).length=a.length+b.length:=by
 show (a.cps++b.cps).size=_;rw [Array.size_append]; rfl
theorem Mb (j:Nat) (h:j∈[0,1,2,3]):Qj (sg4 j)=true:=by
 simp at h;rcases h with rfl | rfl | rfl | rfl <;> decide +kernel
theorem GJ (bs:List Bool):mkS bs=mkS (false::bs):=by
 show mkS bs=mkS bs++("" : Str);apply JG;show _=((mkS bs).cps++("" : Str).cps).toList
 have:("" : Str).cps=#[]:=by decide +kernel
 rw [this]; simp
theorem Ft (j:Nat):(sg4 j).length=1:=rfl
section
variable {ns:List Int} (hn:ns.length<=63)
include hn
theorem Id {x1 x2 x3 x4 x6 x7 x8:Sl} {hh:Int} (h0:0<=hh) (s10 s11 s12:Sl):∃ (m:Str) (u v:Sl),(Qj m=true/\My m) /\
  qS (λ η=>((aC (eC (.str "cfhl")) aN) η).bind enS) (tgT (bG (tgN 10) (bG (tgN 11) kX)))
  (sIf (bT (l2 pEq (lA av (aC (eV 0) (aC (l2 aH (l2 aH (eV 5) (eC (.int 5))) (eV 10)) (aC (l2 pIx (oE (λ η=>((aC (eC (.int 4)) (aC (eC (.int 2)) (aC (eC (.int 9)) (aC (eC (.int 6)) aN)))) η).bind gL)) (eV 10)) aN)))) (eC (.int 0)))) (fC 9 (l2 aH (eV 9) (eV 11))) sNx)
   [.val (Sd ns),x1,x2,x3,x4,.val (.int hh),x6,x7,x8,.val (.str ""),s10,s11,s12]=some (.nx [.val (Sd ns),x1,x2,x3,x4,.val (.int hh),x6,x7,x8,.val (.str m),u,v,s12]):=by
 have inv:=Fu (t:=tgT (bG (tgN 10) (bG (tgN 11) kX)))
  (body:=(sIf (bT (l2 pEq (lA av (aC (eV 0) (aC (l2 aH (l2 aH (eV 5) (eC (.int 5))) (eV 10)) (aC (l2 pIx (oE (λ η=>((aC (eC (.int 4)) (aC (eC (.int 2)) (aC (eC (.int 9)) (aC (eC (.int 6)) aN)))) η).bind gL)) (eV 10)) aN)))) (eC (.int 0)))) (fC 9 (l2 aH (eV 9) (eV 11))) sNx))
  (λ (j:Nat)=>PyData.tuple [.int (j:Nat),.str (sg4 j)])
  (λ done η=>∃ (m:Str) (u v:Sl),(Qj m=true/\∃ bs:List Bool,bs.length=done.length/\m=mkS bs)/\m.length<=done.length/\η=[.val (Sd ns),x1,x2,x3,x4,.val (.int hh),x6,x7,x8,.val (.str m),u,v,s12])
  [0,1,2,3] ?_ (η:=[.val (Sd ns),x1,x2,x3,x4,.val (.int hh),x6,x7,x8,.val (.str ""),s10,s11,s12]) ⟨"", s10,s11,⟨by decide +kernel,[],rfl,rfl⟩,by decide +kernel,rfl⟩
 ·obtain ⟨η',e1,m,u,v,hm,_,rfl⟩:=inv;refine ⟨m,u,v,⟨hm.1,hm.2⟩,sP (ds:=[0,1,2,3].map λ (j:Nat)=>PyData.tuple [.int (j:Nat),.str (sg4 j)]) cfhl e1⟩
 ·rintro done j rest η hall ⟨m,u,v,hm,hml,rfl⟩
  have hj:j∈[0,1,2,3]:=by rw [hall]; simp
  have hdl:done.length<=3:=by
   have:=congrArg List.length hall
   simp at this;omega
  have hjd:j=done.length:=by
   match done,hall,hdl with
   | [],hall,_=>simp at hall; simp [hall.1]
   | [_],hall,_=>simp at hall; simp [hall.2.1]
   | [_,_],hall,_=>simp at hall; simp [hall.2.2.1]
   | [_,_,_],hall,_=>simp at hall; simp [hall.2.2.2.1]
  obtain ⟨hm,bs,hbs,hmm⟩:=hm;have hmod:∃ q:Int,0 < q/\l2 pIx (oE (λ η=>((aC (eC (.int 4)) (aC (eC (.int 2)) (aC (eC (.int 9)) (aC (eC (.int 6)) aN)))) η).bind gL)) (eV 10) [.val (Sd ns),x1,x2,x3,x4,.val (.int hh),x6,x7,x8,.val (.str m),.val (.int (j:Nat)),.val (.str (sg4 j)),s12]=some (.int q):=by
   have eo:oE (λ η=>((aC (eC (.int 4)) (aC (eC (.int 2)) (aC (eC (.int 9)) (aC (eC (.int 6)) aN)))) η).bind gL) [.val (Sd ns),x1,x2,x3,x4,.val (.int hh),x6,x7,x8,.val (.str m),.val (.int (j:Nat)),.val (.str (sg4 j)),s12]=some (.list [.int 4,.int 2,.int 9,.int 6]):=by
    have:gL [.int 4,.int 2,.int 9,.int 6]=some [.int 4,.int 2,.int 9,.int 6]:=if_pos (by show 4<=P4; decide)
    show P7 (gL [.int 4,.int 2,.int 9,.int 6]) _=_;rw [this]; rfl
   simp at hj;rcases hj with rfl | rfl | rfl | rfl
   ·exact ⟨4,by decide,ao eo rfl rfl⟩
   ·exact ⟨2,by decide,ao eo rfl rfl⟩
   ·exact ⟨9,by decide,ao eo rfl rfl⟩
   ·exact ⟨6,by decide,ao eo rfl rfl⟩
  have ⟨q,hq,eq⟩:=hmod;have ⟨r,hr,er⟩:=jG hn (k:=hh+5+(j:Nat)) (m:=q) (by omega) hq;have eb:bT (l2 pEq (lA av (aC (eV 0) (aC (l2 aH (l2 aH (eV 5) (eC (.int 5))) (eV 10)) (aC (l2 pIx (oE (λ η=>((aC (eC (.int 4)) (aC (eC (.int 2)) (aC (eC (.int 9)) (aC (eC (.int 6)) aN)))) η).bind gL)) (eV 10)) aN)))) (eC (.int 0)))
    [.val (Sd ns),x1,x2,x3,x4,.val (.int hh),x6,x7,x8,.val (.str m),.val (.int (j:Nat)),.val (.str (sg4 j)),s12]=some ((r:Int)==0) :=
   bw (ao (aW (ai rfl (ai (ao (ao rfl rfl rfl) rfl rfl) (ai eq rfl))) er) rfl (eZ _ _))
  refine ⟨[.val (Sd ns),x1,x2,x3,x4,.val (.int hh),x6,x7,x8,.val (.str m),.val (.int (j:Nat)),.val (.str (sg4 j)),s12],?_⟩;by_cases h0:(r:Int)==0
  ·refine ⟨[.val (Sd ns),x1,x2,x3,x4,.val (.int hh),x6,x7,x8,.val (.str (m++sg4 j)),.val (.int (j:Nat)),.val (.str (sg4 j)),s12],rfl,?_,m++sg4 j,_,_,⟨Gq hm (Mb j hj),true::bs,by simp [hbs],by rw [hmm,hjd,<- hbs]; rfl⟩,?_,rfl⟩
   ·rw [Aj eb,if_pos h0];refine ia (d:=.str (m++sg4 j)) (ao rfl rfl ?_);show (if m.length+(sg4 j).length<=P4 then some (PyData.str (m++sg4 j)) else none)=_;rw [if_pos (by rw [Ft]; exact big (by omega))]
   ·rw [wW,Ft,PL];simpa using hml
  ·refine ⟨[.val (Sd ns),x1,x2,x3,x4,.val (.int hh),x6,x7,x8,.val (.str m),.val (.int (j:Nat)),.val (.str (sg4 j)),s12],rfl,?_,m,_,_,⟨hm,false::bs,by simp [hbs],by rw [hmm]; exact GJ bs⟩,?_,rfl⟩
   ·rw [Aj eb,if_neg h0]; rfl
   ·rw [PL]; simp; omega
end
theorem gN (h:ds.length<=3000000):(if ds.length<=P4 then some (PyData.tuple ds) else none)=some (.tuple ds):=if_pos (big h)
theorem eX (h:ds.length<=3000000):gL ds=some ds:=if_pos (big h)
theorem D0 {a b:List PD} (h:a.length+b.length<=3000000):aH (.list a) (.list b)=some (.list (a++b)):=if_pos (big h)
theorem Nh {a b:List PD} (h:a.length+b.length<=3000000):aH (.tuple a) (.tuple b)=some (.tuple (a++b)):=if_pos (big h)
theorem cH {f:En->Option (List PD)} (h:f η=some ds):oE f η=some (.list ds):=by
 unfold oE;rw [h]; rfl
theorem iJ {fi:En->Option (List PD)} {t:En->PD->Option En} {p:En->Option Bool} {r:Option (List PD)} (h1:fi η=some ds) (hz:ds.length<=3000000) (h2:cGo t p f (wb mp η) ds=r):cm mp fi t p f η=r:=by
 unfold cm;rw [h1,PC,if_pos (big hz)];exact h2
def NR (aE:PFn):En->Option Out :=
 (cT (fC 5 (l2 aH (l2 aH (eV 1) (eC (.int 3))) (l2 lz (eC (.int 9)) (eV 4))))
  (cT (fC 6 (l2 pIx (l2 aH (oE (λ η=>((aC (eC (.str "")) aN) η).bind gL)) (oE (cm [none] (lI qk (eV 2)) (tgN 0) fg (l2 pIx (eV 0) (eC (.int 0)))))) (lA aE (aC (eV 0) (aC (eV 5) (aC (l2 aH (eV 4) (eC (.int 1))) aN))))))
  (cT (oK 7 (cm [none,some 0,some 5] (λ η=>((aC (eC (.int 2)) aN) η).bind rng1) (tgN 0) fg (l2 wB (lA aE (aC (eV 1) (aC (l2 aH (l2 aH (eV 2) (eC (.int 1))) (eV 0)) (aC (eC (.int 9)) aN)))) (eC (.int 3)))))
  (λ η=>(cT (oK 8 (cm [none,some 0,some 5] (λ η=>((aC (eC (.int 2)) aN) η).bind rng1) (tgN 0) fg (lA aE (aC (eV 1) (aC (l2 aH (l2 aH (eV 2) (eC (.int 3))) (eV 0)) (aC (eC (.int 9)) aN))))))
  (λ η=>(cT (fC 9 (eC (.str "")))
  (cT (qS (λ η=>((aC (eC (.str "cfhl")) aN) η).bind enS) (tgT (bG (tgN 10) (bG (tgN 11) kX)))
  (sIf (bT (l2 pEq (lA aE (aC (eV 0) (aC (l2 aH (l2 aH (eV 5) (eC (.int 5))) (eV 10)) (aC (l2 pIx (oE (λ η=>((aC (eC (.int 4)) (aC (eC (.int 2)) (aC (eC (.int 9)) (aC (eC (.int 6)) aN)))) η).bind gL)) (eV 10)) aN)))) (eC (.int 0)))) (fC 9 (l2 aH (eV 9) (eV 11))) sNx))
  (cT (fC 12 (l2 pIx (eC (.str "dbgahcfe")) (l2 rQ (l2 aH (eV 4) (eV 3)) (eC (.int 8)))))
  (fC 2 (l2 aH (eV 2) (lA tpF (aC (l2 aH (l2 aH (lA tpF (aC (eV 12) (aC (eV 6) aN))) (lA GB (aC (l2 aH (eV 7) (eV 8)) aN))) (lA tpF (aC (eV 9) aN))) aN))))))) (frz 8 η))) (frz 7 η)))))
section
variable {ns:List Int} (hn:ns.length<=63)
include hn
theorem G7 (lo hi:Int) (h:∀ k:Nat,k < 2->∃ y,(lo<=y/\y<=hi)/\f ((wb mp η).set 0 (.val (.int (0+(k:Nat)))))=some (.int y)):∃ a b:Int,((lo<=a/\a<=hi)/\(lo<=b/\b<=hi))/\cm mp (λ η=>((aC (eC (.int 2)) aN) η).bind rng1) (tgN 0) fg f η=some [.int a,.int b]:=by
 have ⟨a,ha,ea⟩:=h 0 (by decide);have ⟨b,hb,eb⟩:=h 1 (by decide);refine ⟨a,b,⟨ha,hb⟩,iJ (ds:=BL 0 2) (BM (j:=2) (by decide) (by decide)) (by decide) ?_⟩
 have:=kM (t:=tgN 0) (p:=fg) (f:=f) (η:=wb mp η) (λ (k:Nat)=>Qx (0+(k:Nat))) (λ _=>true) (λ k=>.int (if k=0 then a else b)) (List.range 2) λ k hk=>by
  refine ⟨_,rfl,rfl,λ _=>?_⟩;have hk:=QN.mp hk;rcases (show k=0\/k=1 by omega) with rfl | rfl
  ·exact ea
  ·exact eb
 exact this
theorem Hn {a0:Int} (ha:0<=a0):∃ (c:Dr) (tn:Nat),c.Ok/\c.nm=nmT tn/\c.ps.length<=7/\dM [Sd ns,.int a0]=some c.d:=by
 have ⟨tn,htn,et⟩:=jG hn (k:=a0+1) (m:=8) (by omega) (by decide);have ⟨n,hnn,en⟩:=jG hn (k:=a0) (m:=8) ha (by decide);have main:=JM (t:=tgN 4) (body:=NR av) (λ k η=>∃ (c:Dr) (s4 s5 s6 s7 s8 s9 s10 s11 s12:Sl),c.Ok/\c.nm=nmT tn/\c.ps.length=k/\η=[.val (Sd ns),.val (.int a0),.val c.d,.val (.int tn),s4,s5,s6,s7,s8,s9,s10,s11,s12]) n ?st
  (η:=[.val (Sd ns),.val (.int a0),.val (.tuple []),.val (.int tn),.un,.un,.un,.un,.un,.un,.un,.un,.un]) ⟨⟨[],nmT tn,λ _=>0,λ _=>0,λ _=>0,λ _=>0,λ _ => ""⟩,.un,.un,.un,.un,.un,.un,.un,.un,.un,⟨FQ tn,rfl,Ew tn,λ _=>Ew 0 0,by simp,λ _=>by simp,λ _=>by show bd 0 0 0 0; unfold bd; decide,λ _=>⟨[false,false,false,false],rfl,by show ("" : Str)=mkS [false,false,false,false]; decide +kernel⟩⟩,rfl,rfl,rfl⟩
 case st =>
  rintro k η hk ⟨c,s4,s5,s6,s7,s8,s9,s10,s11,s12,hc,hnm,hlen,rfl⟩
  have hk7:k < 7:=by omega
  refine ⟨[.val (Sd ns),.val (.int a0),.val c.d,.val (.int tn),.val (.int (0+(k:Nat))),s5,s6,s7,s8,s9,s10,s11,s12],?_⟩;have hh:l2 aH (l2 aH (eV 1) (eC (.int 3))) (l2 lz (eC (.int 9)) (eV 4)) [.val (Sd ns),.val (.int a0),.val c.d,.val (.int tn),.val (.int (0+(k:Nat))),s5,s6,s7,s8,s9,s10,s11,s12]=some (.int (a0+3+9*(0+(k:Nat)))) :=
   ao (ao rfl rfl rfl) (ao rfl rfl (oV (Dl (by decide) (by decide)))) rfl
  generalize hhe:(a0+3+9*(0+(k:Nat)):Int)=hr at hh;have hr0:0<=hr:=by omega
  have ⟨p,hp,ep⟩:=jG hn (k:=hr) (m:=0+(k:Nat)+1) hr0 (by omega);have hp':p<=k:=by omega
  have ea:l2 pIx (l2 aH (oE (λ η=>((aC (eC (.str "")) aN) η).bind gL)) (oE (cm [none] (lI qk (eV 2)) (tgN 0) fg (l2 pIx (eV 0) (eC (.int 0)))))) (lA av (aC (eV 0) (aC (eV 5) (aC (l2 aH (eV 4) (eC (.int 1))) aN))))
    [.val (Sd ns),.val (.int a0),.val c.d,.val (.int tn),.val (.int (0+(k:Nat))),.val (.int hr),s6,s7,s8,s9,s10,s11,s12]=some (c.s p):=by
   have e1:oE (λ η=>((aC (eC (.str "")) aN) η).bind gL) [.val (Sd ns),.val (.int a0),.val c.d,.val (.int tn),.val (.int (0+(k:Nat))),.val (.int hr),s6,s7,s8,s9,s10,s11,s12]=some (.list [c.s 0]):=by
    refine cH ?_;show gL [.str ""]=_;rw [eX (by decide)];unfold Dr.s;rw [hc.top]
   have e2:oE (cm [none] (lI qk (eV 2)) (tgN 0) fg (l2 pIx (eV 0) (eC (.int 0)))) [.val (Sd ns),.val (.int a0),.val c.d,.val (.int tn),.val (.int (0+(k:Nat))),.val (.int hr),s6,s7,s8,s9,s10,s11,s12]=some (.list ((List.range k).map λ i=>c.s (i+1))):=by
    refine cH (iJ (ds:=(List.range c.ps.length).map c.box) rfl (by rw [PJ,Q7]; omega) ?_);rw [hlen]
    have:=kM (t:=tgN 0) (p:=fg) (f:=l2 pIx (eV 0) (eC (.int 0))) (η:=[.un]) c.box (λ _=>true) (λ i=>c.s (i+1)) (List.range k) λ i _=>⟨_,rfl,rfl,λ _=>rfl⟩
    rw [show (List.range k).filter (λ _=>true)=List.range k by simp] at this;exact this
   refine ao (ao e1 e2 (D0 (by simp; omega))) (aW (ai rfl (ai rfl (ai (ao rfl rfl rfl) rfl))) ep) ?_;show atI ([c.s 0]++(List.range k).map λ i=>c.s (i+1)) (p:Int)=_;refine zj ?_;cases p with
   | zero=>rfl
   | succ j =>
    show ((List.range k).map λ i=>c.s (i+1))[j]?=_;rw [P9,R1 (by omega)];rfl
  have ⟨pa,pb,hbp,epl⟩:=G7 hn (-3) 5 (mp:=[none,some 0,some 5]) (f:=l2 wB (lA av (aC (eV 1) (aC (l2 aH (l2 aH (eV 2) (eC (.int 1))) (eV 0)) (aC (eC (.int 9)) aN)))) (eC (.int 3)))
   (η:=[.val (Sd ns),.val (.int a0),.val c.d,.val (.int tn),.val (.int (0+(k:Nat))),.val (.int hr),.val (c.s p),s7,s8,s9,s10,s11,s12]) λ j hj=>by
    have ⟨r,hr9,er⟩:=jG hn (k:=hr+1+(0+(j:Nat))) (m:=9) (by omega) (by decide);exact ⟨(r:Int) - 3,by omega,ao (aW (ai rfl (ai (ao (ao rfl rfl rfl) rfl rfl) (ai rfl rfl))) er) rfl rfl⟩
  have ⟨sa,sb,hbs,esz⟩:=G7 hn 0 8 (mp:=[none,some 0,some 5]) (f:=lA av (aC (eV 1) (aC (l2 aH (l2 aH (eV 2) (eC (.int 3))) (eV 0)) (aC (eC (.int 9)) aN))))
   (η:=[.val (Sd ns),.val (.int a0),.val c.d,.val (.int tn),.val (.int (0+(k:Nat))),.val (.int hr),.val (c.s p),.val (.list [.int pa,.int pb]),s8,s9,s10,s11,s12]) λ j hj=>by
    have ⟨r,hr9,er⟩:=jG hn (k:=hr+3+(0+(j:Nat))) (m:=9) (by omega) (by decide);exact ⟨(r:Int),by omega,aW (ai rfl (ai (ao (ao rfl rfl rfl) rfl rfl) (ai rfl rfl))) er⟩
  have ⟨m,u,v,hm,em⟩:=Id hn (x1:=.val (.int a0)) (x2:=.val c.d) (x3:=.val (.int tn)) (x4:=.val (.int (0+(k:Nat)))) (x6:=.val (c.s p)) (x7:=.val (.list [.int pa,.int pb])) (x8:=.val (.list [.int sa,.int sb])) hr0 s10 s11 s12;have enm:l2 pIx (eC (.str "dbgahcfe")) (l2 rQ (l2 aH (eV 4) (eV 3)) (eC (.int 8))) [.val (Sd ns),.val (.int a0),.val c.d,.val (.int tn),.val (.int (0+(k:Nat))),.val (.int hr),.val (c.s p),.val (.list [.int pa,.int pb]),.val (.list [.int sa,.int sb]),.val (.str m),u,v,s12]=some (c.s (k+1)):=by
   refine ao rfl (ao (ao rfl rfl rfl) rfl (sH (by decide))) ?_;show (if ("dbgahcfe" : Str).length<=P4 then (atI ("dbgahcfe" : Str).cps.toList ((0+(k:Nat)+(tn:Int)) % 8)).bind _ else none)=_;rw [if_pos KK,dbg];have e8:((0+(k:Nat)+(tn:Int)) % 8:Int)=(((k+tn) % 8:Nat):Int):=by omega
   have hlt:(k+tn) % 8 < 8:=Nat.mod_lt _ (by decide);rw [e8,zj (v:=let8.getD ((k+tn) % 8) 0) (by rw [Qy,Qk (show (k+tn) % 8 < let8.length from hlt)]; rfl)];unfold Dr.s;rw [hnm,xP (by omega)];rfl
  have hcd:c.d=.tuple ((List.range c.ps.length).map c.box):=rfl;have efin:l2 aH (eV 2) (lA tpF (aC (l2 aH (l2 aH (lA tpF (aC (eV 12) (aC (eV 6) aN))) (lA GB (aC (l2 aH (eV 7) (eV 8)) aN))) (lA tpF (aC (eV 9) aN))) aN))
    [.val (Sd ns),.val (.int a0),.val c.d,.val (.int tn),.val (.int (0+(k:Nat))),.val (.int hr),.val (c.s p),.val (.list [.int pa,.int pb]),.val (.list [.int sa,.int sb]),.val (.str m),u,v,.val (c.s (k+1))]=some (c.more p pa pb sa sb m).d:=by
   rw [Dr.more_d];refine ao (x:=c.d) rfl (aW (ai (ao (ao (aW (ai rfl (ai rfl rfl)) (gN (by simp))) (aW (ai (ao rfl rfl (D0 (by simp))) rfl) rfl) (Nh (by simp))) (aW (ai rfl rfl) (gN (by simp))) (Nh (by simp))) rfl) (gN (by simp))) ?_;rw [hcd];refine (Nh (by simp; omega)).trans ?_;rw [hlen];rfl
  refine ⟨[.val (Sd ns),.val (.int a0),.val (c.more p pa pb sa sb m).d,.val (.int tn),.val (.int (0+(k:Nat))),.val (.int hr),.val (c.s p),.val (.list [.int pa,.int pb]),.val (.list [.int sa,.int sb]),.val (.str m),u,v,.val (c.s (k+1))],rfl,?_,c.more p pa pb sa sb m,_,_,_,_,_,_,_,_,_,Dr.more_ok hc (by omega) (by omega) pa pb sa sb hm.1 ⟨hbp.1,hbp.2,hbs.1,hbs.2⟩ hm.2,hnm,by simp [Dr.more,hlen],rfl⟩;refine dN (ia hh) (dN (ia ea) (dN (y4 epl) ?_));refine dN (y4 esz) ?_;refine dN (ia rfl) (dN em (dN (ia enm) (ia efin)))
 obtain ⟨η',e1,c,s4,s5,s6,s7,s8,s9,s10,s11,s12,hc,hnm,hlen,rfl⟩:=main;refine ⟨c,tn,hc,hnm,by omega,?_⟩;unfold dM cI;rw [if_pos (by rfl)];show P7 (lN av [.val (Sd ns),.val (.int a0),.un,.un,.un,.un,.un,.un,.un,.un,.un,.un,.un]) _=_;have e2:lN av [.val (Sd ns),.val (.int a0),.un,.un,.un,.un,.un,.un,.un,.un,.un,.un,.un]=some (.rt c.d):=by
  refine dN (ia (aW rfl (gN (by decide)))) (dN (ia (aW (ai rfl (ai (ao rfl rfl rfl) (ai rfl rfl))) et)) (dN (sP ?_ e1) rfl));show P7 (aC (lA av _) aN _) rng1=_;rw [ai (aW (ai rfl (ai rfl (ai rfl rfl))) en) rfl];rw [PC,BM (by omega) (by omega),Int.toNat_natCast]
 rw [e2]; rfl
end
theorem tK:∀ ss:List Str,PyData.eqvAll (ss.map PyData.str) (ss.map PyData.str)=true
 | []=>by simp [PyData.eqvAll]
 | s::r=>by
  have ih:=tK r;rw [P2];unfold PyData.eqvAll QK;rw [ih,str_dec,decide_eq_true rfl]; rfl
theorem yo {ss:List Str} (h:∀ s∈ss,Qj s=true):Qu (.list (ss.map PyData.str))=true:=by
 have h1:QA (ss.map PyData.str)=true:=by
  induction ss with
  | nil=>rfl
  | cons x r ih=>simp [QA,Qz,h x Qc,ih λ s hs=>h s (P3 _ hs)]
 have h2:QF (ss.map PyData.str)=0:=by
  clear h h1
  induction ss with
  | nil=>rfl
  | cons x r ih=>simp [QF,PyData.depth,ih]
 simp [Qu,Qz,PyData.depth,h1,h2]
theorem HW {ss:List Str} (h:∀ s∈ss,Qj s=true):pNe (.list (ss.map PyData.str)) (.list (ss.map PyData.str))=some (.bool false):=by
 unfold pNe;rw [if_pos ⟨yo h,yo h⟩];unfold QK;rw [tK]; rfl
theorem IY {f g:En->Option Bool} (h1:f η=some false) (h2:g η=some b):bOr f g η=some b:=by
 unfold bOr;rw [h1]; exact h2
theorem ifF {c:En->Option Bool} {f g:En->Option Out} (h:c η=some false):sIf c f g η=g η:=by
 rw [Aj h]; rfl
theorem zn {c:En->Option Bool} {g:En->Option PD} (h:c η=some b):vIf c f g η=if b=true then f η else g η:=by
 unfold vIf;rw [h]; rfl
theorem uK {fl fh:En->Option (Option Int)} {d:PD} {l h:Option Int} (h1:f η=some x) (h2:fl η=some l) (h3:fh η=some h) (h4:pSl x l h=some d):eSl f fl fh η=some d:=by
 unfold eSl;rw [h1,PC,h2,PC,h3]; exact h4
theorem rP {i:Int} (h:f η=some (.int i)):pS f η=some (some i):=by
 unfold pS;rw [h]; rfl
theorem mh {k:PD->Option (List PD)} {d:PD} (h:f η=some d) (h2:k d=some ds):lI k f η=some ds:=by
 unfold lI;rw [h]; exact h2
section
variable {c:Sc} (h:c.Ok)
include h
omit h in
theorem Pu {l:List Nat} {i:Int} {x:Nat} (e:atI l i=some x):atI (l.map c.s) i=some (c.s x):=by
 unfold atI at e ⊢;have ⟨j,h1,h2⟩:=ac e;rw [PJ,h1,PC,P9,h2]; rfl
omit h in
theorem zh {α β:Type} (f:α->β) (xs:List α) (lo hi:Option Int):vi (xs.map f) lo hi=(vi xs lo hi).map f:=by
 unfold vi;rw [PJ,List.map_take,List.map_drop]
omit h in
theorem KL {α:Type} (xs:List α) (i k:Nat) (hi:i<=xs.length):vi xs (some (i:Int)) (some ((i:Int)+(k:Int)))=(xs.drop i).take k:=by
 unfold vi;have e:((i:Int)+(k:Int))=((i+k:Nat):Int):=by omega
 rw [e,HT.sIx_nat,HT.sIx_nat,Nat.min_eq_left hi];rw [<- List.take_eq_take_iff.mpr (show min (min (i+k) xs.length - i) (xs.drop i).length=min k (xs.drop i).length by rw [Qo]; omega)]
omit h in
theorem M7 {α:Type} (xs:List α) (k:Nat):vi xs none (some (k:Int))=xs.take k:=by
 unfold vi;rw [HT.sIx_none,HT.sIx_nat,List.drop_zero,Nat.sub_zero];exact List.take_eq_take_iff.mpr (by omega)
end
section
variable {c:Sc} (h:c.Ok)
include h
theorem G3 {p:Nat} {l:List Nat} (h1:vY c.st q=some p) (e:C8 c.st 13 q=some l) (pr:Nat->Nat) (hl:∀ x∈l,vY c.st x=some (pr x)) (hz:l.length<=3000000) :
  cZ [c.d,c.s q]=some (.tuple [.int ((l.map λ x=>c.L x).sum),.int ((l.map λ x=>c.T x).sum),.int ((l.map λ x=>c.L x).sum+c.W q),.int ((l.map λ x=>c.T x).sum+c.H q)]):=by
 unfold cZ cI;rw [if_pos (by rfl)];show (o4 (aS 13) aK [.val c.d,.val (c.s q),.un,.un,.un,.un]).bind _=_;have all:∀ l:List Nat,l.filter (λ _=>true)=l:=λ l=>by simp
 have e0:cm [none,some 0] (lI asL (lA (aS 13) (aC (eV 0) (aC (eV 1) aN)))) (tgN 0) fg (lA aK (aC (eV 1) (aC (eV 0) aN))) [.val c.d,.val (c.s q),.un,.un,.un,.un]=some (l.map λ x=>c.box (x,pr x)):=by
  show P7 (P7 (aS 13 [c.d,c.s q]) asL) _=_;rw [ym h 13 q l e];show (if (l.map c.s).length<=P4 then _ else _)=_;rw [if_pos (by rw [PJ]; exact big hz)]
  have:=kM (t:=tgN 0) (p:=fg) (f:=lA aK (aC (eV 1) (aC (eV 0) aN))) (η:=[.un,.val c.d]) c.s (λ _=>true) (λ x=>c.box (x,pr x)) l λ x hx=>⟨_,rfl,rfl,λ _=>sC h (hl x hx)⟩
  rw [all] at this;exact this
 have sm:∀ (k:Int) (Y:Nat->Int) (η:En),(∀ x,(l2 pIx (eV 0) (eC (.int k))) [.val (c.box (x,pr x))]=some (.int (Y x)))->eV 2 η=some (.list (l.map λ x=>c.box (x,pr x))) ->
   lA BV (aC (oE (cm [none] (lI asL (eV 2)) (tgN 0) fg (l2 pIx (eV 0) (eC (.int k))))) aN) η=some (.int ((l.map λ x=>Y x).sum)):=λ k Y η hY hη=>by
  have e1:cm [none] (lI asL (eV 2)) (tgN 0) fg (l2 pIx (eV 0) (eC (.int k))) η=some ((l.map λ x=>Y x).map Qx):=by
   show P7 (P7 (eV 2 η) asL) _=_;rw [hη];show (if (l.map λ x=>c.box (x,pr x)).length<=P4 then _ else _)=_;rw [if_pos (by rw [PJ]; exact big hz)]
   have:=kM (t:=tgN 0) (p:=fg) (f:=l2 pIx (eV 0) (eC (.int k))) (η:=wb [none] η) (λ x=>c.box (x,pr x)) (λ _=>true) (λ x=>.int (Y x)) l λ x hx=>⟨_,rfl,rfl,λ _=>hY x⟩
   rw [all] at this;rw [QC];exact this
  show P7 (P7 (P7 (cm _ _ _ _ _ η) _) _) _=_;rw [e1];show BV [.list ((l.map λ x=>Y x).map Qx)]=_;unfold BV;dsimp only;rw [G1]; rfl
 unfold o4 cT oK;rw [e0];have s1:=sm 2 c.L [.val c.d,.val (c.s q),.val (.list (l.map λ x=>c.box (x,pr x))),.un,.un,.un] (λ _=>rfl) rfl;have s2:=sm 3 c.T [.val c.d,.val (c.s q),.val (.list (l.map λ x=>c.box (x,pr x))),.val (.int ((l.map λ x=>c.L x).sum)),.un,.un] (λ _=>rfl) rfl;have s3:=sC h h1;show P7 (P7 (fC 3 _ [.val c.d,.val (c.s q),.val (.list (l.map λ x=>c.box (x,pr x))),.un,.un,.un]) _) _=_;unfold fC;rw [s1,PC,PC];show P7 (P7 (P7 (lA BV _ [.val c.d,.val (c.s q),.val (.list (l.map λ x=>c.box (x,pr x))),.val (.int ((l.map λ x=>c.L x).sum)),.un,.un]) _) _) _=_;rw [s2,PC,PC];show P7 (P7 (P7 (aK [c.d,c.s q]) _) _) _=_;rw [s3];rfl
end
theorem dj {α β:Type} {o:Option α} {k:α->Option β} {x:α} {r:Option β} (h:o=some x) (h2:k x=r):o.bind k=r:=by
 rw [h]; exact h2
theorem On {o:PD->Option PD} {d:PD} (h1:f η=some x) (h2:o x=some d):l1 o f η=some d:=by
 unfold l1;rw [h1]; exact h2
theorem wC {d:PD} (h:Qu d=true):pNe d d=some (.bool false):=by
 unfold pNe;rw [if_pos ⟨h,h⟩,SeqAt.eqv_refl d (SeqAt.canLay_of_shaped h)]; rfl
theorem ifN {c:En->Option Bool} {f:En->Option Out} (h:c η=some false):sIf c f sNx η=some (.nx η):=by
 rw [ifF h]; rfl
theorem Ge {f:En->Option Bool} (h:f η=some b):E9 f η=some (!b):=by
 unfold E9;rw [h]; rfl
theorem Cv {f g:En->Option Bool} {a:Bool} (h1:f η=some a) (h2:g η=some b):A8 f g η=some (a&&b):=by
 unfold A8;rw [h1];cases a with
 | false=>rfl
 | true=>exact h2
theorem Fm (h:f η=some (.bool b)):Gm f η=some (.bool (!b)):=by
 unfold Gm;rw [h]; rfl
theorem BG {g:En->Option PD} {a:Bool} (h1:f η=some (.bool a)) (h2:g η=some (.bool b)):CN f g η=some (.bool (a&&b)):=by
 unfold CN;rw [h1];cases a with
 | false=>rfl
 | true=>exact h2
theorem Ce {g h:En->Option PD} {i k:Int} (hf:f η=some (.int i)) (hg:g η=some (.int j)) (hh:h η=some (.int k)):lch pLe pLt f g h η=some (.bool (decide (i<=j)&&decide (j < k))):=by
 have e1:pLe (.int i) (.int j)=some (.bool (decide (i<=j))):=rfl;have e2:pLt (.int j) (.int k)=some (.bool (decide (j < k))):=rfl;unfold lch;rw [hf,PC,hg,PC,e1,PC];show (if decide (i<=j)=true then (h η).bind λ w=>pLt (.int j) w else some (.bool false))=_;cases decide (i<=j) with
 | false=>rfl
 | true=>rw [if_pos rfl,hh,PC,e2]; rfl
theorem i8 {g:En->Option Out} {d:PD} (hl:ds.length=n) (h:g (ds.map Sl.val++Qf (m - n) .un)=some (.rt d)):cI n m g ds=some d:=by
 unfold cI;rw [if_pos hl,h]; rfl
theorem j4 {d:PD} (h:f η=some d):gP f η=some (.rt d):=by
 unfold gP;rw [h]; rfl
theorem ou {ι:Type} {t:En->PD->Option En} (D:ι->PD) (Y:ι->PD) (xs:List ι) (h:∀ x∈xs,∃ η1,t η (D x)=some η1/\f η1=some (Y x)):cGo t fg f η (xs.map D)=some (xs.map Y):=by
 have:=kM (t:=t) (p:=fg) (f:=f) (η:=η) D (λ _=>true) Y xs λ x hx=>by
  obtain ⟨η1,h1,h2⟩:=h x hx;exact ⟨η1,h1,rfl,λ _=>h2⟩
 rw [show xs.filter (λ _=>true)=xs by simp] at this;exact this
theorem FM (bs:List Bool):HY [.list (bs.map PyData.bool)]=some (.bool (bs.any id)):=by
 unfold HY B0;dsimp only;rw [Fa]; rfl
theorem BX (i j:Int):GD [.int i,.int j]=some (.int (max i j)):=by
 show some (Qx (if j > i then j else i))=_
 have:(if j > i then j else i)=max i j:=by split <;> omega
 rw [this]
theorem BW (i j:Int):GC [.int i,.int j]=some (.int (min i j)):=by
 show some (Qx (if j < i then j else i))=_
 have:(if j < i then j else i)=min i j:=by split <;> omega
 rw [this]
def inM (s m:Str):Bool:=!(Builtin.Str.occurrences m s 0 m.length 1).isEmpty
theorem HX (neg:Bool) (s m:Str):pIn neg (.str s) (.str m)=some (.bool (if neg then !inM s m else inM s m)):=rfl
def Sc.geo (c:Sc):Geo:=⟨c.L,c.T,c.W,c.H,λ q=>inM "c" (c.mr q),λ q=>inM "h" (c.mr q),λ q=>inM "l" (c.mr q)⟩
def arD (a:Ar):PD:=.tuple [.int a.1,.int a.2.1,.int a.2.2.1,.int a.2.2.2]
structure Tr (c:Sc) (ps:List Nat) (D:Nat->Prop) (pnt:List Nat):Prop where
 ok:c.Ok
 din:∀ q,D q->In ps q
 par:∀ q,D q->vY c.st q=some (K20.par ps q)
 path:∀ q,D q->C8 c.st 13 q=some (P ps q)
 up:∀ q,D q->∀ x∈P ps q,D x
 pn:HF c.st=some pnt
 pd:∀ q∈pnt,D q
 pl:pnt.length<=2000000
 ps:A9 ps
theorem LL (q:Nat):(P ps q).length<=q:=Es q q
theorem FO (h:Nat->Bool):∀ l:List Nat,(!(l.map h).any id)=l.all λ x=>!h x
 | []=>rfl
 | x::r=>by
  have:=FO h r
  rw [P2,QV,Q9,<- this];cases h x <;> simp
section
variable {c:Sc} {ps:List Nat} {D:Nat->Prop} {pnt:List Nat} (t:Tr c ps D pnt)
include t
theorem OH (hq:D q):aK [c.d,c.s q]=some (c.box (q,par ps q)):=sC t.ok (t.par q hq)
theorem Fe (hq:D q):aS 13 [c.d,c.s q]=some (c.S (P ps q)):=ym t.ok 13 q _ (t.path q hq)
theorem Pj (hq:D q):q<=7:=Qg (t.din q hq).2 t.ps.len
theorem P_7 (hq:D q):(P ps q).length<=7:=Qg (LL q) (Pj t hq)
theorem Jk (hq:D q):cZ [c.d,c.s q]=some (arD (c.geo.area ps q)) :=
 G3 t.ok (t.par q hq) (t.path q hq) (par ps) (λ x hx=>t.par x (t.up q hq x hx)) (by have:=P_7 t hq; omega)
theorem G2:fe [c.d]=some (c.S pnt):=CC t.ok t.pn
theorem Ff (hq:D q) (m:Str):bj [c.d,c.s q,.str m]=some (.bool (inM m (c.mr q))) :=
 i8 rfl (show re aK [.val c.d,.val (c.s q),.val (.str m)]=_ from j4 (ao rfl (ao (aW (ai rfl (ai rfl rfl)) (OH t hq)) rfl rfl) rfl))
theorem KY (hq:D q):f8 [c.d,c.s q]=some (.bool (c.geo.shown ps q)):=by
 have e:cm [none,some 0] (lI asL (lA (aS 13) (aC (eV 0) (aC (eV 1) aN)))) (tgN 0) fg (lA bj (aC (eV 1) (aC (eV 0) (aC (eC (.str "h")) aN)))) [.val c.d,.val (c.s q)]=some (((P ps q).map c.geo.h).map PyData.bool):=by
  refine iJ (ds:=(P ps q).map c.s) (mh (aW (ai rfl (ai rfl rfl)) (Fe t hq)) rfl) (by rw [PJ]; have:=P_7 t hq; omega) ?_;rw [QC];exact ou (η:=[.un,.val c.d]) c.s (λ x=>.bool (c.geo.h x)) (P ps q) λ x hx=>⟨[.val (c.s x),.val c.d],rfl,aW (ai rfl (ai rfl (ai rfl rfl))) (Ff t (t.up q hq x hx) "h")⟩
 have e2:=Fm (aW (ai (g:=aN) (cH e) rfl) (FM _));rw [FO] at e2;exact i8 rfl (show qZ (aS 13) bj [.val c.d,.val (c.s q)]=_ from j4 e2)
omit t in
theorem Nn (a b:Ar):fW [arD a,arD b]=some (arD (ovl a b)) :=
 i8 rfl (show sM [.val (arD a),.val (arD b),.un,.un]=_ from
  dN (ia (aW (ai (ao rfl rfl rfl) (ai (ao rfl rfl rfl) rfl)) (BX _ _)))
   (dN (ia (aW (ai (ao rfl rfl rfl) (ai (ao rfl rfl rfl) rfl)) (BX _ _)))
    (j4 (aW (ai rfl (ai rfl (ai (aW (ai (ao rfl rfl rfl) (ai (ao rfl rfl rfl) rfl)) (BW _ _)) (ai (aW (ai (ao rfl rfl rfl) (ai (ao rfl rfl rfl) rfl)) (BW _ _)) rfl)))) (gN (by simp))))))
omit t in
theorem KZ (a:Ar) (x y:Int):bO [arD a,.int x,.int y]=some (.bool (vh a x y)) :=
 i8 rfl (show p0 [.val (arD a),.val (.int x),.val (.int y)]=_ from
  j4 (BG (Ce (ao rfl rfl rfl) rfl (ao rfl rfl rfl)) (Ce (ao rfl rfl rfl) rfl (ao rfl rfl rfl))))
theorem G6 {x1:Sl}:∀ (l:List Nat) (w:Ar) (s3:Sl),(∀ x∈l,D x)->∃ s3',sGo (tgN 3) (sIf (bT (lA bj (aC (eV 0) (aC (eV 3) (aC (eC (.str "c")) aN))))) (fC 2 (lA fW (aC (eV 2) (aC (lA cZ (aC (eV 0) (aC (eV 3) aN))) aN)))) sNx)
  (l.map c.s) [.val c.d,x1,.val (arD w),s3]=some (.nx [.val c.d,x1,.val (arD (Eb c.geo ps l w)),s3'])
 | [],w,s3,_=>⟨s3,rfl⟩
 | x::r,w,s3,h=>by
  have hx:=h x Qc;obtain ⟨s3',ih⟩:=G6 r (if c.geo.c x=true then ovl w (c.geo.area ps x) else w) (.val (c.s x)) λ y hy=>h y (P3 _ hy);refine ⟨s3',?_⟩;rw [P2];unfold sGo Eb;have eb:bT (lA bj (aC (eV 0) (aC (eV 3) (aC (eC (.str "c")) aN)))) [.val c.d,x1,.val (arD w),.val (c.s x)]=some (c.geo.c x):=bw (aW (ai rfl (ai rfl (ai rfl rfl))) (Ff t hx "c"));show P7 (sIf _ _ _ [.val c.d,x1,.val (arD w),.val (c.s x)]) _=_;have e1:sIf (bT (lA bj (aC (eV 0) (aC (eV 3) (aC (eC (.str "c")) aN))))) (fC 2 (lA fW (aC (eV 2) (aC (lA cZ (aC (eV 0) (aC (eV 3) aN))) aN)))) sNx [.val c.d,x1,.val (arD w),.val (c.s x)]
    = some (.nx [.val c.d,x1,.val (arD (if c.geo.c x=true then ovl w (c.geo.area ps x) else w)),.val (c.s x)]):=by
   rw [Aj eb];cases c.geo.c x with
   | false=>rfl
   | true =>
    rw [if_pos rfl,if_pos rfl];exact ia (aW (ai rfl (ai (aW (ai rfl (ai rfl rfl)) (Jk t hx)) rfl)) (Nn w _))
  rw [e1,PC];exact ih
theorem Ji (hq:D q):fq [c.d,c.s q]=some (arD (c.geo.wnd ps q)):=by
 have ⟨s3,e⟩:=G6 t (x1:=.val (c.s q)) (P ps q) (c.geo.area ps q) .un λ x hx=>t.up q hq x hx;exact i8 rfl (show pZ cZ (aS 13) bj fW [.val c.d,.val (c.s q),.un,.un]=_ from
  dN (ia (aW (ai rfl (ai rfl rfl)) (Jk t hq))) (dN (sP (mh (aW (ai rfl (ai rfl rfl)) (Fe t hq)) rfl) e) (j4 rfl)))
omit t in
def tkD (c:Sc) (ps:List Nat) (q:Nat):PD:=.tuple [c.s q,arD (c.geo.wnd ps q)]
theorem EI (h:q∈pnt.reverse.filter (c.geo.shown ps)):D q:=t.pd q (List.mem_reverse.mp (QR.mp h).1)
theorem Le (h:q∈tkL c.geo ps pnt):D q:=EI t (QR.mp h).1
theorem Jj:kC [c.d]=some (.list ((tkL c.geo ps pnt).map (tkD c ps))):=by
 have hk:pnt.length<=3000000:=Qg t.pl (by decide);have e1:cm [none,some 0] (λ η=>((aC (lA fe (aC (eV 0) aN)) aN) η).bind rvS) (tgN 0) (bT (lA f8 (aC (eV 1) (aC (eV 0) aN)))) (eV 0) [.val c.d,.un]=some ((pnt.reverse.filter (c.geo.shown ps)).map c.s):=by
  refine iJ (ds:=pnt.reverse.map c.s) ?_ (by rw [PJ,QJ]; exact hk) ?_
  ·refine dj (ai (aW (ai rfl rfl) (G2 t)) rfl) ?_;show some ((List.map c.s _).reverse)=_;rw [RO]
  ·exact kM (η:=[.un,.val c.d]) c.s (c.geo.shown ps) c.s _ λ x hx=>⟨[.val (c.s x),.val c.d],rfl,bw (aW (ai rfl (ai rfl rfl)) (KY t (t.pd x (List.mem_reverse.mp hx)))),λ _=>rfl⟩
 have e2:cm [none,some 0] (lI asL (eV 1)) (tgN 0) (E9 (bT (lA bj (aC (eV 1) (aC (eV 0) (aC (eC (.str "l")) aN)))))) (lA tpF (aC (eV 0) (aC (lA fq (aC (eV 1) (aC (eV 0) aN))) aN)))
   [.val c.d,.val (.list ((pnt.reverse.filter (c.geo.shown ps)).map c.s))]=some ((tkL c.geo ps pnt).map (tkD c ps)):=by
  refine iJ (ds:=(pnt.reverse.filter (c.geo.shown ps)).map c.s) (mh rfl rfl) ?_ ?_
  ·rw [PJ];refine Qg (Q4 ..) ?_;rw [QJ]; exact hk
  ·exact kM (η:=[.un,.val c.d]) c.s (λ q=>!c.geo.l q) (tkD c ps) _ λ x hx=>⟨[.val (c.s x),.val c.d],rfl,Ge (bw (aW (ai rfl (ai rfl (ai rfl rfl))) (Ff t (EI t hx) "l"))),λ _=>aW (ai rfl (ai (aW (ai rfl (ai rfl rfl)) (Ji t (EI t hx))) rfl)) (gN (by simp))⟩
 exact i8 rfl (show uH fe f8 bj fq [.val c.d,.un]=_ from dN (y4 e1) (j4 (cH e2)))
omit t in
def hdD (c:Sc):List Nat->PD
 | []=>.none
 | q::_=>c.s q
theorem DF (x y:Int) {x0:Sl}:∀ (l:List Nat) (s3 s4:Sl),(∀ q∈l,D q) ->
  (l.filter (c.geo.tch ps x y)=[]->∃ s3' s4',sGo (tgT (bG (tgN 3) (bG (tgN 4) kX))) (sIf (bT (lA bO (aC (eV 4) (aC (eV 1) (aC (eV 2) aN))))) (gP (eV 3)) sNx) (l.map (tkD c ps)) [x0,.val (.int x),.val (.int y),s3,s4]=some (.nx [x0,.val (.int x),.val (.int y),s3',s4']))
  /\ (∀ q r,l.filter (c.geo.tch ps x y)=q::r->sGo (tgT (bG (tgN 3) (bG (tgN 4) kX))) (sIf (bT (lA bO (aC (eV 4) (aC (eV 1) (aC (eV 2) aN))))) (gP (eV 3)) sNx) (l.map (tkD c ps)) [x0,.val (.int x),.val (.int y),s3,s4]=some (.rt (c.s q)))
 | [],s3,s4,_=>⟨λ _=>⟨s3,s4,rfl⟩,λ q r e=>by cases e⟩
 | p::l,s3,s4,h=>by
  have hp:=h p Qc;have ih:=DF x y (x0:=x0) l (.val (c.s p)) (.val (arD (c.geo.wnd ps p))) λ q hq=>h q (P3 _ hq);have eb:bT (lA bO (aC (eV 4) (aC (eV 1) (aC (eV 2) aN)))) [x0,.val (.int x),.val (.int y),.val (c.s p),.val (arD (c.geo.wnd ps p))]=some (c.geo.tch ps x y p):=by
   rw [<- Jx t.ps (t.din p hp).1];exact bw (aW (ai rfl (ai rfl (ai rfl rfl))) (KZ _ x y))
  have es:sGo (tgT (bG (tgN 3) (bG (tgN 4) kX))) (sIf (bT (lA bO (aC (eV 4) (aC (eV 1) (aC (eV 2) aN))))) (gP (eV 3)) sNx) ((p::l).map (tkD c ps)) [x0,.val (.int x),.val (.int y),s3,s4]
    = if c.geo.tch ps x y p=true then some (.rt (c.s p)) else sGo (tgT (bG (tgN 3) (bG (tgN 4) kX))) (sIf (bT (lA bO (aC (eV 4) (aC (eV 1) (aC (eV 2) aN))))) (gP (eV 3)) sNx) (l.map (tkD c ps)) [x0,.val (.int x),.val (.int y),.val (c.s p),.val (arD (c.geo.wnd ps p))]:=by
   rw [P2]
   conv=>lhs; unfold sGo
   show P7 (sIf _ _ _ [x0,.val (.int x),.val (.int y),.val (c.s p),.val (arD (c.geo.wnd ps p))]) _=_;rw [Aj eb];cases c.geo.tch ps x y p <;> rfl
  rw [es,QS];cases c.geo.tch ps x y p with
  | false =>
   rw [if_neg PN,if_neg PN];exact ih
  | true =>
   rw [if_pos rfl,if_pos rfl];exact ⟨λ e=>(by cases e),λ q r e=>(by cases e; rfl)⟩
theorem K0 (x y:Int):iC [.list ((tkL c.geo ps pnt).map (tkD c ps)),.int x,.int y]=some (hdD c (Cg c.geo ps pnt x y)):=by
 have:=DF t x y (x0:=.val (.list ((tkL c.geo ps pnt).map (tkD c ps)))) (tkL c.geo ps pnt) .un .un λ q hq=>Le t hq
 have eh:Cg c.geo ps pnt x y=(tkL c.geo ps pnt).filter (c.geo.tch ps x y):=rfl;rw [eh];cases hh:(tkL c.geo ps pnt).filter (c.geo.tch ps x y) with
 | nil =>
  have ⟨s3,s4,e⟩:=this.1 hh;exact i8 rfl (show lB bO [.val (.list ((tkL c.geo ps pnt).map (tkD c ps))),.val (.int x),.val (.int y),.un,.un]=_ from dN (sP (mh rfl rfl) e) (j4 rfl))
 | cons q r =>
  have e:=this.2 q r hh;refine i8 rfl (show lB bO [.val (.list ((tkL c.geo ps pnt).map (tkD c ps))),.val (.int x),.val (.int y),.un,.un]=_ from ?_);unfold lB cT;rw [sP (r:=some (.rt (c.s q))) (mh rfl rfl) e];rfl
end
def kD (c:Sc):Option Nat->PD
 | some x=>c.s x
 | none=>.none
def oL (c:Sc):Option (List Nat)->PD
 | some l=>c.S l
 | none=>.none
structure Hd where
 trail:List Nat
 pr:Option (List Nat)
 held:Option Nat
 clk:Option Nat
 mom:Int
 dbl:Bool
variable {h':Hd} {K:Int->Hd}
def hd0:Hd:=⟨[],none,none,none,0,false⟩
def hf (c:Sc) (h:Hd):List (Str×D):=[("trail", .d (c.S h.trail)),("pressed_at", .d (oL c h.pr)),("held_by", .d (kD c h.held)),("clicked", .d (kD c h.clk)),("clicked_moment", .d (.int h.mom)),("was_double", .d (.bool h.dbl))]
abbrev Ho (c:Sc) (s:Sto) (m:Nat) (h:Hd):Prop:=s[m]?=some (.obj 0 (hf c h))
def rD (c:Sc) (r:Str×Nat):PD:=.tuple [.str r.1,c.s r.2]
def Rw (c:Sc) (l:List (Str×Nat)):PD:=.list (l.map (rD c))
def shN:List Nat->List Nat->List Nat
 | x::xs,y::ys=>if x=y then x::shN xs ys else []
 | _,_=>[]
theorem BJ:∀ a b:List Nat,(shN a b).length<=a.length
 | [],_=>by simp [shN]
 | x::xs,[]=>by simp [shN]
 | x::xs,y::ys=>by
  unfold shN
  split
  ·have:=BJ xs ys
   simp; omega
  ·simp
theorem jL {fs:List (Str×D)} {f:Str} (h1:w.η[i]?=some (some (.r m))) (h2:w.s[m]?=some (.obj k fs)) (h3:fs.lookup f=some (.d x)):gR i f (vw w)=some x:=by
 unfold gR vw;rw [P9,h1];show (match some (vwS (pD w.s) w.s (some (.r m))) with | some (.ob fs)=>fs f | _=>none)=_;rw [Jz h2];show (fs.lookup f).bind (pD w.s)=_;rw [h3]; rfl
theorem vO {l m:List (Str×Nat)} (hl:l.length<=1000) (hm:m.length<=1000):aH (Rw c l) (Rw c m)=some (Rw c (l++m)):=by
 unfold aH Rw;dsimp only;rw [if_pos (by rw [PJ,PJ]; exact big (by omega)),<- QG]
theorem IS {α:Type} (xs:List α) (k:Nat):vi xs (some (k:Int)) none=xs.drop k:=by
 unfold vi;rw [HT.sIx_nat,HT.sIx_none];rcases Nat.le_total k xs.length with h | h
 ·rw [Nat.min_eq_left h];exact RP (by rw [Qo]; omega)
 ·rw [Nat.min_eq_right h,List.drop_eq_nil_of_le (PV _),List.drop_eq_nil_of_le h,List.take_nil]
theorem Ci (l:List Nat) (k:Nat):pSl (c.S l) (some (k:Int)) none=some (c.S (l.drop k)):=by
 show some (PyData.list _)=_;rw [zh,IS]; rfl
theorem EG (l:List Nat):pSl (c.S l) (some (-1)) none=some (c.S (l.drop (l.length - 1))):=by
 show some (PyData.list (vi (l.map c.s) (some (-1)) none))=_;rw [zh]
 have:vi l (some (-1)) none=l.drop (l.length - 1):=by
  unfold vi;rw [HT.sIx_none];have e:HT.sIx l.length 0 (some (-1))=l.length - 1:=by
   unfold HT.sIx
   first | (dsimp only; split <;> omega) | (dsimp only; omega) | (simp; omega) | skip
  rw [e];exact RP (by rw [Qo]; omega)
 rw [this]; rfl
section
variable {c:Sc} (h:c.Ok)
include h
theorem nes (a b:Nat):pNe (c.s a) (c.s b)=some (.bool (!decide (a=b))):=by
 have:=ze (h.ok a) (h.ok b)
 rw [h.dec] at this;exact this
theorem Lk {A B:Sl}:∀ (a b acc:List Nat) (s3 s4:Sl),acc.length+a.length<=1000->∃ s3' s4',sGo (tgT (bG (tgN 3) (bG (tgN 4) kX))) (cT (sIf (bT (l2 pNe (eV 3) (eV 4))) sBk sNx) (Hq 2 (eV 3))) (zpD (a.map c.s) (b.map c.s)) [A,B,.own (acc.map c.s),s3,s4]=some (.nx [A,B,.own ((acc++shN a b).map c.s),s3',s4'])
 | [],b,acc,s3,s4,_=>⟨s3,s4,by simp [zpD,sGo,shN]⟩
 | x::xs,[],acc,s3,s4,_=>⟨s3,s4,by simp [zpD,sGo,shN]⟩
 | x::xs,y::ys,acc,s3,s4,hl=>by
  rw [P2,P2,zpD];unfold sGo shN;show ∃ s3' s4',P7 (some [A,B,.own (acc.map c.s),.val (c.s x),.val (c.s y)]) _=_;by_cases e:x=y
  ·subst e;obtain ⟨s3',s4',ih⟩:=Lk xs ys (acc++[x]) (.val (c.s x)) (.val (c.s x)) (by rw [PL]; simp at hl ⊢; omega);refine ⟨s3',s4',?_⟩;have hne:=nes h x x;rw [decide_eq_true rfl] at hne;have hb:cT (sIf (bT (l2 pNe (eV 3) (eV 4))) sBk sNx) (Hq 2 (eV 3)) [A,B,.own (acc.map c.s),.val (c.s x),.val (c.s x)]=some (.nx [A,B,.own ((acc++[x]).map c.s),.val (c.s x),.val (c.s x)]):=by
    refine dN (η1:=[A,B,.own (acc.map c.s),.val (c.s x),.val (c.s x)]) (ifN (bw (ao rfl rfl hne))) ?_;show (if (acc.map c.s).length < P4 then some (Out.nx [A,B,.own (acc.map c.s++[c.s x]),.val (c.s x),.val (c.s x)]) else none)=_;rw [if_pos (P5 (show (acc.map c.s).length < 1001 by rw [PJ]; omega) (big (by decide))),QG]; rfl
   rw [PC,hb,PC,if_pos rfl];dsimp only;rw [ih]
   simp
  ·refine ⟨.val (c.s x),.val (c.s y),?_⟩;have hne:=nes h x y;rw [decide_eq_false e] at hne;have hb:cT (sIf (bT (l2 pNe (eV 3) (eV 4))) sBk sNx) (Hq 2 (eV 3)) [A,B,.own (acc.map c.s),.val (c.s x),.val (c.s y)]=some (.bk [A,B,.own (acc.map c.s),.val (c.s x),.val (c.s y)]):=by
    unfold cT;rw [Aj (b:=true) (bw (ao rfl rfl hne)),if_pos rfl]; rfl
   rw [PC,hb,PC,if_neg e]
   simp
theorem OM {a b:List Nat} (ha:a.length<=1000):f7 [c.S a,c.S b]=some (c.S (shN a b)):=by
 have ⟨s3,s4,e⟩:=Lk h (A:=.val (c.S a)) (B:=.val (c.S b)) a b [] .un .un (by simpa using ha);refine i8 rfl (show uI [.val (c.S a),.val (c.S b),.un,.un,.un]=_ from ?_);refine dN (η1:=[.val (c.S a),.val (c.S b),.own [],.un,.un]) (y4 (dj rfl (eX (by simp)))) (dN (η1:=[.val (c.S a),.val (c.S b),.own ((shN a b).map c.s),s3,s4]) (sP (dj rfl rfl) ?_) rfl);simpa using e
end
def wr (w:Str) (l:List Nat):List (Str×Nat):=l.map λ x=>(w,x)
def lead (h:Hd) (p:List Nat):List (Str×Nat):=wr "leave" (h.trail.drop (shN h.trail p).length).reverse++wr "enter" (p.drop (shN h.trail p).length)
def tell (h:Hd) (w:Str):List (Str×Nat):=match h.held with | some x=>[(w,x)] | none=>[]
def yW (h:Hd) (x:Nat) (mo:Int):Bool:=decide (h.clk=some x)&&(decide (mo - h.mom<=20)&&!h.dbl)
def nN (h:Hd) (x:Nat) (mo:Int):List (Str×Nat):=if yW h x mo=true then [("click", x),("double", x)] else [("click", x)]
def ri (h:Hd) (x:Nat) (mo:Int):Hd:={ h with clk:=some x,mom:=mo,dbl:=yW h x mo }
theorem lH {l:Sto} {c c':Cell}:(l.set n c).set n c'=l.set n c':=Ro ..
theorem Ho.set {s:Sto} {h:Hd} (hc:Ho c s m h) (h':Hd):Ho c (s.set m (.obj 0 (hf c h'))) m h':=PY (PR.mp hc).1
theorem Go (w:Str) (x:Nat) (η:En) (h:eV 0 η=some (c.s x)):lA tpF (aC (eC (.str w)) (aC (eV 0) aN)) η=some (rD c (w,x)) :=
 aW (ai rfl (ai h rfl)) (gN (by simp))
section
variable {c:Sc} {s:Sto} {m:Nat} {h:Hd}
theorem Fi (ok:c.Ok) (hc:Ho c s m h) (ht:h.trail.length<=1000) (hp:p.length<=1000):br [.r m,.d (c.S p)] s=some (.d (Rw c (lead h p)),s.set m (.obj 0 (hf c { h with trail:=p }))):=by
 refine bI rfl (show oB f7 ⟨[some (.r m),some (.d (c.S p)),none,none],s⟩=_ from ?_);have ft:∀ (x2 x3:Option D),gR 0 "trail" (vw ⟨[some (.r m),some (.d (c.S p)),x2,x3],s⟩)=some (c.S h.trail):=λ x2 x3=>jL rfl hc rfl;refine ak (w1:=⟨[some (.r m),some (.d (c.S p)),some (.d (.int ((shN h.trail p).length:Nat))),none],s⟩) (aO (am (aW (ai (aW (ai (ft _ _) (ai rfl rfl)) (OM ok ht)) rfl) ?_))) ?_
 ·show some (Qx (((shN h.trail p).map c.s).length:Nat))=_;rw [PJ]
 have e3:cm [none] (λ η=>((aC (eSl (gR 0 "trail") (pS (eV 2)) pN) aN) η).bind rvS) (tgN 0) fg (lA tpF (aC (eC (.str "leave")) (aC (eV 0) aN))) (vw ⟨[some (.r m),some (.d (c.S p)),some (.d (.int ((shN h.trail p).length:Nat))),none],s⟩)=some ((wr "leave" (h.trail.drop (shN h.trail p).length).reverse).map (rD c)):=by
  refine iJ (ds:=(h.trail.drop (shN h.trail p).length).reverse.map c.s) (dj (ai (uK (ft _ _) (rP rfl) rfl (Ci _ _)) rfl) ?_) (by rw [PJ,QJ,Qo]; omega) ?_
  ·show some ((h.trail.drop (shN h.trail p).length).map c.s).reverse=_;rw [RO]
  ·unfold wr;rw [QC];exact ou (η:=[.un]) c.s (λ x=>rD c ("leave", x)) _ λ x hx=>⟨[.val (c.s x)],rfl,Go "leave" x _ rfl⟩
 refine ak (w1:=⟨[some (.r m),some (.d (c.S p)),some (.d (.int ((shN h.trail p).length:Nat))),some (.d (Rw c (wr "leave" (h.trail.drop (shN h.trail p).length).reverse)))],s⟩) (aO (Of e3)) ?_;refine ak (w1:=⟨[some (.r m),some (.d (c.S p)),some (.d (.int ((shN h.trail p).length:Nat))),some (.d (Rw c (wr "leave" (h.trail.drop (shN h.trail p).length).reverse)))],s.set m (.obj 0 (hf c { h with trail:=p }))⟩) ?_ (bJ (am ?_))
 ·rw [gZ (d:=.d (c.S p)) (n:=m) (fs:=hf c h) (am (aW (ai rfl rfl) rfl)) rfl hc (by simp [hf])];rfl
 ·refine ao rfl (cH (iJ (ds:=(p.drop (shN h.trail p).length).map c.s) (mh (uK rfl (rP rfl) rfl (Ci _ _)) rfl) (by rw [PJ,Qo]; omega) ?_)) (vO (l:=wr "leave" (h.trail.drop (shN h.trail p).length).reverse) (m:=wr "enter" (p.drop (shN h.trail p).length)) (by unfold wr; rw [PJ,QJ,Qo]; omega) (by unfold wr; rw [PJ,Qo]; omega));unfold wr;rw [QC];exact ou (η:=[.un]) c.s (λ x=>rD c ("enter", x)) _ λ x hx=>⟨[.val (c.s x)],rfl,Go "enter" x _ rfl⟩
theorem Jn (hc:Ho c s m h) (w:Str):aF [.r m,.d (.str w)] s=some (.r s.length,s++[.lst ((tell h w).map λ r=>D.d (rD c r))]):=by
 refine bI rfl (show ja ⟨[some (.r m),some (.d (.str w))],s⟩=_ from bJ ?_);have fh:gR 0 "held_by" (vw ⟨[some (.r m),some (.d (.str w))],s⟩)=some (kD c h.held):=jL rfl hc rfl;unfold MC tell;cases hh:h.held with
 | none =>
  rw [hh] at fh;rw [bX (b:=true) (bw (ao fh rfl rfl)),PC,if_pos rfl];rfl
 | some x =>
  rw [hh] at fh;rw [bX (b:=false) (bw (ao fh rfl rfl)),PC,if_neg PN];unfold mN;have e:aC (lA tpF (aC (eV 1) (aC (gR 0 "held_by") aN))) aN (vw ⟨[some (.r m),some (.d (.str w))],s⟩)=some [rD c (w,x)]:=ai (aW (ai rfl (ai fh rfl)) (gN (by simp))) rfl;show P7 (P7 (aC _ aN _) gL) _=_;rw [e,PC,eX (by simp)];rfl
theorem Jo (ok:c.Ok) (hc:Ho c s m h) {q:List Nat} (hq:h.pr=some q) (hl:q.length<=1000):dJ [.r m,.d (c.S p)] s=some (.d (c.S ((shN q p).drop ((shN q p).length - 1))),s.set m (.obj 0 (hf c { h with pr:=none,held:=none }))):=by
 refine bI rfl (show mS f7 ⟨[some (.r m),some (.d (c.S p)),none],s⟩=_ from ?_);have fp:gR 0 "pressed_at" (vw ⟨[some (.r m),some (.d (c.S p)),none],s⟩)=some (c.S q):=(jL rfl hc rfl).trans (by rw [hq]; rfl);have hc1:Ho c (s.set m (.obj 0 (hf c { h with pr:=none }))) m { h with pr:=none }:=hc.set _;refine ak (w1:=⟨[some (.r m),some (.d (c.S p)),some (.d (c.S (shN q p)))],s⟩) (aO (am (aW (ai fp (ai rfl rfl)) (OM ok hl)))) ?_;refine ak (w1:=⟨[some (.r m),some (.d (c.S p)),some (.d (c.S (shN q p)))],s.set m (.obj 0 (hf c { h with pr:=none }))⟩) ?_ ?_
 ·rw [gZ (d:=.d .none) (n:=m) (fs:=hf c h) (am rfl) rfl hc (by simp [hf])];rfl
 refine ak (w1:=⟨[some (.r m),some (.d (c.S p)),some (.d (c.S (shN q p)))],s.set m (.obj 0 (hf c { h with pr:=none,held:=none }))⟩) ?_ (bJ (am (uK rfl (rP rfl) rfl (EG _))));rw [gZ (d:=.d .none) (n:=m) (fs:=hf c { h with pr:=none }) (am rfl) rfl hc1 (by simp [hf])];show some (MOut.nx ⟨_,(s.set m _).set m _⟩)=_;rw [lH]; rfl
theorem Pm (ok:c.Ok) (K:Option Nat) (x:Nat):pEq (kD c K) (c.s x)=some (.bool (decide (K=some x))):=by
 cases K with
 | none =>
  show pEq .none (.str (c.nm x))=_;unfold pEq;rw [if_pos ⟨by rfl,ny (ok.ok x)⟩];simp [QK]
 | some y =>
  show pEq (c.s y) (c.s x)=_;rw [ok.eqs]; simp
theorem Lc (ok:c.Ok) (hc:Ho c s m h) (x:Nat) (mo:Int):cK [.r m,.d (c.s x),.d (.int mo)] s=some (.d (Rw c (nN h x mo)),s.set m (.obj 0 (hf c (ri h x mo)))):=by
 refine bI rfl (show nM ⟨[some (.r m),some (.d (c.s x)),some (.d (.int mo)),none,none],s⟩=_ from ?_);refine ak (w1:=⟨[some (.r m),some (.d (c.s x)),some (.d (.int mo)),some (.d (.bool (decide (mo - h.mom<=20)))),none],s⟩) (aO (am (ao (ao rfl (jL rfl hc rfl) rfl) rfl rfl))) ?_;have e4:CN (l2 pEq (gR 0 "clicked") (eV 1)) (CN (eV 3) (Gm (gR 0 "was_double"))) (vw ⟨[some (.r m),some (.d (c.s x)),some (.d (.int mo)),some (.d (.bool (decide (mo - h.mom<=20)))),none],s⟩)=some (.bool (yW h x mo)) :=
  BG (ao (jL rfl hc rfl) rfl (Pm ok _ _)) (BG rfl (Fm (jL rfl hc rfl)))
 refine ak (w1:=⟨[some (.r m),some (.d (c.s x)),some (.d (.int mo)),some (.d (.bool (decide (mo - h.mom<=20)))),some (.d (.bool (yW h x mo)))],s⟩) (aO (am e4)) ?_;have hc1:=hc.set { h with clk:=some x };have hc2:=hc.set { h with clk:=some x,mom:=mo };refine ak (w1:=⟨[some (.r m),some (.d (c.s x)),some (.d (.int mo)),some (.d (.bool (decide (mo - h.mom<=20)))),some (.d (.bool (yW h x mo)))],s.set m (.obj 0 (hf c { h with clk:=some x }))⟩) ?_ ?_
 ·rw [gZ (d:=.d (c.s x)) (n:=m) (fs:=hf c h) (am rfl) rfl hc (by simp [hf])];rfl
 refine ak (w1:=⟨[some (.r m),some (.d (c.s x)),some (.d (.int mo)),some (.d (.bool (decide (mo - h.mom<=20)))),some (.d (.bool (yW h x mo)))],s.set m (.obj 0 (hf c { h with clk:=some x,mom:=mo }))⟩) ?_ ?_
 ·rw [gZ (d:=.d (.int mo)) (n:=m) (fs:=hf c { h with clk:=some x }) (am rfl) rfl hc1 (by simp [hf])];show some (MOut.nx ⟨_,(s.set m _).set m _⟩)=_;rw [lH]; rfl
 refine ak (w1:=⟨[some (.r m),some (.d (c.s x)),some (.d (.int mo)),some (.d (.bool (decide (mo - h.mom<=20)))),some (.d (.bool (yW h x mo)))],s.set m (.obj 0 (hf c (ri h x mo)))⟩) ?_ (bJ (am ?_))
 ·rw [gZ (d:=.d (.bool (yW h x mo))) (n:=m) (fs:=hf c { h with clk:=some x,mom:=mo }) (am rfl) rfl hc2 (by simp [hf])];show some (MOut.nx ⟨_,(s.set m _).set m _⟩)=_;rw [lH]; rfl
 ·have et:∀ w:Str,∀ η:En,eV 1 η=some (c.s x)->lA tpF (aC (eC (.str w)) (aC (eV 1) aN)) η=some (rD c (w,x)):=λ w η hη=>aW (ai rfl (ai hη rfl)) (gN (by simp));rw [zn (b:=yW h x mo) rfl];unfold nN;cases yW h x mo with
  | true =>
   rw [if_pos rfl,if_pos rfl];exact cH (dj (ai (et _ _ rfl) (ai (et _ _ rfl) rfl)) (eX (by simp)))
  | false =>
   rw [if_neg PN,if_neg PN];exact cH (dj (ai (et _ _ rfl) rfl) (eX (by simp)))
end
def nf (c:Sc) (kd:Nat):List (Str×D):=[("scene", .d c.d),("known", .r kd)]
def Bd (h:Hd):Prop:=h.trail.length<=7/\∀ q,h.pr=some q->q.length<=7
def Ky (kvs:List (Key×D)):Prop:=∃ ns:List Int,keyIs' kvs=some ns/\ns.Nodup
theorem Kl {k:Key}:ci kvs k=none↔k∉kvs.map (·.1):=by
 induction kvs with
 | nil=>simp [ci]
 | cons e r ih =>
  by_cases h:e.1=k
  ·simp [ci,h]
  ·have h':¬ k=e.1:=λ z=>h z.symm;simp only [ci,Q0,h,decide_false,P2,Qh,h',false_or] at ih ⊢;exact ih
theorem Bp {j:Int} {d:D}:∀ {kvs:List (Key×D)} {ns:List Int},keyIs' kvs=some ns->keyIs' (kvs++[(.inl j,d)])=some (ns++[j])
 | [],_,h=>by cases h; rfl
 | (.inl n,_)::r,_,h=>by
  obtain ⟨l,h1,h2⟩:=ac h;cases h2;show (keyIs' (r++[(.inl j,d)])).bind _=_;rw [Bp h1]; rfl
 | (.inr _,_)::r,_,h=>by cases h
theorem Ky.look (h:keyIs' kvs=some ns) (j:Int):ci kvs (.inl j)=none↔j∉ns:=by
 rw [Kl,sK h]
 simp
theorem Ky.app (h:Ky kvs) {d:D} (hj:ci kvs (.inl j)=none):Ky (kvs++[(.inl j,d)]):=by
 have ⟨ns,h1,h2⟩:=h;refine ⟨ns++[j],Bp h1,?_⟩;rw [RI];refine ⟨h2,by simp,λ a ha b hb e=>?_⟩;rw [Qt.mp hb] at e;exact (Ky.look h1 j).mp hj (e ▸ ha)
structure HOk (c:Sc) (s:Sto) (n kd:Nat) (kvs:List (Key×D)) (K:Int->Hd):Prop where
 ob:s[n]?=some (.obj 1 (nf c kd))
 dc:s[kd]?=some (.dct kvs)
 dflt:∀ j:Int,ci kvs (.inl j)=none->K j=hd0
 hand:∀ (j:Int) d,ci kvs (.inl j)=some d->∃ m,d=.r m/\Ho c s m (K j)
 inj:∀ (j j':Int) m,ci kvs (.inl j)=some (.r m)->ci kvs (.inl j')=some (.r m)->j=j'
 bd:∀ j,Bd (K j)
 ky:Ky kvs
def Own (n kd:Nat) (kvs:List (Key×D)) (i:Nat):Prop:=i=n\/i=kd\/∃ j:Int,ci kvs (.inl j)=some (.r i)
structure Stp (s s':Sto) (O O':Nat->Prop):Prop where
 len:s.length<=s'.length
 kp:∀ i,i < s.length->¬ O i->s'[i]?=s[i]?
 ow:∀ i,O' i->O i\/s.length<=i
def upK (K:Int->Hd) (j:Int) (h:Hd):Int->Hd:=λ i=>if i=j then h else K i
theorem fk {s:Sto} {x:Cell} (h:s[i]?=some x):i < s.length:=(PR.mp h).1
theorem Stp.refl {s:Sto} :Stp s s O O:=⟨PV _,λ _ _ _=>rfl,λ _ h=>.inl h⟩
theorem Stp.trans {s s2:Sto} {O1 O2:Nat->Prop} (a:Stp s s1 O O1) (b:Stp s1 s2 O1 O2):Stp s s2 O O2:=⟨Qg a.len b.len,λ i hi ho=>by
 have n1:¬ O1 i:=λ z=>by
  rcases a.ow i z with y | y
  ·exact ho y
  ·omega
 rw [b.kp i (P5 hi a.len) n1,a.kp i hi ho],λ i h=>by
 rcases b.ow i h with y | y
 ·exact a.ow i y
 ·exact .inr (Qg a.len y)⟩
section
variable {c:Sc} {s:Sto} {n kd:Nat} {kvs:List (Key×D)} {K:Int->Hd}
theorem HOk.lt (H:HOk c s n kd kvs K) (h:Own n kd kvs i):i < s.length:=by
 rcases h with rfl | rfl | ⟨j,hj⟩
 ·exact fk H.ob
 ·exact fk H.dc
 ·have ⟨m,e,hm⟩:=H.hand j _ hj;cases e;exact fk hm
theorem HOk.frame (H:HOk c s n kd kvs K) (hk:∀ i,Own n kd kvs i->s'[i]?=s[i]?):HOk c s' n kd kvs K where
 ob:=(hk n (.inl rfl)).trans H.ob
 dc:=(hk kd (.inr (.inl rfl))).trans H.dc
 dflt:=H.dflt
 hand:=λ j d h=>by
  obtain ⟨m,rfl,hm⟩:=H.hand j d h;exact ⟨m,rfl,(hk m (.inr (.inr ⟨j,h⟩))).trans hm⟩
 inj:=H.inj
 bd:=H.bd
 ky:=H.ky
theorem HOk.app (H:HOk c s n kd kvs K) (t:Sto):HOk c (s++t) n kd kvs K:=H.frame λ i hi=>PM (H.lt hi)
theorem qm (t:Sto):Stp s (s++t) O O:=⟨by rw [PL]; omega,λ i hi _=>PM hi,λ _ h=>.inl h⟩
theorem lG {x:Cell} (h:O i):Stp s (s.set i x) O O:=⟨by rw [Qa]; exact PV _,λ k _ hk=>PK (by intro e; exact hk (by rw [<- e]; exact h)),λ _ h=>.inl h⟩
theorem HOk.setX (H:HOk c s n kd kvs K) {x:Cell} (h:¬ Own n kd kvs i):HOk c (s.set i x) n kd kvs K:=H.frame λ k hk=>PK (by intro e; exact h (by rw [e]; exact hk))
theorem HOk.put (H:HOk c s n kd kvs K) (hj:ci kvs (.inl j)=some (.r m)) (hb:Bd h'):HOk c (s.set m (.obj 0 (hf c h'))) n kd kvs (upK K j h'):=by
 have ⟨m',e,hm⟩:=H.hand j _ hj;cases e;have hn:m≠n:=λ e=>by have:=H.ob; rw [<- e] at this; rw [hm] at this; cases this
 have hk:m≠kd:=λ e=>by have:=H.dc; rw [<- e] at this; rw [hm] at this; cases this
 refine ⟨by rw [PK hn]; exact H.ob,by rw [PK hk]; exact H.dc,λ i hi=>?_,λ i d hi=>?_,H.inj,λ i=>?_,H.ky⟩
 ·unfold upK;rw [if_neg (λ e=>by rw [e,hj] at hi; cases hi)];exact H.dflt i hi
 ·obtain ⟨mi,rfl,hmi⟩:=H.hand i d hi;refine ⟨mi,rfl,?_⟩;unfold upK;by_cases e:i=j
  ·subst e;rw [hj] at hi;cases hi;rw [if_pos rfl];exact hm.set h'
  ·rw [if_neg e];unfold Ho;rw [PK λ z=>e (H.inj i j mi hi (by rw [<- z]; exact hj))];exact hmi
 ·unfold upK
  split
  ·exact hb
  ·exact H.bd i
theorem Iq (kvs:List (Key×D)) (k k':Key) (d:D):ci (kvs++[(k,d)]) k'=match ci kvs k' with | some x=>some x | none=>if k=k' then some d else none:=by
 unfold ci;rw [List.find?_append];cases kvs.find? λ kv=>decide (kv.1=k') with
 | some x=>rfl
 | none =>
  by_cases e:k=k'
  ·simp [e]
  ·simp [e]
theorem Lb (c:Sc) (s0:Sto):cR [.r s0.length] (s0++[.obj 0 []])=some (.d .none,s0++[.obj 0 (hf c hd0)]):=by
 have st:∀ c c':Cell,(s0++[c]).set s0.length c'=s0++[c']:=λ c c'=>by rw [Rp _ _ (PV _),QE]; rfl
 have ge:∀ c:Cell,(s0++[c])[s0.length]?=some c:=λ c=>by rw [P0 (PV _),QE]; rfl
 have p:∀ (f:Str) (e:En->Option PD) (x:PD) (fs:List (Str×D)),e (vw ⟨[some (.r s0.length)],s0++[.obj 0 fs]⟩)=some x->fs.length < 999->mj 0 f (mV 0) (mP e) ⟨[some (.r s0.length)],s0++[.obj 0 fs]⟩=some (.nx ⟨[some (.r s0.length)],s0++[.obj 0 (AS f (.d x) fs)]⟩):=λ f e x fs he hl=>by
  rw [gZ (d:=.d x) (n:=s0.length) (fs:=fs) (am he) rfl (ge _) hl];dsimp only;rw [st]
 show dO 1 1 iH [.r s0.length] (s0++[.obj 0 []])=_;refine FT (w1:=⟨[some (.r s0.length)],s0++[.obj 0 (hf c hd0)]⟩) rfl ?_;show iH ⟨[some (.r s0.length)],s0++[.obj 0 []]⟩=_;refine ak (p _ _ (.list []) _ (cH (dj rfl (eX (by simp)))) (by simp)) ?_;refine ak (p _ _ .none _ rfl (by decide +kernel)) ?_;refine ak (p _ _ .none _ rfl (by decide +kernel)) ?_;refine ak (p _ _ .none _ rfl (by decide +kernel)) ?_;refine ak (p _ _ (.int 0) _ rfl (by decide +kernel)) ?_;rw [p _ _ (.bool false) _ rfl (by decide +kernel)];rfl
theorem wl (H:HOk c s n kd kvs K) (hl:kvs.length < 1000) (j:Int):∃ s' m kvs',aw [.r n,.d (.int j)] s=some (.r m,s')/\HOk c s' n kd kvs' K/\ci kvs' (.inl j)=some (.r m)/\Stp s s' (Own n kd kvs) (Own n kd kvs')/\kvs'.length<=kvs.length+1:=by
 have em:qv 0 cR maN ⟨[some (.r n),some (.d (.int j))],s⟩=some (.r s.length,s++[.obj 0 (hf c hd0)]):=Ds cw (Lb c s);have hdc:(s++[Cell.obj 0 (hf c hd0)])[kd]?=some (.dct kvs):=by rw [PM (fk H.dc)]; exact H.dc
 have e0:vg (mV 0) "known" ⟨[some (.r n),some (.d (.int j))],s⟩=some (.r kd,s):=by
  unfold vg;show P7 (some (D.r n,s)) _=_;rw [PC];dsimp only;rw [H.ob];rfl
 have run:∀ d s',(match ci kvs (.inl j) with | some d=>some (d,s++[Cell.obj 0 (hf c hd0)]) | none=>if kvs.length < P4 then some (D.r s.length,(s++[Cell.obj 0 (hf c hd0)]).set kd (.dct (kvs++[(.inl j,.r s.length)]))) else none)=some (d,s')->aw [.r n,.d (.int j)] s=some (d,s'):=λ d s' h=>by
  refine bI rfl (show lf cR ⟨[some (.r n),some (.d (.int j))],s⟩=_ from bJ ?_);unfold Ij;rw [e0,PC];dsimp only;rw [H.dc];dsimp only;rw [show mP (eV 1) (⟨[some (.r n),some (.d (.int j))],s⟩:Wd)=some (.d (.int j),s) from am rfl,PC];dsimp only;show P7 (some (Sum.inl j)) _=_;rw [PC,em,PC];dsimp only;rw [hdc];exact h
 cases hj:ci kvs (.inl j) with
 | some d =>
  obtain ⟨m,rfl,hm⟩:=H.hand j d hj;exact ⟨_,m,kvs,run _ _ (by rw [hj]),H.app _,hj,qm _,RA _⟩
 | none =>
  have hn:n≠kd:=λ e=>by have:=H.dc; rw [<- e,H.ob] at this; cases this
  have hk:kd < s.length:=fk H.dc;have lk:∀ i:Int,ci (kvs++[(Sum.inl j,D.r s.length)]) (.inl i)=match ci kvs (.inl i) with | some x=>some x | none=>if i=j then some (.r s.length) else none:=λ i=>by
   rw [Iq];cases ci kvs (.inl i) with
   | some x=>rfl
   | none =>
    by_cases e:i=j
    ·simp [e]
    ·have:¬ (Sum.inl j:Key)=Sum.inl i:=λ z=>e (by cases z; rfl)
     simp [e,this]
  refine ⟨(s++[Cell.obj 0 (hf c hd0)]).set kd (.dct (kvs++[(.inl j,.r s.length)])),s.length,kvs++[(.inl j,.r s.length)],run _ _ ?_,?_,?_,?_,by simp⟩
  ·rw [hj];dsimp only;rw [if_pos (P5 hl (big (by decide)))]
  ·refine ⟨?_,?_,λ i hi=>?_,λ i d hi=>?_,λ i i' m h1 h2=>?_,H.bd,H.ky.app hj⟩
   ·rw [PK (Ne.symm hn),PM (fk H.ob)]; exact H.ob
   ·exact PY (by rw [PL]; omega)
   ·rw [lk] at hi;cases q:ci kvs (.inl i) with
    | some x=>rw [q] at hi; cases hi
    | none=>exact H.dflt i q
   ·rw [lk] at hi;cases q:ci kvs (.inl i) with
    | some x =>
     rw [q] at hi;cases hi;obtain ⟨m,rfl,hm⟩:=H.hand i _ q;have hmk:kd≠m:=λ e=>by have:=H.dc; rw [e,hm] at this; cases this
     refine ⟨m,rfl,?_⟩;unfold Ho;rw [PK hmk,PM (fk hm)]; exact hm
    | none =>
     rw [q] at hi;dsimp only at hi;split at hi
     ·rename_i e;cases hi;refine ⟨s.length,rfl,?_⟩;unfold Ho;rw [PK (Qm hk),P0 (PV _),QE,H.dflt i q]; rfl
     ·cases hi
   ·rw [lk] at h1 h2;cases q1:ci kvs (.inl i) with
    | some x =>
     rw [q1] at h1;cases h1;cases q2:ci kvs (.inl i') with
     | some x' =>
      rw [q2] at h2;cases h2;exact H.inj i i' m q1 q2
     | none =>
      rw [q2] at h2;dsimp only at h2;split at h2
      ·cases h2
       have:=H.lt (.inr (.inr ⟨i,q1⟩))
       omega
      ·cases h2
    | none =>
     rw [q1] at h1;dsimp only at h1;split at h1
     ·rename_i e1;cases h1;cases q2:ci kvs (.inl i') with
      | some x' =>
       rw [q2] at h2;cases h2
       have:=H.lt (.inr (.inr ⟨i',q2⟩))
       omega
      | none =>
       rw [q2] at h2;dsimp only at h2;split at h2
       ·rename_i e2;rw [e1,e2]
       ·cases h2
     ·cases h1
  ·rw [lk,hj]
   simp
  ·refine ⟨by rw [Qa,PL]; omega,λ i hi ho=>?_,λ i hi=>?_⟩
   ·rw [PK (λ e=>ho (.inr (.inl e.symm))),PM hi]
   ·rcases hi with e | e | ⟨i',hi⟩
    ·exact .inl (.inl e)
    ·exact .inl (.inr (.inl e))
    ·rw [lk] at hi;cases q:ci kvs (.inl i') with
     | some x=>rw [q] at hi; cases hi; exact .inl (.inr (.inr ⟨i',q⟩))
     | none =>
      rw [q] at hi;dsimp only at hi;split at hi
      ·cases hi; exact .inr (PV _)
      ·cases hi
end
def hpth (ps:List Nat):List Nat->List Nat
 | []=>[]
 | q::_=>P ps q
theorem Pz {pnt:List Nat} {Dm:Nat->Prop} (t:Tr c ps Dm pnt) (x y:Int):aL [c.d,.int x,.int y]=some (c.S (hpth ps (Cg c.geo ps pnt x y)))/\(hpth ps (Cg c.geo ps pnt x y)).length<=7:=by
 have e1:qj [c.d,.int x,.int y]=some (hdD c (Cg c.geo ps pnt x y)):=i8 rfl (show Am kC iC [.val c.d,.val (.int x),.val (.int y)]=_ from j4 (aW (ai (aW (ai rfl rfl) (Jj t)) (ai rfl (ai rfl rfl))) (K0 t x y)));have hin:∀ q∈Cg c.geo ps pnt x y,Dm q:=λ q hq=>Le t (QR.mp hq).1;generalize Cg c.geo ps pnt x y=l at *;refine ⟨i8 rfl (show rc qj (aS 13) [.val c.d,.val (.int x),.val (.int y),.un]=_ from dN (η1:=[.val c.d,.val (.int x),.val (.int y),.val (hdD c l)]) (ia (aW (ai rfl (ai rfl (ai rfl rfl))) e1)) (j4 ?_)),?_⟩
 ·cases l with
  | nil =>
   rw [zn (b:=true) (bw (ao rfl rfl rfl)),if_pos rfl];exact cH (dj rfl (eX (by simp)))
  | cons q r =>
   rw [zn (b:=false) (bw (ao rfl rfl rfl)),if_neg PN];exact aW (ai rfl (ai rfl rfl)) (Fe t (hin q Qc))
 ·cases l with
  | nil=>simp [hpth]
  | cons q r=>exact P_7 t (hin q Qc)
def Res (c:Sc) (s:Sto) (n kd:Nat) (kvs:List (Key×D)) (K':Int->Hd) (out:Option (D×Sto)) (d:D):Prop :=
 ∃ s' kvs',out=some (d,s')/\HOk c s' n kd kvs' K'/\Stp s s' (Own n kd kvs) (Own n kd kvs')/\kvs'.length<=kvs.length+1
theorem zo (K:Int->Hd) (j:Int):upK K j (K j)=K:=by
 funext i
 unfold upK
 split
 ·rename_i e; rw [e]
 ·rfl
def mvR (h:Hd) (p:List Nat):List (Str×Nat):=if h.held=none then lead h p++wr "move" (p.drop (p.length - 1)) else tell h "move"
def mvH (h:Hd) (p:List Nat):Hd:=if h.held=none then { h with trail:=p } else h
def yV (h:Hd) (p:List Nat):Hd:=if h.held=none then { h with pr:=some p,trail:=p,held:=p.getLast? } else { h with pr:=some p }
def dnR (h:Hd) (p:List Nat):List (Str×Nat):=if h.pr=none then (if h.held=none then lead { h with pr:=some p } p else [])++tell (yV h p) "down" else []
def dnH (h:Hd) (p:List Nat):Hd:=if h.pr=none then yV h p else h
theorem E2 {c:Sc}:∀ l:List (Str×Nat),xl (l.map λ r=>D.d (rD c r))=some (l.map (rD c))
 | []=>rfl
 | x::r=>by
  rw [P2];show ((some (rD c x)).bind λ y=>(xl (r.map λ r=>D.d (rD c r))).bind λ xs=>some (y::xs))=_;rw [E2 r]; rfl
theorem rE (h:Hd) (w:Str):(tell h w).length<=1:=by
 unfold tell
 split <;> simp
theorem rW {h:Hd} (ht:h.trail.length<=7) (hp:p.length<=7):(lead h p).length<=14:=by
 unfold lead wr;rw [PL,PJ,PJ,QJ,Qo,Qo]; omega
section
variable {c:Sc} {s:Sto} {n kd m:Nat} {kvs:List (Key×D)} {K:Int->Hd} {h:Hd}
theorem fzT (hc:Ho c s m h) {w:Str} {η:MEn} (hi:η[i]?=some (some (.r m))):mFz (bu 0 "tell_holder" aF (mV i) (maC (mP (eC (.str w))) maN)) ⟨η,s⟩=some (.d (Rw c (tell h w)),s++[.fz (Rw c (tell h w))]):=by
 have em:bu 0 "tell_holder" aF (mV i) (maC (mP (eC (.str w))) maN) ⟨η,s⟩=some (.r s.length,s++[.lst ((tell h w).map λ r=>D.d (rD c r))]):=bb (n:=m) (by unfold mV; rw [hi]) hc rfl (ar (s1:=s) (am rfl) cw) (Jn hc w);unfold mFz;rw [em,PC];dsimp only;rw [show (s++[Cell.lst ((tell h w).map λ r=>D.d (rD c r))])[s.length]?=some (.lst ((tell h w).map λ r=>D.d (rD c r))) by rw [P0 (PV _),QE]; rfl];dsimp only;rw [E2,PC,Rp _ _ (PV _),QE];rfl
theorem PB (ok:c.Ok) (H:HOk c s n kd kvs K) (hl:kvs.length < 1000) (j:Int) {mo:PD} {x:Int} (hp:aL [c.d,.int x,.int y]=some (c.S p)) (lp:p.length<=7) :
  Res c s n kd kvs (upK K j (mvH (K j) p)) (dh [.r n,.d (.int j),.d mo,.d (.int x),.d (.int y)] s) (.d (Rw c (mvR (K j) p))):=by
 obtain ⟨s1,m,kvs1,e1,H1,hj,st,hl1⟩:=wl H hl j;obtain ⟨m',em,hm⟩:=H1.hand j _ hj;cases em;have hb:=H1.bd j;have hown:Own n kd kvs1 m:=.inr (.inr ⟨j,hj⟩);have hs5:bu 1 "hand_of" aw (mV 0) (maC (mP (eV 1)) maN) ⟨[some (.r n),some (.d (.int j)),some (.d mo),some (.d (.int x)),some (.d (.int y)),none,none],s⟩=some (.r m,s1):=bb (n:=n) rfl H.ob rfl (ar (s1:=s) (am rfl) cw) e1;have fh:gR 5 "held_by" (vw ⟨[some (.r n),some (.d (.int j)),some (.d mo),some (.d (.int x)),some (.d (.int y)),some (.r m),none],s1⟩)=some (kD c (K j).held):=jL rfl hm rfl;cases hh:(K j).held with
 | some k =>
  rw [hh] at fh;refine ⟨s1++[.fz (Rw c (tell (K j) "move"))],kvs1,?_,?_,st.trans (qm _),hl1⟩
  ·unfold mvR;rw [if_neg (by rw [hh]; simp)];refine bI rfl (show kJ aw aF aL br ⟨[some (.r n),some (.d (.int j)),some (.d mo),some (.d (.int x)),some (.d (.int y)),none,none],s⟩=_ from ?_);refine ak (aO hs5) (i9 (pQ (s:=s1) (bX (bw (ao fh rfl rfl))) (bJ (fzT hm rfl))))
  ·unfold mvH;rw [if_neg (by rw [hh]; simp),zo];exact H1.app _
 | none =>
  rw [hh] at fh;have el:=Fi ok hm (p:=p) (by have:=hb.1; omega) (by omega);refine ⟨s1.set m (.obj 0 (hf c { K j with trail:=p })),kvs1,?_,?_,st.trans (lG hown),hl1⟩
  ·unfold mvR;rw [if_pos hh];refine bI rfl (show kJ aw aF aL br ⟨[some (.r n),some (.d (.int j)),some (.d mo),some (.d (.int x)),some (.d (.int y)),none,none],s⟩=_ from ?_);refine ak (aO hs5) (ak (kZ (s:=s1) (bX (bw (ao fh rfl rfl)))) ?_);refine ak (w1:=⟨[some (.r n),some (.d (.int j)),some (.d mo),some (.d (.int x)),some (.d (.int y)),some (.r m),some (.d (c.S p))],s1⟩) (aO (am (aW (ai (jL rfl H1.ob rfl) (ai rfl (ai rfl rfl))) hp))) (bJ ?_);refine mI (bb (n:=m) rfl hm rfl (ar (s1:=s1) (am rfl) cw) el) (am (cH (iJ (ds:=(p.drop (p.length - 1)).map c.s) (mh (uK rfl (rP rfl) rfl (EG _)) rfl) (by rw [PJ,Qo]; omega) (r:=some ((wr "move" (p.drop (p.length - 1))).map (rD c))) ?_))) rfl rfl (vO (by have:=rW (h:=K j) hb.1 lp; omega) (by unfold wr; rw [PJ,Qo]; omega));unfold wr;rw [QC];exact ou (η:=[.un]) c.s (λ x=>rD c ("move", x)) _ λ x hx=>⟨[.val (c.s x)],rfl,Go "move" x _ rfl⟩
  ·unfold mvH;rw [if_pos hh];exact H1.put hj ⟨lp,hb.2⟩
end
def xE (h:Hd) (mo:Int):List Nat->Hd
 | []=>{ h with pr:=none,held:=none }
 | k::_=>ri { h with pr:=none,held:=none } k mo
def upC (h:Hd) (mo:Int):List Nat->List (Str×Nat)
 | []=>[]
 | k::_=>nN { h with pr:=none,held:=none } k mo
def upN (q p:List Nat):List Nat:=(shN q p).drop ((shN q p).length - 1)
def upR (h:Hd) (p:List Nat) (mo:Int):List (Str×Nat):=match h.pr with | none=>[] | some q=>(tell h "up" ++ upC h mo (upN q p))++lead (xE h mo (upN q p)) p
def upH (h:Hd) (p:List Nat) (mo:Int):Hd:=match h.pr with | none=>h | some q=>{ xE h mo (upN q p) with trail:=p }
theorem Fo (K:Int->Hd) (j:Int) (a b:Hd):upK (upK K j a) j b=upK K j b:=by
 funext i
 unfold upK
 split <;> rfl
theorem JA (q p:List Nat):(upN q p).length<=1:=by
 unfold upN;rw [Qo]; omega
theorem CT {s:Sto} {L:Nat} {x:Cell} (a:Stp s s' O O) (h:s.length<=L):Stp s (s'.set L x) O O:=⟨by rw [Qa]; exact a.len,λ i hi ho=>by rw [PK (by omega)]; exact a.kp i hi ho,a.ow⟩
theorem FX (p:List Nat):(if decide (p≠[])=true then pIx (c.S p) (.int (-1)) else some .none)=some (kD c p.getLast?):=by
 cases p with
 | nil=>rfl
 | cons a r =>
  rw [if_pos (by simp)];show atI ((a::r).map c.s) (-1)=_
  have:atI (a::r) (-1)=some ((a::r).getLast (by simp)):=by
   unfold atI ixN;rw [if_neg (by decide),if_pos (by rw [P8]; omega),PC];rw [show (-1+((a::r).length:Int)).toNat=(a::r).length - 1 by rw [P8]; omega,<- List.getLast?_eq_getElem?,Rs (by simp)]
  rw [Pu this,Rs (by simp)];rfl
section
variable {c:Sc} {s:Sto} {n kd:Nat} {kvs:List (Key×D)} {K:Int->Hd}
theorem OT (ok:c.Ok) (H:HOk c s n kd kvs K) (hl:kvs.length < 1000) (j:Int) {mo:PD} {x:Int} (hp:aL [c.d,.int x,.int y]=some (c.S p)) (lp:p.length<=7) :
  Res c s n kd kvs (upK K j (dnH (K j) p)) (bi [.r n,.d (.int j),.d mo,.d (.int x),.d (.int y)] s) (.d (Rw c (dnR (K j) p))):=by
 obtain ⟨s1,m,kvs1,e1,H1,hj,st,hl1⟩:=wl H hl j;obtain ⟨m',em,hm⟩:=H1.hand j _ hj;cases em;have hb:=H1.bd j;have hown:Own n kd kvs1 m:=.inr (.inr ⟨j,hj⟩);have hs5:bu 1 "hand_of" aw (mV 0) (maC (mP (eV 1)) maN) ⟨[some (.r n),some (.d (.int j)),some (.d mo),some (.d (.int x)),some (.d (.int y)),none,none,none],s⟩=some (.r m,s1):=bb (n:=n) rfl H.ob rfl (ar (s1:=s) (am rfl) cw) e1;have fp:gR 5 "pressed_at" (vw ⟨[some (.r n),some (.d (.int j)),some (.d mo),some (.d (.int x)),some (.d (.int y)),some (.r m),none,none],s1⟩)=some (oL c (K j).pr):=jL rfl hm rfl;cases hpr:(K j).pr with
 | some q =>
  rw [hpr] at fp;refine ⟨s1,kvs1,?_,?_,st,hl1⟩
  ·unfold dnR;rw [if_neg (by rw [hpr]; simp)];refine bI rfl (show kK aw aL br aF ⟨[some (.r n),some (.d (.int j)),some (.d mo),some (.d (.int x)),some (.d (.int y)),none,none,none],s⟩=_ from ?_);exact ak (aO hs5) (i9 (pQ (s:=s1) (bX (bw (ao fp rfl rfl))) (bJ (am (cH (dj rfl (eX (by simp))))))))
  ·unfold dnH;rw [if_neg (by rw [hpr]; simp),zo];exact H1
 | none =>
  rw [hpr] at fp;have hm2:=hm.set { K j with pr:=some p };have fin:∀ (h2:Hd) (rows:List (Str×Nat)),rows.length<=14->Bd h2->h2=yV (K j) p->rows=(if (K j).held=none then lead { K j with pr:=some p } p else []) ->
    (mIf (tPv (bT (l2 (jB false) (gR 5 "held_by") (eC .none)))) (aM (bR 7 (bu 0 "lead" br (mV 5) (maC (mP (eV 6)) maN)))
     (mj 0 "held_by" (mV 5) (mP (vIf (bTr (eV 6)) (l2 pIx (eV 6) (l1 sG (eC (.int 1)))) (eC .none))))) mNx)
     ⟨[some (.r n),some (.d (.int j)),some (.d mo),some (.d (.int x)),some (.d (.int y)),some (.r m),some (.d (c.S p)),some (.d (.list []))],s1.set m (.obj 0 (hf c { K j with pr:=some p }))⟩
     = some (.nx ⟨[some (.r n),some (.d (.int j)),some (.d mo),some (.d (.int x)),some (.d (.int y)),some (.r m),some (.d (c.S p)),some (.d (Rw c rows))],s1.set m (.obj 0 (hf c h2))⟩) ->
    Res c s n kd kvs (upK K j (dnH (K j) p)) (bi [.r n,.d (.int j),.d mo,.d (.int x),.d (.int y)] s) (.d (Rw c (dnR (K j) p))):=λ h2 rows lr b2 eh er ei=>by
   have hm3:=hm.set h2;refine ⟨s1.set m (.obj 0 (hf c h2))++[.fz (Rw c (tell h2 "down"))],kvs1,?_,?_,(st.trans (lG hown)).trans (qm _),hl1⟩
   ·unfold dnR;rw [if_pos hpr,<- er,<- eh];refine bI rfl (show kK aw aL br aF ⟨[some (.r n),some (.d (.int j)),some (.d mo),some (.d (.int x)),some (.d (.int y)),none,none,none],s⟩=_ from ?_);refine ak (aO hs5) (ak (kZ (s:=s1) (bX (bw (ao fp rfl rfl)))) ?_);refine ak (w1:=⟨[some (.r n),some (.d (.int j)),some (.d mo),some (.d (.int x)),some (.d (.int y)),some (.r m),some (.d (c.S p)),none],s1⟩) (aO (am (aW (ai (jL rfl H1.ob rfl) (ai rfl (ai rfl rfl))) hp))) ?_;refine ak (w1:=⟨[some (.r n),some (.d (.int j)),some (.d mo),some (.d (.int x)),some (.d (.int y)),some (.r m),some (.d (c.S p)),none],s1.set m (.obj 0 (hf c { K j with pr:=some p }))⟩) ?_ ?_
    ·rw [gZ (d:=.d (c.S p)) (n:=m) (fs:=hf c (K j)) (am rfl) rfl hm (by simp [hf])];rfl
    refine ak (w1:=⟨[some (.r n),some (.d (.int j)),some (.d mo),some (.d (.int x)),some (.d (.int y)),some (.r m),some (.d (c.S p)),some (.d (.list []))],s1.set m (.obj 0 (hf c { K j with pr:=some p }))⟩) (aO (am (cH (dj rfl (eX (by simp)))))) ?_;refine ak ei (bJ ?_);exact mI (am rfl) (fzT hm3 rfl) rfl rfl (vO (by omega) (by have:=rE h2 "down"; omega))
   ·unfold dnH;rw [if_pos hpr,<- eh];exact (H1.put hj b2).app _
  have fh:gR 5 "held_by" (vw ⟨[some (.r n),some (.d (.int j)),some (.d mo),some (.d (.int x)),some (.d (.int y)),some (.r m),some (.d (c.S p)),some (.d (.list []))],s1.set m (.obj 0 (hf c { K j with pr:=some p }))⟩)=some (kD c (K j).held):=jL rfl hm2 rfl;cases hh:(K j).held with
  | some k =>
   rw [hh] at fh;refine fin { K j with pr:=some p } [] (by simp) ⟨hb.1,λ q e=>by cases e; exact lp⟩ (by unfold yV; rw [if_neg (by rw [hh]; simp)]) (by rw [if_neg (by rw [hh]; simp)]) ?_;exact kZ (bX (bw (ao fh rfl rfl)))
  | none =>
   rw [hh] at fh;have el:=Fi ok hm2 (p:=p) (by have:=hb.1; show (K j).trail.length<=1000; omega) (by omega);have hm3:=hm.set { K j with pr:=some p,trail:=p };rw [lH] at el;refine fin { K j with pr:=some p,trail:=p,held:=p.getLast? } (lead { K j with pr:=some p } p) (rW (h:={ K j with pr:=some p }) hb.1 lp) ⟨lp,λ q e=>by cases e; exact lp⟩ (by unfold yV; rw [if_pos hh]) (by rw [if_pos hh]) ?_;refine pQ (s:=s1.set m (.obj 0 (hf c { K j with pr:=some p }))) (bX (bw (ao fh rfl rfl))) ?_;refine ak (w1:=⟨[some (.r n),some (.d (.int j)),some (.d mo),some (.d (.int x)),some (.d (.int y)),some (.r m),some (.d (c.S p)),some (.d (Rw c (lead { K j with pr:=some p } p)))],s1.set m (.obj 0 (hf c { K j with pr:=some p,trail:=p }))⟩) (aO (bb (n:=m) rfl hm2 rfl (ar (am rfl) cw) el)) ?_;rw [gZ (d:=.d (kD c p.getLast?)) (n:=m) (fs:=hf c { K j with pr:=some p,trail:=p }) (am ?_) rfl hm3 (by simp [hf])]
   ·show some (MOut.nx ⟨_,(s1.set m _).set m _⟩)=_;rw [lH];show some (MOut.nx ⟨_,s1.set m (.obj 0 (AS "held_by" (.d (kD c p.getLast?)) (hf c { K j with pr:=some p,trail:=p })))⟩)=_;rfl
   ·rw [zn (b:=decide (p≠[])) (by cases p <;> rfl)];exact FX p
theorem Jq (H:HOk c s n kd kvs K) (hl:kvs.length < 1000) (j:Int):Res c s n kd kvs K (cE [.r n,.d (.int j)] s) (.d (kD c (K j).held)):=by
 have ⟨s1,m,kvs1,e1,H1,hj,st,hl1⟩:=wl H hl j;have ⟨m',em,hm⟩:=H1.hand j _ hj;cases em;refine ⟨s1,kvs1,bI rfl (show l7 aw ⟨[some (.r n),some (.d (.int j))],s⟩=_ from bJ ?_),H1,st,hl1⟩;unfold vg;rw [bb (n:=n) (d:=.r m) (s2:=s1) rfl H.ob rfl (ar (s1:=s) (am rfl) cw) e1,PC];dsimp only;rw [hm];rfl
theorem K9 (H:HOk c s n kd kvs K) (hl:kvs.length < 1000) (j:Int):∃ s1 kvs',bC [.r n,.d (.int j)] s=some (.r s1.length,s1++[.lst ((K j).trail.map λ x=>D.d (c.s x))])/\HOk c s1 n kd kvs' K/\Stp s s1 (Own n kd kvs) (Own n kd kvs')/\kvs'.length<=kvs.length+1:=by
 have ⟨s1,m,kvs1,e1,H1,hj,st,hl1⟩:=wl H hl j;have ⟨m',em,hm⟩:=H1.hand j _ hj;cases em;refine ⟨s1,kvs1,bI rfl (show nI aw ⟨[some (.r n),some (.d (.int j))],s⟩=_ from bJ ?_),H1,st,hl1⟩;have e:vg (bu 1 "hand_of" aw (mV 0) (maC (mP (eV 1)) maN)) "trail" ⟨[some (.r n),some (.d (.int j))],s⟩=some (.d (c.S (K j).trail),s1):=by
  unfold vg;rw [bb (n:=n) (d:=.r m) (s2:=s1) rfl H.ob rfl (ar (s1:=s) (am rfl) cw) e1,PC];dsimp only;rw [hm];rfl
 rw [GK (xs:=(K j).trail.map c.s) e,QC]; rfl
end
theorem As (h:Hd) (k:Nat) (mo:Int):(nN h k mo).length<=2:=by
 unfold nN
 split <;> simp
section
variable {c:Sc} {s:Sto} {n kd:Nat} {kvs:List (Key×D)} {K:Int->Hd}
theorem OL (ok:c.Ok) (H:HOk c s n kd kvs K) (hl:kvs.length < 1000) (j:Int) {mo:Int} {x:Int} (hp:aL [c.d,.int x,.int y]=some (c.S p)) (lp:p.length<=7) :
  Res c s n kd kvs (upK K j (upH (K j) p mo)) (bP [.r n,.d (.int j),.d (.int mo),.d (.int x),.d (.int y)] s) (.d (Rw c (upR (K j) p mo))):=by
 obtain ⟨s1,m,kvs1,e1,H1,hj,st,hl1⟩:=wl H hl j;obtain ⟨m',em,hm⟩:=H1.hand j _ hj;cases em;have hb:=H1.bd j;have hown:Own n kd kvs1 m:=.inr (.inr ⟨j,hj⟩);have hs5:bu 1 "hand_of" aw (mV 0) (maC (mP (eV 1)) maN) ⟨[some (.r n),some (.d (.int j)),some (.d (.int mo)),some (.d (.int x)),some (.d (.int y)),none,none,none,none],s⟩=some (.r m,s1):=bb (n:=n) rfl H.ob rfl (ar (s1:=s) (am rfl) cw) e1;have fp:gR 5 "pressed_at" (vw ⟨[some (.r n),some (.d (.int j)),some (.d (.int mo)),some (.d (.int x)),some (.d (.int y)),some (.r m),none,none,none],s1⟩)=some (oL c (K j).pr):=jL rfl hm rfl;cases hpr:(K j).pr with
 | none =>
  rw [hpr] at fp;refine ⟨s1,kvs1,?_,?_,st,hl1⟩
  ·unfold upR;rw [hpr];refine bI rfl (show mR aw aL aF dJ cK br ⟨[some (.r n),some (.d (.int j)),some (.d (.int mo)),some (.d (.int x)),some (.d (.int y)),none,none,none,none],s⟩=_ from ?_);exact ak (aO hs5) (i9 (pQ (s:=s1) (bX (bw (ao fp rfl rfl))) (bJ (am (cH (dj rfl (eX (by simp))))))))
  ·unfold upH;rw [hpr];dsimp only;rw [zo];exact H1
 | some q =>
  rw [hpr] at fp;have lq:=hb.2 q hpr;have hmL:m < s1.length:=fk hm;have hnL:¬ Own n kd kvs1 s1.length:=λ z=>QY _ (H1.lt z);have hm2:Ho c (s1++[Cell.lst ((tell (K j) "up").map λ r=>D.d (rD c r))]) m (K j):=by
   unfold Ho;rw [PM hmL]; exact hm
  have elg:=Jo ok hm2 (p:=p) hpr (by omega);have hm3:=hm2.set { K j with pr:=none,held:=none };have H3:HOk c ((s1++[Cell.lst ((tell (K j) "up").map λ r=>D.d (rD c r))]).set m (.obj 0 (hf c { K j with pr:=none,held:=none }))) n kd kvs1 (upK K j { K j with pr:=none,held:=none }):=(H1.app _).put hj ⟨hb.1,λ q e=>by cases e⟩;have S3:Stp s1 ((s1++[Cell.lst ((tell (K j) "up").map λ r=>D.d (rD c r))]).set m (.obj 0 (hf c { K j with pr:=none,held:=none }))) (Own n kd kvs1) (Own n kd kvs1):=(qm _).trans (lG hown);have L3:((s1++[Cell.lst ((tell (K j) "up").map λ r=>D.d (rD c r))]).set m (.obj 0 (hf c { K j with pr:=none,held:=none })))[s1.length]?=some (.lst ((tell (K j) "up").map λ r=>D.d (rD c r))):=by
   rw [PK (Qm hmL),P0 (PV _),QE]; rfl
  obtain ⟨s3,hs3⟩:∃ s3:Sto,s3=(s1++[Cell.lst ((tell (K j) "up").map λ r=>D.d (rD c r))]).set m (.obj 0 (hf c { K j with pr:=none,held:=none })):=⟨_,rfl⟩;rw [<- hs3] at elg hm3 H3 S3 L3;have loop:∃ (x8:Option D) (s4:Sto),mGo [8] (tgN 8) (qX (wV (mV 7) (bu 0 "click" cK (mV 5) (maC (mP (eV 8)) (maC (mP (eV 2)) maN))))) ((upN q p).map c.s) ⟨[some (.r n),some (.d (.int j)),some (.d (.int mo)),some (.d (.int x)),some (.d (.int y)),some (.r m),some (.d (c.S p)),some (.r s1.length),none],s3⟩
    = some (.nx ⟨[some (.r n),some (.d (.int j)),some (.d (.int mo)),some (.d (.int x)),some (.d (.int y)),some (.r m),some (.d (c.S p)),some (.r s1.length),x8],s4⟩)
    /\ s4[s1.length]?=some (.lst ((tell (K j) "up" ++ upC (K j) mo (upN q p)).map λ r=>D.d (rD c r)))/\Ho c s4 m (xE (K j) mo (upN q p))/\HOk c s4 n kd kvs1 (upK K j (xE (K j) mo (upN q p)))/\Stp s1 s4 (Own n kd kvs1) (Own n kd kvs1):=by
   have hlen:=JA q p;cases hN:upN q p with
   | nil=>exact ⟨none,s3,rfl,by simpa [upC] using L3,hm3,H3,S3⟩
   | cons k r =>
    have hr:r=[]:=by
     rw [hN] at hlen;simp at hlen;exact hlen
    subst hr;have ec:=Lc ok hm3 k mo;have hm4:=hm3.set (ri { K j with pr:=none,held:=none } k mo);have L4:(s3.set m (.obj 0 (hf c (ri { K j with pr:=none,held:=none } k mo))))[s1.length]?=some (.lst ((tell (K j) "up").map λ r=>D.d (rD c r))):=by
     rw [PK (Qm hmL)]; exact L3
    have H4:=H3.put (h':=ri { K j with pr:=none,held:=none } k mo) hj ⟨hb.1,λ q e=>by cases e⟩;rw [Fo] at H4;have S4:Stp s1 (s3.set m (.obj 0 (hf c (ri { K j with pr:=none,held:=none } k mo)))) (Own n kd kvs1) (Own n kd kvs1):=S3.trans (lG hown);generalize s3.set m (.obj 0 (hf c (ri { K j with pr:=none,held:=none } k mo)))=s4 at *;have hlt:s1.length < s4.length:=fk L4;refine ⟨some (.d (c.s k)),s4.set s1.length (.lst ((tell (K j) "up" ++ nN { K j with pr:=none,held:=none } k mo).map λ r=>D.d (rD c r))),?_,PY hlt,?_,H4.setX hnL,CT S4 (PV _)⟩
    ·rw [P2,Rn];unfold mGo;rw [pP (by simp),PC];have ex:qX (wV (mV 7) (bu 0 "click" cK (mV 5) (maC (mP (eV 8)) (maC (mP (eV 2)) maN)))) ⟨[some (.r n),some (.d (.int j)),some (.d (.int mo)),some (.d (.int x)),some (.d (.int y)),some (.r m),some (.d (c.S p)),some (.r s1.length),some (.d (c.s k))],s3⟩
       = some (.nx ⟨[some (.r n),some (.d (.int j)),some (.d (.int mo)),some (.d (.int x)),some (.d (.int y)),some (.r m),some (.d (c.S p)),some (.r s1.length),some (.d (c.s k))],s4.set s1.length (.lst ((tell (K j) "up" ++ nN { K j with pr:=none,held:=none } k mo).map λ r=>D.d (rD c r)))⟩):=by
      refine qw (d:=.d .none) ?_;unfold wV;show P7 (some (D.r s1.length,s3)) _=_;rw [PC];dsimp only;rw [L3];dsimp only;rw [bb (n:=m) (d:=.d (Rw c (nN { K j with pr:=none,held:=none } k mo))) (s2:=s4) rfl hm3 rfl (ar (s1:=s3) (am rfl) (ar (s1:=s3) (am rfl) cw)) ec,PC];show P7 (some (Rw c (nN { K j with pr:=none,held:=none } k mo))) _=_;rw [PC];unfold Rw;dsimp only;rw [L4];dsimp only;rw [if_pos (big (by rw [PJ,PJ]; exact Qg (Nat.add_le_add (rE _ _) (As _ _ _)) (by decide))),QG,QC];rfl
     show P7 (qX _ ⟨[some (.r n),some (.d (.int j)),some (.d (.int mo)),some (.d (.int x)),some (.d (.int y)),some (.r m),some (.d (c.S p)),some (.r s1.length),some (.d (c.s k))],s3⟩) _=_;rw [ex];rfl
    ·unfold Ho;rw [PK (Rq hmL)]; exact hm4
  obtain ⟨x8,s4,eg,L4,hm4,H4,S4⟩:=loop;have hlt:s1.length < s4.length:=fk L4;have lt14:(xE (K j) mo (upN q p)).trail.length<=7:=by
   cases upN q p with
   | nil=>exact hb.1
   | cons k r=>exact hb.1
  have lC:(upC (K j) mo (upN q p)).length<=2:=by
   cases upN q p with
   | nil=>simp [upC]
   | cons k r=>exact As _ _ _
  have hm5:Ho c (s4.set s1.length (.fz (Rw c (tell (K j) "up" ++ upC (K j) mo (upN q p))))) m (xE (K j) mo (upN q p)):=by
   unfold Ho;rw [PK (Rq hmL)]; exact hm4
  have ef:∀ x8:Option D,mFz (mV 7) ⟨[some (.r n),some (.d (.int j)),some (.d (.int mo)),some (.d (.int x)),some (.d (.int y)),some (.r m),some (.d (c.S p)),some (.r s1.length),x8],s4⟩=some (.d (Rw c (tell (K j) "up" ++ upC (K j) mo (upN q p))),s4.set s1.length (.fz (Rw c (tell (K j) "up" ++ upC (K j) mo (upN q p))))):=λ x8=>by
   unfold mFz;show P7 (some (D.r s1.length,s4)) _=_;rw [PC];dsimp only;rw [L4];dsimp only;rw [E2]; rfl
  have H5:=H4.setX (x:=.fz (Rw c (tell (K j) "up" ++ upC (K j) mo (upN q p)))) hnL;have S5:Stp s1 (s4.set s1.length (.fz (Rw c (tell (K j) "up" ++ upC (K j) mo (upN q p))))) (Own n kd kvs1) (Own n kd kvs1):=CT S4 (PV _);have el:=Fi ok hm5 (p:=p) (by omega) (by omega);generalize s4.set s1.length (.fz (Rw c (tell (K j) "up" ++ upC (K j) mo (upN q p))))=s5 at *;have H6:=H5.put (h':={ xE (K j) mo (upN q p) with trail:=p }) hj ⟨lp,λ q' e=>by
   have:(xE (K j) mo (upN q p)).pr=none:=by
    cases upN q p with
    | nil=>rfl
    | cons k r=>rfl
   have e':(xE (K j) mo (upN q p)).pr=some q':=e;rw [this] at e'; cases e'⟩
  rw [Fo] at H6;refine ⟨s5.set m (.obj 0 (hf c { xE (K j) mo (upN q p) with trail:=p })),kvs1,?_,?_,st.trans (S5.trans (lG hown)),hl1⟩
  ·unfold upR;rw [hpr];dsimp only;refine bI rfl (show mR aw aL aF dJ cK br ⟨[some (.r n),some (.d (.int j)),some (.d (.int mo)),some (.d (.int x)),some (.d (.int y)),none,none,none,none],s⟩=_ from ?_);refine ak (aO hs5) (ak (kZ (s:=s1) (bX (bw (ao fp rfl rfl)))) ?_);refine ak (w1:=⟨[some (.r n),some (.d (.int j)),some (.d (.int mo)),some (.d (.int x)),some (.d (.int y)),some (.r m),some (.d (c.S p)),none,none],s1⟩) (aO (am (aW (ai (jL rfl H1.ob rfl) (ai rfl (ai rfl rfl))) hp))) ?_;refine ak (w1:=⟨[some (.r n),some (.d (.int j)),some (.d (.int mo)),some (.d (.int x)),some (.d (.int y)),some (.r m),some (.d (c.S p)),some (.r s1.length),none],s1++[Cell.lst ((tell (K j) "up").map λ r=>D.d (rD c r))]⟩) (aO (bb (n:=m) rfl hm rfl (ar (s1:=s1) (am rfl) cw) (Jn hm "up"))) ?_;refine ak (uW (s:=s3) (xs:=(upN q p).map c.s) ?_ eg) (bJ ?_)
   ·unfold iM;rw [bb (n:=m) (d:=.d (c.S (upN q p))) (s2:=s3) rfl hm2 rfl (ar (am rfl) cw) elg];rfl
   ·exact mI (ef x8) (bb (n:=m) rfl hm5 rfl (ar (s1:=s5) (am rfl) cw) el) rfl rfl (vO (by rw [PL]; have:=rE (K j) "up"; omega) (by have:=rW (h:=xE (K j) mo (upN q p)) lt14 lp; omega))
  ·unfold upH;rw [hpr];exact H6
end
theorem Hb {f g:MTF} {r:Option (Bool×Sto)} (h1:f w=some (false,s1)) (h2:g ⟨w.η,s1⟩=r):CP f g w=r:=by
 unfold CP;rw [h1]; exact h2
theorem g0 {fn:DFn} {fs:MFs} {ds:List D} {r:Option (D×Sto)} (h1:fs w=some (ds,s1)) (h2:fn ds s1=r):g6 fn fs w=r:=by
 unfold g6;rw [h1]; exact h2
theorem Dg {d:PD} (h:Qu d=true):pEq d d=some (.bool true):=by
 unfold pEq;rw [if_pos ⟨h,h⟩,SeqAt.eqv_refl d (SeqAt.canLay_of_shaped h)]
theorem GO (h:c.Ok) (K:Option Nat):Qu (kD c K)=true:=by
 cases K with
 | none=>rfl
 | some x=>exact ny (h.ok x)
theorem N9 (h:c.Ok) (l:List Nat):pNe (c.S l) (c.S l)=some (.bool false):=by
 have e:c.S l=.list ((l.map c.nm).map PyData.str):=by unfold Sc.S; rw [QC]; rfl
 rw [e];exact HW λ s hs=>by
  obtain ⟨x,_,rfl⟩:=Rf.mp hs;exact h.ok x
def okW (w:Str):Prop:=Qj w=true
theorem Hr {c:Sc} (h:c.Ok):∀ l:List (Str×Nat),(∀ r∈l,okW r.1)->QA (l.map (rD c))=true/\QF (l.map (rD c))<=1
 | [],_=>⟨rfl,by simp [QF]⟩
 | r::l,hl=>by
  obtain ⟨h1,h2⟩:=Hr h l λ x hx=>hl x (P3 _ hx);have hr:Qj r.1=true:=hl r Qc;refine ⟨?_,?_⟩
  ·simp [rD,Sc.s,QA,Qz,hr,h.ok,h1]
  ·simp [rD,Sc.s,QF,PyData.depth];omega
theorem Lu (h:c.Ok) {l:List (Str×Nat)} (hl:∀ r∈l,okW r.1):pNe (Rw c l) (Rw c l)=some (.bool false):=by
 have ⟨h1,h2⟩:=Hr h l hl;refine wC ?_;have h3:QF (l.map (rD c))=0\/QF (l.map (rD c))=1:=by omega
 rcases h3 with h3 | h3
 ·simp [Rw,Qu,Qz,PyData.depth,h1,h3]
 ·simp [Rw,Qu,Qz,PyData.depth,h1,h3]
theorem Hg {f g:MTF} {r:Option (Bool×Sto)} (h1:f w=some (true,s1)) (h2:g ⟨w.η,s1⟩=r):t6 f g w=r:=by
 unfold t6;rw [h1]; exact h2
theorem Ef {f g:MTF} (h1:f w=some (false,s1)):t6 f g w=some (false,s1):=by
 unfold t6;rw [h1]; rfl
theorem Lw (h:c.Ok) (l m:List Nat):pEq (c.S l) (c.S m)=some (.bool (decide (l=m))):=by
 unfold pEq;rw [if_pos ⟨h.shS l,h.shS m⟩];show some (PyData.bool (PyData.eqvAll (l.map c.s) (m.map c.s)))=_;rw [h.eqvS]
def Dr.sc (c:Dr):Sc:=⟨stF c.ps,c.nm,λ i=>c.L (i - 1),λ i=>c.T (i - 1),λ i=>c.W (i - 1),λ i=>c.H (i - 1),λ i=>c.mr (i - 1)⟩
theorem Dr.sc_d (c:Dr):c.sc.d=c.d:=by
 unfold Sc.d Dr.d Dr.sc stF;dsimp only;rw [QC];rfl
theorem La (c:Sc) (s0:Sto):a6 [.r s0.length,.d c.d] (s0++[.obj 1 []])=some (.d .none,s0++[.obj 1 (nf c (s0.length+1)),.dct []]):=by
 have ge:(s0++[Cell.obj 1 []])[s0.length]?=some (.obj 1 []):=by rw [P0 (PV _),QE]; rfl
 have ge2:(s0++[Cell.obj 1 [("scene", .d c.d)],.dct []])[s0.length]?=some (.obj 1 [("scene", .d c.d)]):=by rw [P0 (PV _),QE]; rfl
 show dO 2 2 g9 [.r s0.length,.d c.d] (s0++[.obj 1 []])=_;refine FT (w1:=⟨[some (.r s0.length),some (.d c.d)],s0++[.obj 1 (nf c (s0.length+1)),.dct []]⟩) rfl ?_;show g9 ⟨[some (.r s0.length),some (.d c.d)],s0++[.obj 1 []]⟩=_;refine ak (w1:=⟨[some (.r s0.length),some (.d c.d)],s0++[.obj 1 [("scene", .d c.d)]]⟩) ?_ ?_
 ·rw [gZ (d:=.d c.d) (n:=s0.length) (fs:=[]) (am rfl) rfl ge (by simp)];dsimp only;rw [Rp _ _ (PV _),QE]; rfl
 ·have ed:FU ⟨[some (.r s0.length),some (.d c.d)],s0++[.obj 1 [("scene", .d c.d)]]⟩=some (.r (s0.length+1),s0++[.obj 1 [("scene", .d c.d)],.dct []]):=by
   unfold FU;dsimp only;rw [PL,QP]; rfl
  rw [gZ (d:=.r (s0.length+1)) (n:=s0.length) (fs:=[("scene", .d c.d)]) ed rfl ge2 (by simp)];dsimp only;rw [Rp _ _ (PV _),QE]; rfl
theorem Ac {s:Sto} {d:D} {ds:List D} {ds0:List D} (h1:o w=some (.r n,s)) (h2:s[n]?=some (.lst ds0)) (h3:g ⟨w.η,s⟩=some (d,s1)) (h4:s1[n]?=some (.lst ds)) (hl:ds.length<=3000000):vB o g w=some (.d .none,s1.set n (.lst (ds++[d]))):=by
 unfold vB;rw [h1,PC];dsimp only;rw [h2];dsimp only;rw [h3,PC];dsimp only;rw [h4];dsimp only;rw [if_pos (RD hl (by show 3000000 < 2 ^ 24; decide))]
def okL (last:Option (Nat×Int)) (h:Hd):Prop:=match last with
 | none=>h.clk=none\/h.dbl=true
 | some (x,m)=>h.clk=some x/\h.mom=m/\h.dbl=false
def lDb (last:Option (Nat×Int)) (x:Nat) (mo:Int):Bool:=match last with
 | none=>false
 | some (y,m)=>decide (y=x)&&decide (mo - m<=20)
theorem M5 {last:Option (Nat×Int)} {h:Hd} (ok:okL last h) (x:Nat) (mo:Int):yW h x mo=lDb last x mo:=by
 unfold yW lDb;cases last with
 | none =>
  rcases ok with e | e
  ·rw [e]; simp
  ·rw [e]; simp
 | some e =>
  have ⟨y,m⟩:=e;have ⟨e1,e2,e3⟩:=ok;rw [e1,e2,e3]
  simp
def nxL (last:Option (Nat×Int)) (mo:Int):Option Nat->Option (Nat×Int)
 | none=>last
 | some x=>if lDb last x mo=true then none else some (x,mo)
def DH (last:Option (Nat×Int)) (mo:Int):Option Nat->List (Str×Nat)
 | none=>[]
 | some x=>if lDb last x mo=true then [("click", x),("double", x)] else [("click", x)]
theorem LQ (q p:List Nat):upN q p=match (shN q p).getLast? with | none=>[] | some x=>[x]:=by
 unfold upN;rcases List.eq_nil_or_concat (shN q p) with e | ⟨l,x,e⟩
 ·rw [e]; rfl
 ·rw [List.concat_eq_append] at e;rw [e]; simp
structure Tn (c:Sc) (ps:List Nat):Prop where
 ok:c.Ok
 st:c.st=stF ps
 ps:A9 ps
def rO (c:Sc) (ps:List Nat) (r:Row):PD:=.tuple [c.box (r.1,par ps r.1),arD r.2.1,.list (r.2.2.map arD)]
theorem yr {q p:Nat}:∀ {st:List (Nat×Nat)},vY st q=some p->∃ r,st.filter (λ x=>decide (x.1=q))=(q,p)::r
 | x::r,h=>by
  unfold vY at h;by_cases e:x.1=q
  ·rw [if_pos e] at h;cases h;refine ⟨r.filter λ x=>decide (x.1=q),?_⟩;rw [QS,if_pos (by simpa using e)];subst e; rfl
  ·rw [if_neg e] at h;obtain ⟨s,hs⟩:=yr h;refine ⟨s,?_⟩;rw [QS,if_neg (by simpa using e),hs]
theorem ix0 (d:PD) (l:List PD):pIx (.list (d::l)) (.int 0)=some d:=by
 show atI (d::l) ((0:Nat):Int)=_;exact zj rfl
theorem yC {α β γ:Type} {f:α->List β} {g:α->List γ}:∀ {l:List α},(∀ x∈l,(f x).length<=(g x).length)->(l.flatMap f).length<=(l.flatMap g).length
 | [],_=>by simp
 | x::r,h=>by
  have h1:=h x Qc;have h2:=yC (l:=r) λ y hy=>h y (P3 _ hy);rw [QU,QU,PL,PL];omega
theorem Hl (g:Geo) (st:List (Nat×Nat)):∀ n a l t cu,(spF g st n a l t cu).length<=(kids st n a).length
 | 0,a,l,t,cu=>Q1 _
 | n+1,a,l,t,cu=>by
  unfold spF kids;refine yC λ x _=>?_;show _<=(x::kids st n x).length
  split
  ·exact Q1 _
  ·have:=Hl g st n x (l+g.L x) (t+g.T x) (cu++if g.c x=true then [g.at l t x] else [])
   rw [P8,P8];omega
theorem Iy (ok:A9 ps) (h:13<=n+a):(kids (stF ps) n a).length<=2000000:=by
 have:=ok.len
 have h4:=uJ (f:=blF (stF ps) n) (b:=262144) (l:=chN (stF ps) a) λ x hx=>Qg (xm ok n x (gy ok hx).1 (gy ok hx).2.1 (by have:=(gy ok hx).2.2.2; omega)) (zc ok (gy ok hx).1);have h5:=Cp ok a;unfold kids;omega
theorem IU:∀ l:List Ar,QA (l.map arD)=true
 | []=>rfl
 | x::r=>by
  rw [P2];unfold QA;rw [IU r];simp [arD,Qz,QA]
theorem IN:∀ l:List Ar,QF (l.map arD)<=1
 | []=>Q1 _
 | x::r=>by
  rw [P2];unfold QF
  have:=IN r
  have h2:PyData.depth (arD x)=1:=by simp [arD,PyData.depth,QF]
  omega
theorem NP (l:List Ar):Qu (.list (l.map arD))=true:=by
 have:=IN l
 unfold Qu Qz PyData.depth;rw [IU,Bool.true_and,decide_eq_true_eq];omega
theorem MZ {α:Type} (D:α->PD) (l:List α) (hs:Qu (.list (l.map D))=true):pEq (.list (l.map D)) (.list [])=some (.bool (decide (l=[]))):=by
 unfold pEq;rw [if_pos ⟨hs,by rfl⟩];cases l with
 | nil=>simp [QK,PyData.eqvAll]
 | cons x r=>simp [QK,PyData.eqvAll]
theorem DG {α:Type} (p:α->Bool):∀ l:List α,decide (l.filter (λ x=>!p x)=[])=l.all p
 | []=>by simp
 | x::r=>by
  have:=DG p r
  rw [QS,Q9];cases hp:p x with
  | false=>simp
  | true=>simpa using this
theorem OI (l:List Ar) (hl:l.length<=3000000) (x y:Int):f9 [.list (l.map arD),.int x,.int y]=some (.bool (l.all λ a=>vh a x y)):=by
 have e:cm [none,some 1,some 2] (lI asL (eV 0)) (tgN 0) (E9 (A8 (bT (lch pLe pLt (l2 pIx (eV 0) (eC (.int 0))) (eV 1) (l2 pIx (eV 0) (eC (.int 2))))) (bT (lch pLe pLt (l2 pIx (eV 0) (eC (.int 1))) (eV 2) (l2 pIx (eV 0) (eC (.int 3))))))) (eV 0)
   [.val (.list (l.map arD)),.val (.int x),.val (.int y)]=some ((l.filter λ a=>!vh a x y).map arD):=by
  refine iJ (ds:=l.map arD) (mh rfl rfl) (by rw [PJ]; exact hl) ?_;exact kM (η:=[.un,.val (.int x),.val (.int y)]) arD (λ a=>!vh a x y) arD l λ a _=>⟨[.val (arD a),.val (.int x),.val (.int y)],rfl,Ge (Cv (bw (Ce (ao rfl rfl rfl) rfl (ao rfl rfl rfl))) (bw (Ce (ao rfl rfl rfl) rfl (ao rfl rfl rfl)))),λ _=>rfl⟩
 have e2:=MZ arD (l.filter λ a=>!vh a x y) (NP _);rw [DG] at e2;exact i8 rfl (show rg [.val (.list (l.map arD)),.val (.int x),.val (.int y)]=_ from j4 (ao (cH e) (cH (eX (by simp))) e2))
theorem KB {fs:En->Option (List PD)} {g:En->Option PD} {d:PD} (h1:fs η=some [d]) (h2:g η=some (.int (if b then 1 else 0))):EV fs g η=some (.list (if b=true then [d] else [])):=by
 unfold EV;rw [h1,PC,h2,PC];cases b <;> rfl
section
variable {c:Sc} {ps:List Nat} (t:Tn c ps)
include t
theorem OJ (hq:In ps q):cg [c.d,c.s q]=some (c.box (q,par ps q)):=by
 have ⟨r,hr⟩:=yr (zd (ps:=ps) hq.1 hq.2);rw [<- t.st] at hr;have e:cm [none,some 1] (lI qk (eV 0)) (tgN 0) (bT (l2 pEq (l2 pIx (eV 0) (eC (.int 0))) (eV 1))) (eV 0) [.val c.d,.val (c.s q)]=some ((c.st.filter λ x=>decide (x.1=q)).map c.box):=by
  refine iJ (ds:=c.st.map c.box) (mh rfl rfl) (by rw [PJ]; have:=t.ok.len; omega) ?_;exact kM (η:=[.un,.val (c.s q)]) c.box (λ x=>decide (x.1=q)) c.box c.st λ x _=>⟨[.val (c.box x),.val (c.s q)],rfl,bw (ao (ao rfl rfl rfl) rfl (t.ok.eqs x.1 q)),λ _=>rfl⟩
 rw [hr,P2] at e;exact i8 rfl (show rh [.val c.d,.val (c.s q)]=_ from j4 (ao (cH e) rfl (ix0 _ _)))
theorem FH {x1:Sl}:∀ (n q:Nat) (tl:List Nat),In ps q->q<=n->tl.length+n<=100 ->
  sWh (bT (l2 pNe (l2 pIx (lA cg (aC (eV 0) (aC (l2 pIx (eV 2) (eC (.int 0))) aN))) (eC (.int 1))) (eC (.str "")))) (fC 2 (l2 aH (oE (λ η=>((aC (l2 pIx (lA cg (aC (eV 0) (aC (l2 pIx (eV 2) (eC (.int 0))) aN))) (eC (.int 1))) aN) η).bind gL)) (eV 2))) n
   [.val c.d,x1,.val (c.S (q::tl))]=some (.nx [.val c.d,x1,.val (c.S (P ps q++tl))])
 | 0,q,tl,hq,h1,_=>by have:=hq.1; omega
 | n+1,q,tl,hq,h1,h2=>by
  have hp:=vX t.ps hq.1;have ea:l2 pIx (lA cg (aC (eV 0) (aC (l2 pIx (eV 2) (eC (.int 0))) aN))) (eC (.int 1)) [.val c.d,x1,.val (c.S (q::tl))]=some (c.s (par ps q)) :=
   ao (aW (ai rfl (ai (ao rfl rfl (ix0 _ _)) rfl)) (OJ t hq)) rfl rfl
  have et:bT (l2 pNe (l2 pIx (lA cg (aC (eV 0) (aC (l2 pIx (eV 2) (eC (.int 0))) aN))) (eC (.int 1))) (eC (.str ""))) [.val c.d,x1,.val (c.S (q::tl))]=some (!decide (par ps q=0)) :=
   bw (ao ea rfl (t.ok.ne0 _))
  unfold sWh;rw [et,PC,yd t.ps hq.1];by_cases e:par ps q=0
  ·rw [decide_eq_true e,e];rfl
  ·rw [decide_eq_false e];show P7 (fC _ _ _) _=_;have eb:fC 2 (l2 aH (oE (λ η=>((aC (l2 pIx (lA cg (aC (eV 0) (aC (l2 pIx (eV 2) (eC (.int 0))) aN))) (eC (.int 1))) aN) η).bind gL)) (eV 2)) [.val c.d,x1,.val (c.S (q::tl))]=some (.nx [.val c.d,x1,.val (c.S (par ps q::q::tl))]) :=
    ia (ao (cH (dj (ai ea rfl) (eX (by simp)))) rfl (D0 (by simp; omega)))
   rw [eb,PC];show sWh _ _ n _=_;rw [FH n (par ps q) (q::tl) ⟨by omega,by have:=hq.2; omega⟩ (by omega) (by simp; omega)]
   simp
theorem Nr (hq:In ps q):gJ [c.d,c.s q]=some (c.S (P ps q)):=by
 have h7:=(show q<=7 from Qg hq.2 t.ps.len);have e:=FH t (x1:=.val (c.s q)) 13 q [] hq (by omega) (by simp);rw [Qr] at e;exact i8 rfl (show p6 cg [.val c.d,.val (c.s q),.un]=_ from dN (ia (cH (dj (ai rfl rfl) (eX (by simp))))) (dN e (j4 rfl)))
omit t in
def spB (cn:PFn):En->Option Out :=
  (sIf (A8 (bT (l2 pEq (l2 pIx (eV 6) (eC (.int 1))) (eV 1))) (bT (l2 (pIn true) (eC (.str "h")) (l2 pIx (eV 6) (eC (.int 6)))))) (cT (fC 7 (lA tpF (aC (l2 aH (eV 2) (l2 pIx (eV 6) (eC (.int 2)))) (aC (l2 aH (eV 3) (l2 pIx (eV 6) (eC (.int 3)))) (aC (l2 aH (l2 aH (eV 2) (l2 pIx (eV 6) (eC (.int 2)))) (l2 pIx (eV 6) (eC (.int 4)))) (aC (l2 aH (l2 aH (eV 3) (l2 pIx (eV 6) (eC (.int 3)))) (l2 pIx (eV 6) (eC (.int 5)))) aN))))))
  (cT (fC 8 (l2 aH (eV 4) (EV (λ η=>((aC (eV 7) aN) η).bind gL) (lA ul (aC (l2 (pIn false) (eC (.str "c")) (l2 pIx (eV 6) (eC (.int 6)))) aN)))))
  (fC 5 (l2 aH (l2 aH (eV 5) (oE (λ η=>((aC (lA tpF (aC (eV 6) (aC (eV 7) (aC (l2 aH (eV 4) (oE (λ η=>((aC (eV 7) aN) η).bind gL))) aN)))) aN) η).bind gL))) (lA cn (aC (eV 0) (aC (l2 pIx (eV 6) (eC (.int 0))) (aC (l2 pIx (eV 7) (eC (.int 0))) (aC (l2 pIx (eV 7) (eC (.int 1))) (aC (eV 8) aN)))))))))) sNx)
omit t in
def spX (g:Geo) (st:List (Nat×Nat)) (n:Nat) (l0 t0:Int) (cu:List Ar) (x:Nat):List Row :=
 if g.h x=true then [] else (x,g.at l0 t0 x,cu++[g.at l0 t0 x])::spF g st n x (l0+g.L x) (t0+g.T x) (cu++if g.c x=true then [g.at l0 t0 x] else [])
theorem Lj {n a:Nat} {l0 t0:Int} {cu:List Ar} (hcu:cu.length<=90) {F:PFn}
  (hF:∀ x,x∈chN (stF ps) a->∀ cu':List Ar,cu'.length<=cu.length+1->F [c.d,c.s x,.int (l0+c.geo.L x),.int (t0+c.geo.T x),.list (cu'.map arD)]=some (.list ((spF c.geo (stF ps) n x (l0+c.geo.L x) (t0+c.geo.T x) cu').map (rO c ps)))) :
  ∀ (l:List (Nat×Nat)) (fd:List Row) (s6 s7 s8:Sl),(∀ x∈l,x∈stF ps)->fd.length+(((l.filter λ x=>decide (x.2=a)).map (·.1)).flatMap (spX c.geo (stF ps) n l0 t0 cu)).length<=3000000 ->
  ∃ s6' s7' s8',sGo (tgN 6) (spB F) (l.map c.box) [.val c.d,.val (c.s a),.val (.int l0),.val (.int t0),.val (.list (cu.map arD)),.val (.list (fd.map (rO c ps))),s6,s7,s8]
   = some (.nx [.val c.d,.val (c.s a),.val (.int l0),.val (.int t0),.val (.list (cu.map arD)),.val (.list ((fd++((l.filter λ x=>decide (x.2=a)).map (·.1)).flatMap (spX c.geo (stF ps) n l0 t0 cu)).map (rO c ps))),s6',s7',s8'])
 | [],fd,s6,s7,s8,_,_=>⟨s6,s7,s8,by simp [sGo]⟩
 | x::l,fd,s6,s7,s8,hm,hz=>by
  have hx:=hm x Qc;have hxp:=(Eh hx).2.2;have hxe:x=(x.1,par ps x.1):=by rw [<- hxp]
  have et:A8 (bT (l2 pEq (l2 pIx (eV 6) (eC (.int 1))) (eV 1))) (bT (l2 (pIn true) (eC (.str "h")) (l2 pIx (eV 6) (eC (.int 6))))) [.val c.d,.val (c.s a),.val (.int l0),.val (.int t0),.val (.list (cu.map arD)),.val (.list (fd.map (rO c ps))),.val (c.box x),s7,s8]=some (decide (x.2=a)&&!c.geo.h x.1) :=
   Cv (bw (ao (ao rfl rfl rfl) rfl (t.ok.eqs x.2 a))) (bw (ao rfl (ao rfl rfl rfl) (HX true "h" (c.mr x.1))))
  have step:∃ s7' s8',spB F [.val c.d,.val (c.s a),.val (.int l0),.val (.int t0),.val (.list (cu.map arD)),.val (.list (fd.map (rO c ps))),.val (c.box x),s7,s8]
    = some (.nx [.val c.d,.val (c.s a),.val (.int l0),.val (.int t0),.val (.list (cu.map arD)),.val (.list ((fd++(if x.2=a then spX c.geo (stF ps) n l0 t0 cu x.1 else [])).map (rO c ps))),.val (c.box x),s7',s8']):=by
   unfold spB;rw [Aj et];by_cases ea:x.2=a
   ·rw [decide_eq_true ea,if_pos ea];have hch:x.1∈chN (stF ps) a:=Rf.mpr ⟨x,QR.mpr ⟨hx,by simpa using ea⟩,rfl⟩;have hzz:fd.length+(spX c.geo (stF ps) n l0 t0 cu x.1).length<=3000000:=by
     rw [QS,if_pos (by simpa using ea),P2,QU,PL] at hz;omega
    unfold spX at hzz ⊢;cases hh:c.geo.h x.1 with
    | true =>
     rw [if_neg (by decide),if_pos rfl,Qr];exact ⟨s7,s8,rfl⟩
    | false =>
     rw [hh,if_neg PN] at hzz;rw [if_pos (by decide),if_neg PN];have e8:EV (λ η=>((aC (eV 7) aN) η).bind gL) (lA ul (aC (l2 (pIn false) (eC (.str "c")) (l2 pIx (eV 6) (eC (.int 6)))) aN)) [.val c.d,.val (c.s a),.val (.int l0),.val (.int t0),.val (.list (cu.map arD)),.val (.list (fd.map (rO c ps))),.val (c.box x),.val (arD (c.geo.at l0 t0 x.1)),s8]
       = some (.list ((if c.geo.c x.1=true then [c.geo.at l0 t0 x.1] else []).map arD)):=by
      have:=KB (fs:=λ η=>((aC (eV 7) aN) η).bind gL) (g:=lA ul (aC (l2 (pIn false) (eC (.str "c")) (l2 pIx (eV 6) (eC (.int 6)))) aN)) (η:=[.val c.d,.val (c.s a),.val (.int l0),.val (.int t0),.val (.list (cu.map arD)),.val (.list (fd.map (rO c ps))),.val (c.box x),.val (arD (c.geo.at l0 t0 x.1)),s8]) (d:=arD (c.geo.at l0 t0 x.1)) (b:=c.geo.c x.1)
       (dj (ai rfl rfl) (eX (by simp))) (aW (ai (ao rfl (ao rfl rfl rfl) (HX false "c" (c.mr x.1))) rfl) rfl)
      rw [this];cases c.geo.c x.1 <;> rfl
     have e8':l2 aH (eV 4) (EV (λ η=>((aC (eV 7) aN) η).bind gL) (lA ul (aC (l2 (pIn false) (eC (.str "c")) (l2 pIx (eV 6) (eC (.int 6)))) aN))) [.val c.d,.val (c.s a),.val (.int l0),.val (.int t0),.val (.list (cu.map arD)),.val (.list (fd.map (rO c ps))),.val (c.box x),.val (arD (c.geo.at l0 t0 x.1)),s8]
       = some (.list ((cu++if c.geo.c x.1=true then [c.geo.at l0 t0 x.1] else []).map arD)):=by
      rw [QG];exact ao rfl e8 (D0 (by cases c.geo.c x.1 <;> simp <;> omega))
     have ef:=hF x.1 hch (cu++if c.geo.c x.1=true then [c.geo.at l0 t0 x.1] else []) (by cases c.geo.c x.1 <;> simp);rw [P8] at hzz;refine ⟨_,_,dN (ia (d:=arD (c.geo.at l0 t0 x.1)) (aW (ai (ao rfl (ao rfl rfl rfl) rfl) (ai (ao rfl (ao rfl rfl rfl) rfl) (ai (ao (ao rfl (ao rfl rfl rfl) rfl) (ao rfl rfl rfl) rfl) (ai (ao (ao rfl (ao rfl rfl rfl) rfl) (ao rfl rfl rfl) rfl) rfl)))) (gN (by simp)))) (dN (ia e8') (ia ?_))⟩;have e5:l2 aH (eV 5) (oE (λ η=>((aC (lA tpF (aC (eV 6) (aC (eV 7) (aC (l2 aH (eV 4) (oE (λ η=>((aC (eV 7) aN) η).bind gL))) aN)))) aN) η).bind gL))
       [.val c.d,.val (c.s a),.val (.int l0),.val (.int t0),.val (.list (cu.map arD)),.val (.list (fd.map (rO c ps))),.val (c.box x),.val (arD (c.geo.at l0 t0 x.1)),.val (.list ((cu++if c.geo.c x.1=true then [c.geo.at l0 t0 x.1] else []).map arD))]
       = some (.list ((fd++[(x.1,c.geo.at l0 t0 x.1,cu++[c.geo.at l0 t0 x.1])]).map (rO c ps))):=by
      refine ao rfl (cH (dj (ai (aW (ai rfl (ai rfl (ai (ao rfl (cH (dj (ai rfl rfl) (eX (by simp)))) (D0 (by simp; omega))) rfl))) (gN (by simp))) rfl) (eX (by simp)))) ?_;have er:rO c ps (x.1,c.geo.at l0 t0 x.1,cu++[c.geo.at l0 t0 x.1])=.tuple [c.box x,arD (c.geo.at l0 t0 x.1),.list (cu.map arD++[arD (c.geo.at l0 t0 x.1)])]:=by
       unfold rO;rw [QG,<- hxp];rfl
      rw [QG,P2,Rn,er];exact D0 (by simp; omega)
     refine (ao e5 (aW (ai rfl (ai (d:=c.s x.1) (ao rfl rfl rfl) (ai (d:=.int (l0+c.geo.L x.1)) (ao rfl rfl rfl) (ai (d:=.int (t0+c.geo.T x.1)) (ao rfl rfl rfl) (ai rfl rfl))))) ef) (D0 ?_)).trans ?_
     ·rw [PJ,PJ,PL]; simp; omega
     ·rw [<- QG,QP]; rfl
   ·rw [decide_eq_false ea,if_neg ea,Bool.false_and,if_neg PN,Qr];exact ⟨s7,s8,rfl⟩
  obtain ⟨s7',s8',step⟩:=step;have key:((x::l).filter λ x=>decide (x.2=a)).map (·.1)=(if x.2=a then [x.1] else [])++(l.filter λ x=>decide (x.2=a)).map (·.1):=by
   rw [QS];by_cases ea:x.2=a
   ·rw [if_pos ea,if_pos (by simpa using ea)]; rfl
   ·rw [if_neg ea,if_neg (by simpa using ea)]; rfl
  have key2:((((x::l).filter λ x=>decide (x.2=a)).map (·.1)).flatMap (spX c.geo (stF ps) n l0 t0 cu))=(if x.2=a then spX c.geo (stF ps) n l0 t0 cu x.1 else [])++(((l.filter λ x=>decide (x.2=a)).map (·.1)).flatMap (spX c.geo (stF ps) n l0 t0 cu)):=by
   rw [key,List.flatMap_append];by_cases ea:x.2=a
   ·rw [if_pos ea,if_pos ea]; simp
   ·rw [if_neg ea,if_neg ea]; rfl
  rw [key2,PL] at hz;obtain ⟨u6,u7,u8,ih⟩:=Lj hcu hF l (fd++(if x.2=a then spX c.geo (stF ps) n l0 t0 cu x.1 else [])) (.val (c.box x)) s7' s8' (λ y hy=>hm y (P3 _ hy)) (by rw [PL]; omega);refine ⟨u6,u7,u8,?_⟩;rw [P2]
  conv=>lhs; unfold sGo
  show P7 (spB F [.val c.d,.val (c.s a),.val (.int l0),.val (.int t0),.val (.list (cu.map arD)),.val (.list (fd.map (rO c ps))),.val (c.box x),s7,s8]) _=_;rw [step,PC];show sGo _ _ _ _=_;rw [ih,key2,QP]
theorem D5:∀ (n a:Nat) (l0 t0:Int) (cu:List Ar),13<=n+a->a<=ps.length->cu.length+n<=80->bB n [c.d,c.s a,.int l0,.int t0,.list (cu.map arD)]=some (.list ((spF c.geo (stF ps) n a l0 t0 cu).map (rO c ps)))
 | 0,a,l0,t0,cu,h1,h2,_=>by have:=t.ps.len; omega
 | n+1,a,l0,t0,cu,h1,h2,h3=>by
  have hlim:=Qg (Hl c.geo (stF ps) (n+1) a l0 t0 cu) (Iy t.ps h1);have e0:spF c.geo (stF ps) (n+1) a l0 t0 cu=(((stF ps).filter λ x=>decide (x.2=a)).map (·.1)).flatMap (spX c.geo (stF ps) n l0 t0 cu):=rfl;rw [e0] at hlim ⊢;obtain ⟨s6,s7,s8,e⟩:=Lj t (n:=n) (a:=a) (l0:=l0) (t0:=t0) (cu:=cu) (by omega) (F:=bB n) (λ x hx cu' hc=>by
   have hm:=gy t.ps hx;exact D5 n x _ _ cu' (by omega) hm.2.1 (by omega)) (stF ps) [] .un .un .un (λ _ h=>h) (by simpa using Qg hlim (by decide))
  refine i8 rfl (show nG (bB n) [.val c.d,.val (c.s a),.val (.int l0),.val (.int t0),.val (.list (cu.map arD)),.un,.un,.un,.un]=_ from ?_);refine dN (ia (cH (eX (by simp)))) (dN (sP (ds:=(stF ps).map c.box) (mh (d:=c.d) rfl ?_) e) (j4 rfl));show some (c.st.map c.box)=_;rw [t.st]
omit t in
def shR (c:Sc) (ps:List Nat):List Nat:=(kids (stF ps) 13 0).filter (c.geo.shown ps)
theorem Nq:bB 13 [c.d,.str "", .int 0,.int 0,.list []]=some (.list ((shR c ps).map λ q=>rO c ps (c.geo.row ps q))):=by
 have e:=D5 t 13 0 0 0 [] (by decide) (Q1 _) (by simp);have e2:spF c.geo (stF ps) 13 0 0 0 []=(shR c ps).map (c.geo.row ps):=Gt t.ps 13 0 rfl;rw [e2,QC] at e;have e3:c.s 0=.str "" := by
  unfold Sc.s;rw [t.ok.top]
 rw [e3] at e;exact e
theorem Ma (h:q∈shR c ps):In ps q:=Af t.ps (QR.mp h).1
theorem JK:(shR c ps).length<=3000000:=Qg (Q4 ..) (Dw t.ps)
theorem IR (h:q<=ps.length):(c.geo.cuts ps q).length<=7:=by
 unfold Geo.cuts;rw [PJ];refine Qg (Q4 ..) (Qg (LL q) (Qg h t.ps.len))
theorem JN (h:In ps q):(c.geo.row ps q).2.2.length<=8:=by
 have hp:=vX t.ps h.1
 have:=IR t (q:=par ps q) (by have:=h.2; omega)
 unfold Geo.row;rw [PL];simpa using this
theorem Nt (x y:Int):gK [c.d,.int x,.int y]=some (c.S (c.geo.hits ps x y)):=by
 have e:cm [none,some 1,some 2] (lI asL (eV 3)) (tgN 0) (A8 (bT (l2 (pIn true) (eC (.str "l")) (l2 pIx (l2 pIx (eV 0) (eC (.int 0))) (eC (.int 6))))) (bT (lA f9 (aC (l2 pIx (eV 0) (eC (.int 2))) (aC (eV 1) (aC (eV 2) aN)))))) (l2 pIx (l2 pIx (eV 0) (eC (.int 0))) (eC (.int 0)))
   [.val c.d,.val (.int x),.val (.int y),.val (.list ((shR c ps).map λ q=>rO c ps (c.geo.row ps q)))]=some (((shR c ps).filter λ q=>!c.geo.l q&&c.geo.tch ps x y q).map c.s):=by
  refine iJ (ds:=(shR c ps).map λ q=>rO c ps (c.geo.row ps q)) (mh rfl rfl) (by rw [PJ]; exact JK t) ?_;refine kM (η:=[.un,.val (.int x),.val (.int y)]) (λ q=>rO c ps (c.geo.row ps q)) (λ q=>!c.geo.l q&&c.geo.tch ps x y q) c.s (shR c ps) λ q hq=>⟨[.val (rO c ps (c.geo.row ps q)),.val (.int x),.val (.int y)],rfl,?_,λ _=>ao (ao rfl rfl rfl) rfl rfl⟩;exact Cv (bw (ao rfl (ao (ao rfl rfl rfl) rfl rfl) (HX true "l" (c.mr q)))) (bw (aW (ai (ao rfl rfl rfl) (ai rfl (ai rfl rfl))) (OI (c.geo.row ps q).2.2 (by have:=JN t (Ma t hq); omega) x y)))
 have er:pRv (.list (((shR c ps).filter λ q=>!c.geo.l q&&c.geo.tch ps x y q).map c.s)) (.int (-1))=some (c.S (c.geo.hits ps x y)):=by
  show some (PyData.list (List.reverse _))=_;rw [<- RO]
  have:=IC c.geo ps x y
  unfold shR;rw [this];rfl
 exact i8 rfl (show p7 (bB 13) f9 [.val c.d,.val (.int x),.val (.int y),.un]=_ from
  dN (ia (aW (ai rfl (ai rfl (ai rfl (ai rfl (ai (cH (eX (by simp))) rfl))))) (Nq t))) (j4 (ao (cH e) (On rfl rfl) er)))
theorem Kz {x:Int} (h:q∈c.geo.hits ps x y):In ps q:=Af t.ps (List.mem_reverse.mp (QR.mp (QR.mp (QR.mp h).1).1).1)
theorem Mv (l:List Nat):pNe (c.S l) (.list [])=some (.bool (!decide (l=[]))):=t.ok.neS l []
theorem Fh (x y:Int):aB [c.d,.int x,.int y]=some (c.S (hpth ps (c.geo.hits ps x y))):=by
 have e1:=Nt t x y;have hin:=λ q=>Kz t (x:=x) (y:=y) (q:=q);refine i8 rfl (show lZ gK gJ [.val c.d,.val (.int x),.val (.int y),.un]=_ from dN (ia (aW (ai rfl (ai rfl (ai rfl rfl))) e1)) (j4 ?_));have et:=bw (ao (o:=pNe) (f:=eV 3) (g:=oE (λ η=>(aN η).bind gL)) (η:=[.val c.d,.val (.int x),.val (.int y),.val (c.S (c.geo.hits ps x y))]) rfl (cH (eX (by simp))) (Mv t (c.geo.hits ps x y)));show vIf _ _ _ [.val c.d,.val (.int x),.val (.int y),.val (c.S (c.geo.hits ps x y))]=_;rw [zn et];cases hh:c.geo.hits ps x y with
 | nil =>
  rw [if_neg (by simp)];exact cH (eX (by simp))
 | cons q r =>
  rw [if_pos (by simp)];exact aW (ai rfl (ai (ao rfl rfl (ix0 _ _)) rfl)) (Nr t (hin q (by rw [hh]; exact Qc)))
end
section
variable {w:Wd} {s s1 s2:Sto} {n k:Nat} {ds:List D} {d:D}
theorem FV {nm:Str} {fs:List (Str×D)} (h1:o w=some (.r n,s)) (h2:s[n]?=some (.obj k fs)) (h3:fs.lookup nm=some d):vg o nm w=some (d,s):=by
 unfold vg;rw [h1,PC];dsimp only;rw [h2];dsimp only;rw [h3]; rfl
theorem Aa {fs:MFs} (h1:fs w=some (ds,s)) (h2:pDs s ds=some xs) (hl:xs.length<=3000000):rV fs w=some (.d (.tuple xs),s):=by
 unfold rV;rw [h1,PC,h2,PC,if_pos (big hl)]
theorem sJ {ky:Key} (h1:o w=some (.r n,s)) (h2:g ⟨w.η,s⟩=some (.d x,s1)) (h3:Dy x=some ky) (h4:s1[n]?=some (.dct kvs)) (h5:ci kvs ky=some d):gQ o g w=some (d,s1):=by
 unfold gQ;rw [h1,PC];dsimp only;rw [h2,PC];dsimp only;rw [h3,PC,h4];dsimp only;rw [h5,PC]
theorem uu {e:MF} {ky:Key} {s0:Sto} (h0:e w=some (d,s0)) (h1:o ⟨w.η,s0⟩=some (.r n,s)) (h2:g ⟨w.η,s⟩=some (.d x,s1)) (h3:Dy x=some ky) (h4:s1[n]?=some (.dct kvs)) (hl:kvs.length<=3000000):jC o g e w=some (.nx ⟨w.η,s1.set n (.dct (sZ kvs ky d))⟩):=by
 unfold jC;rw [h0,PC];dsimp only;rw [h1,PC];dsimp only;rw [h2,PC];dsimp only;rw [h3,PC,h4];dsimp only;rw [if_pos (RD hl (by show 3000000 < 2 ^ 24; decide))]
theorem Ab {f:MF} (h1:f w=some (.r n,s)) (h2:s[n]?=some (.lst ds)) (h3:xl ds=some xs):mFz f w=some (.d (.list xs),s.set n (.fz (.list xs))):=by
 unfold mFz;rw [h1,PC];dsimp only;rw [h2];dsimp only;rw [h3,PC]
theorem IB {f:MF} (h:f w=some (.d (.list xs),s)):iM f w=some (xs,s):=by
 unfold iM;rw [h]; rfl
end
theorem BK {s:Sto} {x y:Cell} (h:s[i]?=some y):(s.set i x)[i]?=some x:=PY (fk h)
theorem wf {ι:Type} (f:ι->PD):∀ l:List ι,xl (l.map λ x=>D.d (f x))=some (l.map f)
 | []=>rfl
 | x::r=>by
  rw [P2,P2];unfold xl;rw [wf f r]; rfl
theorem C0 {s:Sto} {x:Cell} (h:s[n]?=some x):s.set n x=s:=by
 refine List.ext_getElem? λ i=>?_;by_cases e:n=i
 ·subst e; rw [PY (fk h),h]
 ·rw [PK e]
theorem xR {ι:Type} {ks:List Nat} {t:En->PD->Option En} {p:MTF} {f:MF} {n:Nat} {η:MEn} (Z:ι->PD) (q:ι->Bool) (Y:ι->PD) (W:ι->MEn):∀ (xs:List ι) (s:Sto) (acc:List D),acc.length+xs.length<=3000000->s[n]?=some (.lst acc) ->
  (∀ x∈xs,∀ a,mTg ks t ⟨η,s.set n (.lst a)⟩ (Z x)=some ⟨W x,s.set n (.lst a)⟩/\p ⟨W x,s.set n (.lst a)⟩=some (q x,s.set n (.lst a))/\(q x=true->f ⟨W x,s.set n (.lst a)⟩=some (.d (Y x),s.set n (.lst a)))) ->
  Dp ks t p f n η (xs.map Z) s=some (s.set n (.lst (acc++(xs.filter q).map λ x=>D.d (Y x))))
 | [],s,acc,_,hs,_=>by
  simp only [List.filter_nil,Rn,Qr];rw [C0 hs]; rfl
 | x::r,s,acc,hl,hs,hf=>by
  rw [P8] at hl;obtain ⟨e1,e2,e3⟩:=hf x Qc acc;rw [C0 hs] at e1 e2 e3;rw [P2];unfold Dp;rw [e1,PC,e2,PC];dsimp only;cases hq:q x with
  | false =>
   rw [if_neg PN,List.filter_cons_of_neg (by rw [hq]; decide)];exact xR Z q Y W r s acc (by omega) hs λ y hy=>hf y (P3 _ hy)
  | true =>
   rw [if_pos rfl,e3 hq,PC];dsimp only;rw [hs];dsimp only;have ih:=xR Z q Y W r (s.set n (.lst (acc++[.d (Y x)]))) (acc++[.d (Y x)]) (by rw [PL]; simp; omega) (BK hs) λ y hy a=>by
    rw [Ro];exact hf y (P3 _ hy) a
   rw [if_pos (RD (show acc.length<=3000000 by omega) (by show 3000000 < 2 ^ 24; decide)),ih,Ro,RK hq,P2,QP]; rfl
theorem wt (s:Sto) (x y:Cell):(s++[x]).set s.length y=s++[y]:=by simp
theorem nV (s:Sto) (x:Cell):(s++[x])[s.length]?=some x:=by simp
theorem zV {ι:Type} {mp:List (Option Nat)} {it:Wd->Option (List PD×Sto)} {ks:List Nat} {t:En->PD->Option En} {p:MTF} {f:MF} {s:Sto} (Z:ι->PD) (q:ι->Bool) (Y:ι->PD) (W:ι->MEn) (xs:List ι) (h1:it w=some (xs.map Z,s)) (hl:xs.length<=3000000)
  (hf:∀ x∈xs,∀ a,mTg ks t ⟨AZ mp w.η,s++[.lst a]⟩ (Z x)=some ⟨W x,s++[.lst a]⟩/\p ⟨W x,s++[.lst a]⟩=some (q x,s++[.lst a])/\(q x=true->f ⟨W x,s++[.lst a]⟩=some (.d (Y x),s++[.lst a]))) :
  mcL mp it ks t p f w=some (.r s.length,s++[.lst ((xs.filter q).map λ x=>D.d (Y x))]):=by
 unfold mcL;rw [h1,PC];dsimp only;have e:=xR (n:=s.length) Z q Y W xs (s++[Cell.lst []]) [] (by simpa using hl) (nV s _) λ x hx a=>by
  rw [wt]; exact hf x hx a
 rw [e,PC,wt]; rfl
theorem Kk {ι:Type} {f:MF} {s:Sto} {Y:ι->PD} {l:List ι} (h:f w=some (.r s.length,s++[.lst (l.map λ x=>D.d (Y x))])):mFz f w=some (.d (.list (l.map Y)),s++[.fz (.list (l.map Y))]):=by
 rw [Ab h (nV s _) (wf Y l),wt]
theorem MD {o o':PD->PD->Option PD} {f h:MF} {y z:PD} {k k':Bool} (h1:f w=some (.d x,w.s)) (h2:g w=some (.d y,w.s)) (h3:h w=some (.d z,w.s)) (e1:o x y=some (.bool k)) (e2:o' y z=some (.bool k')):mCh o o' f g h w=some (k&&k',w.s):=by
 unfold mCh;rw [h1,PC];dsimp only;rw [show g ⟨w.η,w.s⟩=some (.d y,w.s) from h2,PC];show (some x).bind _=_;rw [PC];show (some y).bind _=_;rw [PC,e1,PC];show (some k).bind _=_;rw [PC];cases k with
 | false=>rfl
 | true =>
  rw [if_pos rfl];dsimp only;rw [show h ⟨w.η,w.s⟩=some (.d z,w.s) from h3,PC];show (some z).bind _=_;rw [PC,e2,PC]; rfl
theorem Pd {c:MTF} {body:Wd->Option MOut} {w':Wd} {s:Sto} (h1:c w=some (true,s)) (h2:body ⟨w.η,s⟩=some (.nx w')):mWh c body (n+1) w=mWh c body n w':=by
 rw [mWh];rw [h1,PC];dsimp only;rw [if_pos rfl,h2,PC]
theorem Pe {c:MTF} {body:Wd->Option MOut} {s:Sto} (h1:c w=some (false,s)):mWh c body (n+1) w=some (.nx ⟨w.η,s⟩):=by
 rw [mWh];rw [h1,PC]; rfl
theorem MB {f:MF} {g:En->Option PD} {d:D} {s:Sto} (h1:f w=some (d,s)) (hx:pD s d=some (.list ds)) (hy:g (vw ⟨w.η,s⟩)=some (.int (-1))):mRv f g w=some (.d (.list ds.reverse),s):=by
 unfold mRv;rw [h1,PC];dsimp only;rw [hx,PC,hy]; rfl
theorem Cb {fs:MFs} {ds:List D} {s:Sto} (h:fs w=some (ds,s)) (hl:ds.length<=3000000):yT fs w=some (.r s.length,s++[.lst ds]):=by
 unfold yT;rw [h,PC];dsimp only;rw [if_pos (big hl)]
theorem Ik {f:MF} {s:Sto} {d:D} (h1:f w=some (.r n,s)) (h2:g ⟨w.η,s⟩=some (.d (.int (if b then 1 else 0)),s1)) (h3:s1[n]?=some (.lst [d])):Bo f g w=some (.r s1.length,s1++[.lst (if b=true then [d] else [])]):=by
 unfold Bo;rw [h1,PC];dsimp only;rw [h2,PC];dsimp only;rw [h3];cases b <;> rfl
def laD (c:Sc):Option (Nat×Int)->PD
 | none=>.none
 | some (x,m)=>.tuple [c.s x,.int m]
def kvL (c:Sc) (h:Hd) (l:Option (Nat×Int)):List (Key×D):=[(.inr "over", .d (c.S h.trail)),(.inr "pressed", .d (oL c h.pr)),(.inr "held", .d (kD c h.held)),(.inr "last", .d (laD c l))]
abbrev Lo (c:Sc) (s:Sto) (a:Nat) (h:Hd) (l:Option (Nat×Int)):Prop:=s[a]?=some (.dct (kvL c h l))
theorem k1:(("over" : Str) = "pressed")=False:=eq_false (by decide +kernel)
theorem k2:(("over" : Str) = "held")=False:=eq_false (by decide +kernel)
theorem k3:(("over" : Str) = "last")=False:=eq_false (by decide +kernel)
theorem k4:(("pressed" : Str) = "over")=False:=eq_false (by decide +kernel)
theorem k5:(("pressed" : Str) = "held")=False:=eq_false (by decide +kernel)
theorem k6:(("pressed" : Str) = "last")=False:=eq_false (by decide +kernel)
theorem k7:(("held" : Str) = "over")=False:=eq_false (by decide +kernel)
theorem k8:(("held" : Str) = "pressed")=False:=eq_false (by decide +kernel)
theorem k9:(("held" : Str) = "last")=False:=eq_false (by decide +kernel)
theorem k10:(("last" : Str) = "over")=False:=eq_false (by decide +kernel)
theorem k11:(("last" : Str) = "pressed")=False:=eq_false (by decide +kernel)
theorem k12:(("last" : Str) = "held")=False:=eq_false (by decide +kernel)
section
variable (c:Sc) (h:Hd) (l:Option (Nat×Int))
theorem Oh:ci (kvL c h l) (.inr "over")=some (.d (c.S h.trail)):=by simp [kvL,ci,k1,k2,k3,k4,k5,k6,k7,k8,k9,k10,k11,k12]
theorem Pf:ci (kvL c h l) (.inr "pressed")=some (.d (oL c h.pr)):=by simp [kvL,ci,k1,k2,k3,k4,k5,k6,k7,k8,k9,k10,k11,k12]
theorem Oi:ci (kvL c h l) (.inr "held")=some (.d (kD c h.held)):=by simp [kvL,ci,k1,k2,k3,k4,k5,k6,k7,k8,k9,k10,k11,k12]
theorem Pg:ci (kvL c h l) (.inr "last")=some (.d (laD c l)):=by simp [kvL,ci,k1,k2,k3,k4,k5,k6,k7,k8,k9,k10,k11,k12]
theorem O8 (p:List Nat):sZ (kvL c h l) (.inr "over") (.d (c.S p))=kvL c { h with trail:=p } l:=by simp [kvL,sZ,k1,k2,k3,k4,k5,k6,k7,k8,k9,k10,k11,k12]
theorem O7 (p:Option (List Nat)):sZ (kvL c h l) (.inr "pressed") (.d (oL c p))=kvL c { h with pr:=p } l:=by simp [kvL,sZ,k1,k2,k3,k4,k5,k6,k7,k8,k9,k10,k11,k12]
theorem N6 (p:Option Nat):sZ (kvL c h l) (.inr "held") (.d (kD c p))=kvL c { h with held:=p } l:=by simp [kvL,sZ,k1,k2,k3,k4,k5,k6,k7,k8,k9,k10,k11,k12]
theorem O9 (p:Option (Nat×Int)):sZ (kvL c h l) (.inr "last") (.d (laD c p))=kvL c h p:=by simp [kvL,sZ,k1,k2,k3,k4,k5,k6,k7,k8,k9,k10,k11,k12]
end
theorem pO {d:D} (h:w.η[i]?=some (some d)):mV i w=some (d,w.s):=by
 unfold mV;rw [h]
section
variable {c:Sc} {h:Hd} {l:Option (Nat×Int)} {w:Wd} {i a:Nat} (hi:w.η[i]?=some (some (.r a))) (hc:Lo c w.s a h l)
include hi hc
theorem OD:gQ (mV i) (mP (eC (.str "over"))) w=some (.d (c.S h.trail),w.s):=sJ (pO hi) rfl rfl hc (Oh c h l)
theorem OC:gQ (mV i) (mP (eC (.str "pressed"))) w=some (.d (oL c h.pr),w.s):=sJ (pO hi) rfl rfl hc (Pf c h l)
theorem OE:gQ (mV i) (mP (eC (.str "held"))) w=some (.d (kD c h.held),w.s):=sJ (pO hi) rfl rfl hc (Oi c h l)
theorem Pv:gQ (mV i) (mP (eC (.str "last"))) w=some (.d (laD c l),w.s):=sJ (pO hi) rfl rfl hc (Pg c h l)
end
section
variable {c:Sc} {h:Hd} {l:Option (Nat×Int)} {w:Wd} {i a:Nat} {s:Sto} {e:MF} (hi:w.η[i]?=some (some (.r a))) (hc:Lo c s a h l)
include hi hc
theorem N5 (h0:e w=some (.d (c.S p),s)):jC (mV i) (mP (eC (.str "over"))) e w=some (.nx ⟨w.η,s.set a (.dct (kvL c { h with trail:=p } l))⟩):=by
 rw [uu h0 (pO (w:=⟨w.η,s⟩) hi) rfl rfl hc (show 4<=3000000 by decide),O8]
theorem Lr {p:Option (List Nat)} (h0:e w=some (.d (oL c p),s)):jC (mV i) (mP (eC (.str "pressed"))) e w=some (.nx ⟨w.η,s.set a (.dct (kvL c { h with pr:=p } l))⟩):=by
 rw [uu h0 (pO (w:=⟨w.η,s⟩) hi) rfl rfl hc (show 4<=3000000 by decide),O7]
theorem Hx {p:Option Nat} (h0:e w=some (.d (kD c p),s)):jC (mV i) (mP (eC (.str "held"))) e w=some (.nx ⟨w.η,s.set a (.dct (kvL c { h with held:=p } l))⟩):=by
 rw [uu h0 (pO (w:=⟨w.η,s⟩) hi) rfl rfl hc (show 4<=3000000 by decide),N6]
theorem Ls {p:Option (Nat×Int)} (h0:e w=some (.d (laD c p),s)):jC (mV i) (mP (eC (.str "last"))) e w=some (.nx ⟨w.η,s.set a (.dct (kvL c h p))⟩):=by
 rw [uu h0 (pO (w:=⟨w.η,s⟩) hi) rfl rfl hc (show 4<=3000000 by decide),O9]
end
theorem Fs:∀ (k:Nat) (a b:List Nat),k<=(shN a b).length->shN (a.drop k) (b.drop k)=(shN a b).drop k
 | 0,a,b,_=>by simp
 | k+1,[],b,h=>by simp [shN] at h
 | k+1,x::xs,[],h=>by simp [shN] at h
 | k+1,x::xs,y::ys,h=>by
  by_cases e:x=y
  ·have es:shN (x::xs) (y::ys)=x::shN xs ys:=by rw [shN,if_pos e]
   rw [es,P8] at h;rw [es,R3,R3,R3];exact Fs k xs ys (by omega)
  ·have es:shN (x::xs) (y::ys)=[]:=by rw [shN,if_neg e]
   rw [es] at h;simp at h
theorem CZ:∀ a b:List Nat,(shN a b).length<=b.length
 | [],_=>by simp [shN]
 | x::xs,[]=>by simp [shN]
 | x::xs,y::ys=>by
  unfold shN
  split
  ·have:=CZ xs ys
   simp; omega
  ·simp
theorem JJ (a b:List Nat):(decide (a.take 1=b.take 1)&&!decide (b.take 1=[]))=decide (0 < (shN a b).length):=by
 cases a with
 | nil=>cases b <;> simp [shN]
 | cons x xs =>
  cases b with
  | nil=>simp [shN]
  | cons y ys =>
   by_cases e:x=y
   ·subst e; simp [shN]
   ·simp [shN,e]
theorem Ll (l:List Nat) (i:Nat) (hi:i<=l.length):pSl (c.S l) (some (i:Int)) (some ((i:Int)+1))=some (c.S ((l.drop i).take 1)):=by
 show some (PyData.list _)=_;rw [zh,show ((i:Int)+1)=(i:Int)+((1:Nat):Int) by omega,KL _ _ _ hi]; rfl
abbrev Ol:MTF:=mCh pEq pNe (mSl (gQ (mV 0) (mP (eC (.str "over")))) (pS (eV 2)) (pS (L2.PU.l2 aH (eV 2) (eC (.int 1))))) (mP (eSl (eV 1) (pS (eV 2)) (pS (L2.PU.l2 aH (eV 2) (eC (.int 1)))))) (mP (oE (λ η=>(aN η).bind gL)))
section
variable {c:Sc} {s:Sto} {a:Nat} {h:Hd} {l:Option (Nat×Int)}
theorem Oj (ok:c.Ok) (hc:Lo c s a h l) (hk:k<=(shN h.trail p).length):Ol ⟨[some (.r a),some (.d (c.S p)),some (.d (.int (k:Nat))),none],s⟩=some (decide (k < (shN h.trail p).length),s):=by
 have l1:=Qg hk (BJ h.trail p);have l2:=Qg hk (CZ h.trail p);have e1:mSl (gQ (mV 0) (mP (eC (.str "over")))) (pS (eV 2)) (pS (L2.PU.l2 aH (eV 2) (eC (.int 1)))) ⟨[some (.r a),some (.d (c.S p)),some (.d (.int (k:Nat))),none],s⟩=some (.d (c.S ((h.trail.drop k).take 1)),s) :=
  EE (OD (w:=⟨[some (.r a),some (.d (c.S p)),some (.d (.int (k:Nat))),none],s⟩) (i:=0) rfl hc) rfl (rP rfl) (rP (i:=(k:Int)+1) (ao rfl rfl rfl)) (Ll _ _ l1)
 have e2:mP (eSl (eV 1) (pS (eV 2)) (pS (L2.PU.l2 aH (eV 2) (eC (.int 1))))) ⟨[some (.r a),some (.d (c.S p)),some (.d (.int (k:Nat))),none],s⟩=some (.d (c.S ((p.drop k).take 1)),s) :=
  am (uK rfl (rP rfl) (rP (i:=(k:Int)+1) (ao rfl rfl rfl)) (Ll _ _ l2))
 have e3:mP (oE (λ η=>(aN η).bind gL)) ⟨[some (.r a),some (.d (c.S p)),some (.d (.int (k:Nat))),none],s⟩=some (.d (c.S []),s):=am (cH (eX (by simp)))
 have:=MD (o:=pEq) (o':=pNe) e1 e2 e3 (Lw ok _ _) (ok.neS _ _)
 rw [JJ,Fs k _ _ hk,Qo] at this;rw [show decide (k < (shN h.trail p).length)=decide (0 < (shN h.trail p).length - k) by congr 1; exact propext ⟨λ _=>by omega,λ _=>by omega⟩];exact this
theorem Iu (ok:c.Ok) (hc:Lo c s a h l) {p:List Nat}:∀ (n k:Nat),k<=(shN h.trail p).length->(shN h.trail p).length < n+k->mWh Ol (bR 2 (mP (L2.PU.l2 aH (eV 2) (eC (.int 1))))) n ⟨[some (.r a),some (.d (c.S p)),some (.d (.int (k:Nat))),none],s⟩=some (.nx ⟨[some (.r a),some (.d (c.S p)),some (.d (.int ((shN h.trail p).length:Nat))),none],s⟩)
 | 0,k,h1,h2=>by omega
 | n+1,k,h1,h2=>by
  have e:=Oj ok hc h1;by_cases hk:k < (shN h.trail p).length
  ·rw [show decide (k < (shN h.trail p).length)=true from decide_eq_true hk] at e;rw [Pd e (w':=⟨[some (.r a),some (.d (c.S p)),some (.d (.int ((k+1:Nat):Int))),none],s⟩) (aO (am (ao rfl rfl rfl)))];exact Iu ok hc n (k+1) hk (by omega)
  ·rw [show decide (k < (shN h.trail p).length)=false from decide_eq_false hk] at e;rw [Pe e,show k=(shN h.trail p).length by omega]
theorem N8:l1 sG (eC (.int 1)) η=some (.int (-1)):=rfl
theorem Jp (ok:c.Ok) (hc:Lo c s a h l) (ht:h.trail.length<=7) (hp:p.length<=7):bq [.r a,.d (c.S p)] s=some (.d (Rw c (lead h p)),(s++[Cell.fz (Rw c (wr "leave" (h.trail.drop (shN h.trail p).length).reverse))]).set a (.dct (kvL c { h with trail:=p } l))):=by
 have hs:=BJ h.trail p;have ha:=fk hc;refine bI rfl (show rf ⟨[some (.r a),some (.d (c.S p)),none,none],s⟩=_ from ?_);refine ak (w1:=⟨[some (.r a),some (.d (c.S p)),some (.d (.int ((0:Nat):Int))),none],s⟩) (aO (am rfl)) ?_;refine ak (Iu ok hc 13 0 (Q1 _) (by omega)) ?_;generalize hn:(shN h.trail p).length=n at *;have e1:iM (mRv (mSl (gQ (mV 0) (mP (eC (.str "over")))) (pS (eV 2)) pN) (l1 sG (eC (.int 1)))) ⟨[some (.r a),some (.d (c.S p)),some (.d (.int (n:Nat))),none],s⟩=some ((h.trail.drop n).reverse.map c.s,s):=by
  rw [RO];exact IB (MB (EE (OD (w:=⟨[some (.r a),some (.d (c.S p)),some (.d (.int (n:Nat))),none],s⟩) (i:=0) rfl hc) rfl (rP rfl) rfl (Ci _ _)) rfl N8)
 have e2:=zV (mp:=[none]) (ks:=[0]) (t:=tgN 0) (p:=xF) (f:=mP (lA tpF (aC (eC (.str "leave")) (aC (eV 0) aN)))) c.s (λ _=>true) (λ x=>rD c ("leave", x)) (λ x=>[some (.d (c.s x))]) _ e1 (by rw [QJ,Qo]; omega) λ x hx acc =>
  ⟨pP (w:=⟨[none],_⟩) (by show 0 < 1; decide),rfl,λ _=>am (Go "leave" x _ rfl)⟩
 rw [List.filter_eq_self.mpr (λ _ _=>rfl)] at e2;have e3:=Kk e2;have e4:mP (oE (cm [none] (lI asL (eSl (eV 1) (pS (eV 2)) pN)) (tgN 0) fg (lA tpF (aC (eC (.str "enter")) (aC (eV 0) aN))))) ⟨[some (.r a),some (.d (c.S p)),some (.d (.int (n:Nat))),none],s++[.fz (.list ((h.trail.drop n).reverse.map λ x=>rD c ("leave", x)))]⟩=some (.d (Rw c (wr "enter" (p.drop n))),s++[.fz (.list ((h.trail.drop n).reverse.map λ x=>rD c ("leave", x)))]):=by
  refine am (cH (iJ (ds:=(p.drop n).map c.s) (mh (uK rfl (rP rfl) rfl (Ci _ _)) rfl) (by rw [PJ,Qo]; omega) ?_));unfold wr;rw [QC];exact ou (η:=[.un]) c.s (λ x=>rD c ("enter", x)) _ λ x hx=>⟨[.val (c.s x)],rfl,Go "enter" x _ rfl⟩
 have er:(PyData.list ((h.trail.drop n).reverse.map λ x=>rD c ("leave", x)))=Rw c (wr "leave" (h.trail.drop n).reverse):=by
  unfold Rw wr;rw [QC]; rfl
 rw [er] at e3 e4;have el:lead h p=wr "leave" (h.trail.drop n).reverse++wr "enter" (p.drop n):=by unfold lead; rw [hn]
 have e5:=mI (o:=aH) e3 e4 rfl rfl (vO (by unfold wr; rw [PJ,QJ,Qo]; omega) (by unfold wr; rw [PJ,Qo]; omega));rw [<- el] at e5;refine ak (aO e5) ?_;have hc2:Lo c (s++[Cell.fz (Rw c (wr "leave" (h.trail.drop n).reverse))]) a h l:=by
  show (s++_)[a]?=_;rw [PM ha]; exact hc
 refine ak (N5 (w:=⟨[some (.r a),some (.d (c.S p)),some (.d (.int (n:Nat))),some (.d (Rw c (lead h p)))],_⟩) (i:=0) rfl hc2 (am rfl)) ?_;exact bJ (am rfl)
end
abbrev Fr (s s':Sto) (a:Nat):Prop:=Stp s s' (λ i=>i=a) (λ i=>i=a)
theorem An {s:Sto} {x:Cell} (h:Fr s s' a):Fr s (s'.set a x) a:=h.trans (lG rfl)
theorem xW {s:Sto} (t:Sto) (h:Fr s s' a):Fr s (s'++t) a:=h.trans (qm t)
theorem Lo.app {s:Sto} {h:Hd} (hc:Lo c s a h l) (t:Sto):Lo c (s++t) a h l:=by
 show (s++t)[a]?=_;rw [PM (fk hc)]; exact hc
theorem Lo.set {s:Sto} {h:Hd} (hc:Lo c s a h l) (h':Hd) (l':Option (Nat×Int)):Lo c (s.set a (.dct (kvL c h' l'))) a h' l':=BK hc
abbrev Ev (c:Sc) (a:Nat) (way mo x y:Int) (s6 s7 s8:Option D):MEn:=[some (.d c.d),some (.r a),some (.d (.int way)),some (.d (.int mo)),some (.d (.int x)),some (.d (.int y)),s6,s7,s8]
section
variable {c:Sc} {h:Hd} {l:Option (Nat×Int)} {w:Wd} {i a:Nat}
theorem Al (hi:w.η[i]?=some (some (.r a))) (hc:Lo c w.s a h l) (neg:Bool):dP (jB neg) (gQ (mV i) (mP (eC (.str "held")))) (mP (eC .none)) w=some (.d (.bool (if neg then h.held.isSome else h.held.isNone)),w.s):=by
 refine fb (OE hi hc) rfl rfl rfl ?_ rfl;cases h.held <;> cases neg <;> rfl
theorem JW (hi:w.η[i]?=some (some (.r a))) (hc:Lo c w.s a h l) (neg:Bool):dP (jB neg) (gQ (mV i) (mP (eC (.str "pressed")))) (mP (eC .none)) w=some (.d (.bool (if neg then h.pr.isSome else h.pr.isNone)),w.s):=by
 refine fb (OC hi hc) rfl rfl rfl ?_ rfl;cases h.pr <;> cases neg <;> rfl
abbrev LT (wd:Str) (i:Nat):MF:=rV (maC (mP (eC (.str wd))) (maC (gQ (mV i) (mP (eC (.str "held")))) maN))
theorem OV (wd:Str) (hi:w.η[i]?=some (some (.r a))) (hc:Lo c w.s a h l):LT wd i w=some (.d (.tuple [.str wd,kD c h.held]),w.s) :=
 Aa (ar (am rfl) (ar (OE (w:=⟨w.η,w.s⟩) hi hc) rfl)) rfl (by simp)
theorem Og (wd:Str) (hi:w.η[i]?=some (some (.r a))) (hc:Lo c w.s a h l):yT (maC (LT wd i) maN) w=some (.r w.s.length,w.s++[.lst [.d (.tuple [.str wd,kD c h.held])]]) :=
 Cb (ar (OV wd hi hc) rfl) (by simp)
abbrev JO (wd:Str) (i:Nat):MF:=Bo (yT (maC (LT wd i) maN)) (mCB ul (maC (dP (jB true) (gQ (mV i) (mP (eC (.str "held")))) (mP (eC .none))) maN))
theorem NS (wd:Str) (hi:w.η[i]?=some (some (.r a))) (hc:Lo c w.s a h l):JO wd i w=some (.r (w.s++[Cell.lst [.d (.tuple [.str wd,kD c h.held])]]).length,(w.s++[Cell.lst [.d (.tuple [.str wd,kD c h.held])]])++[.lst ((tell h wd).map λ r=>D.d (rD c r))]):=by
 have e0:mCB ul (maC (dP (jB true) (gQ (mV i) (mP (eC (.str "held")))) (mP (eC .none))) maN) ⟨w.η,w.s++[Cell.lst [.d (.tuple [.str wd,kD c h.held])]]⟩=some (.d (.int (if h.held.isSome then 1 else 0)),w.s++[Cell.lst [.d (.tuple [.str wd,kD c h.held])]]) :=
  MG (xs:=[.bool h.held.isSome]) (ar (Al (w:=⟨w.η,w.s++[Cell.lst [.d (.tuple [.str wd,kD c h.held])]]⟩) hi (hc.app _) true) rfl) rfl (by cases h.held <;> rfl)
 have e:=Ik (b:=h.held.isSome) (Og wd hi hc) e0 (nV _ _);rw [show JO wd i w=_ from e];unfold tell;cases h.held <;> rfl
theorem fzH (wd:Str) (hi:w.η[i]?=some (some (.r a))) (hc:Lo c w.s a h l):mFz (JO wd i) w=some (.d (Rw c (tell h wd)),(w.s++[Cell.lst [.d (.tuple [.str wd,kD c h.held])]])++[.fz (Rw c (tell h wd))]):=Kk (NS wd hi hc)
end
theorem Ks (p:List Nat):pIx (.list (p.map c.s++[.none])) (.int (-1 - (if p≠[] then 1 else 0)))=some (kD c p.getLast?):=by
 cases p with
 | nil=>rfl
 | cons a r =>
  rw [if_pos (by simp)];show atI ((a::r).map c.s++[PyData.none]) (-2)=_;unfold atI ixN;rw [if_neg (by decide),if_pos (by rw [PL,PJ,P8]; simp; omega),PC];rw [show (-2+(((a::r).map c.s++[PyData.none]).length:Int)).toNat=(a::r).length - 1 by rw [PL,PJ,P8]; simp; omega];rw [PM (by rw [PJ,P8]; omega),P9,<- List.getLast?_eq_getElem?,Rs (by simp)];rfl
section
variable {c:Sc} {s:Sto} {a:Nat} {h:Hd} {l:Option (Nat×Int)} {mo x y:Int} {p:List Nat}
theorem ev6 (hP:aB [c.d,.int x,.int y]=some (c.S p)) {way:Int} {r:Option MOut} {g:Wd->Option MOut} (h2:g ⟨Ev c a way mo x y (some (.d (c.S p))) none none,s⟩=r):aM (bR 6 (mP (lA aB (aC (eV 0) (aC (eV 4) (aC (eV 5) aN)))))) g ⟨Ev c a way mo x y none none none,s⟩=r :=
 ak (aO (am (aW (ai rfl (ai rfl (ai rfl rfl))) hP))) h2
theorem OR (ok:c.Ok) (hc:Lo c s a h l) (hP:aB [c.d,.int x,.int y]=some (c.S p)) (ht:h.trail.length<=7) (hp:p.length<=7) :
  ∃ s',bn [.d c.d,.r a,.d (.int 0),.d (.int mo),.d (.int x),.d (.int y)] s=some (.d (Rw c (mvR h p)),s')/\Lo c s' a (mvH h p) l/\Fr s s' a:=by
 cases hh:h.held with
 | some k =>
  have e1:mvR h p=tell h "move" := by unfold mvR; rw [if_neg (by rw [hh]; simp)]
  have e2:mvH h p=h:=by unfold mvH; rw [if_neg (by rw [hh]; simp)]
  have e3:Rw c (tell h "move")=.list [PyData.tuple [.str "move", kD c h.held]]:=by unfold tell; rw [hh]; rfl
  rw [e1,e2];refine ⟨s++[.fz (Rw c (tell h "move"))],?_,hc.app _,qm _⟩;refine bI rfl (show cF aB bq ⟨Ev c a 0 mo x y none none none,s⟩=_ from ev6 hP ?_);refine i9 (pQ (s:=s) (bX (bw (ao rfl rfl (eZ _ _)))) (i9 (pQ (s:=s) (jD ?_) (bJ ?_))))
  ·exact (Al (i:=1) (w:=⟨Ev c a 0 mo x y (some (.d (c.S p))) none none,s⟩) rfl hc true).trans (by rw [hh]; rfl)
  ·rw [e3];exact Kk (l:=[PyData.tuple [.str "move", kD c h.held]]) (Y:=λ d=>d) (Og (w:=⟨Ev c a 0 mo x y (some (.d (c.S p))) none none,s⟩) "move" rfl hc)
 | none =>
  have e1:mvR h p=lead h p++wr "move" (p.drop (p.length - 1)):=by unfold mvR; rw [if_pos hh]
  have e2:mvH h p={ h with trail:=p }:=by unfold mvH; rw [if_pos hh]
  rw [e1,e2];refine ⟨_,?_,(hc.app [Cell.fz (Rw c (wr "leave" (h.trail.drop (shN h.trail p).length).reverse))]).set { h with trail:=p } l,An (qm _)⟩;refine bI rfl (show cF aB bq ⟨Ev c a 0 mo x y none none none,s⟩=_ from ev6 hP ?_);refine i9 (pQ (s:=s) (bX (bw (ao rfl rfl (eZ _ _)))) (ak (kZ (s:=s) (jD ?_)) (bJ ?_)))
  ·exact (Al (i:=1) (w:=⟨Ev c a 0 mo x y (some (.d (c.S p))) none none,s⟩) rfl hc true).trans (by rw [hh]; rfl)
  ·refine mI (g0 (ar rfl (ar (am rfl) rfl)) (Jp ok hc ht hp)) (am (cH (iJ (ds:=(p.drop (p.length - 1)).map c.s) (mh (uK rfl (rP rfl) rfl (EG _)) rfl) (by rw [PJ,Qo]; omega) ?_))) rfl rfl (vO (m:=wr "move" (p.drop (p.length - 1))) (by have:=rW ht hp; omega) (by unfold wr; rw [PJ,Qo]; omega));unfold wr;rw [QC];exact ou (η:=[.un]) c.s (λ x=>rD c ("move", x)) _ λ x hx=>⟨[.val (c.s x)],rfl,Go "move" x _ rfl⟩
theorem OQ (ok:c.Ok) (hc:Lo c s a h l) (hP:aB [c.d,.int x,.int y]=some (c.S p)) (ht:h.trail.length<=7) (hp:p.length<=7) :
  ∃ s',bn [.d c.d,.r a,.d (.int 1),.d (.int mo),.d (.int x),.d (.int y)] s=some (.d (Rw c (dnR h p)),s')/\Lo c s' a (dnH h p) l/\Fr s s' a:=by
 cases hpr:h.pr with
 | some q =>
  have e1:dnR h p=[]:=by unfold dnR; rw [if_neg (by rw [hpr]; simp)]
  have e2:dnH h p=h:=by unfold dnH; rw [if_neg (by rw [hpr]; simp)]
  rw [e1,e2];refine ⟨s,?_,hc,Stp.refl⟩;refine bI rfl (show cF aB bq ⟨Ev c a 1 mo x y none none none,s⟩=_ from ev6 hP ?_);refine ak (kZ (s:=s) (bX (bw (ao rfl rfl (eZ _ _))))) (i9 (pQ (s:=s) (bX (bw (ao rfl rfl (eZ _ _)))) ?_));refine ak (aO (am (cH (eX (by simp))))) (i9 (pQ (s:=s) (jD ?_) (bJ (am (cH (eX (by simp)))))));exact (JW (i:=1) (w:=⟨Ev c a 1 mo x y (some (.d (c.S p))) (some (.d (.list []))) none,s⟩) rfl hc true).trans (by rw [hpr]; rfl)
 | none =>
  have hc1:=hc.set { h with pr:=some p } l;have hd:dnH h p=yV h p:=by unfold dnH; rw [if_pos hpr]
  have st0:∀ (r:Option MOut) (g:Wd->Option MOut),g ⟨Ev c a 1 mo x y (some (.d (c.S p))) (some (.d (.list []))) none,s.set a (.dct (kvL c { h with pr:=some p } l))⟩=r->(aM (bR 7 (mP (oE (λ η=>(aN η).bind gL))))
    (aM (mIf (mB (dP (jB true) (gQ (mV 1) (mP (eC (.str "pressed")))) (mP (eC .none)))) (fw (mP (oE (λ η=>(aN η).bind gL)))) mNx)
    (aM (jC (mV 1) (mP (eC (.str "pressed"))) (mP (eV 6))) g))) ⟨Ev c a 1 mo x y (some (.d (c.S p))) none none,s⟩=r:=λ r g hg=>by
   refine ak (aO (am (cH (eX (by simp))))) (ak (kZ (s:=s) (jD ?_)) (ak (Lr (w:=⟨Ev c a 1 mo x y (some (.d (c.S p))) (some (.d (.list []))) none,s⟩) (i:=1) (p:=some p) rfl hc (am rfl)) hg));exact (JW (i:=1) (w:=⟨Ev c a 1 mo x y (some (.d (c.S p))) (some (.d (.list []))) none,s⟩) rfl hc true).trans (by rw [hpr]; rfl)
  cases hh:h.held with
  | some k =>
   have e0:yV h p={ h with pr:=some p }:=by unfold yV; rw [if_neg (by rw [hh]; simp)]
   have e1:dnR h p=tell { h with pr:=some p } "down" := by unfold dnR; rw [if_pos hpr,if_neg (by rw [hh]; simp),e0]; rfl
   rw [e1,hd,e0];refine ⟨_,?_,(hc1.app [Cell.lst [.d (.tuple [.str "down", kD c h.held])]]).app [.fz (Rw c (tell { h with pr:=some p } "down"))],xW _ (xW _ (lG rfl))⟩;refine bI rfl (show cF aB bq ⟨Ev c a 1 mo x y none none none,s⟩=_ from ev6 hP ?_);refine ak (kZ (s:=s) (bX (bw (ao rfl rfl (eZ _ _))))) (i9 (pQ (s:=s) (bX (bw (ao rfl rfl (eZ _ _)))) (st0 _ _ ?_)));refine ak (kZ (s:=s.set a (.dct (kvL c { h with pr:=some p } l))) (jD ?_)) (bJ ?_)
   ·exact (Al (i:=1) (w:=⟨Ev c a 1 mo x y (some (.d (c.S p))) (some (.d (.list []))) none,_⟩) rfl hc1 false).trans (by show some (D.d (.bool h.held.isNone),_)=_; rw [hh]; rfl)
   ·exact mI (am rfl) (fzH (h:={ h with pr:=some p }) (i:=1) (w:=⟨Ev c a 1 mo x y (some (.d (c.S p))) (some (.d (.list []))) none,_⟩) "down" rfl hc1) rfl rfl (vO (l:=[]) (m:=tell { h with pr:=some p } "down") (by simp) (by have:=rE { h with pr:=some p } "down"; omega))
  | none =>
   have e0:yV h p={ h with pr:=some p,trail:=p,held:=p.getLast? }:=by unfold yV; rw [if_pos hh]
   have e1:dnR h p=lead { h with pr:=some p } p++tell (yV h p) "down" := by unfold dnR; rw [if_pos hpr,if_pos hh]
   rw [e1,hd,e0];have hc2:=(hc1.app [Cell.fz (Rw c (wr "leave" (h.trail.drop (shN h.trail p).length).reverse))]).set { h with pr:=some p,trail:=p } l;have hc3:=hc2.set { h with pr:=some p,trail:=p,held:=p.getLast? } l;refine ⟨_,?_,(hc3.app [Cell.lst [.d (.tuple [.str "down", kD c p.getLast?])]]).app [.fz (Rw c (tell { h with pr:=some p,trail:=p,held:=p.getLast? } "down"))],xW _ (xW _ (An (An (xW _ (lG rfl)))))⟩;refine bI rfl (show cF aB bq ⟨Ev c a 1 mo x y none none none,s⟩=_ from ev6 hP ?_);refine ak (kZ (s:=s) (bX (bw (ao rfl rfl (eZ _ _))))) (i9 (pQ (s:=s) (bX (bw (ao rfl rfl (eZ _ _)))) (st0 _ _ ?_)));have ei:ul [PyData.bool (!decide (p=[]))]=some (Qx (if p≠[] then 1 else 0)):=by
    by_cases e:p=[] <;> simp [ul,e]
   have e7:=Hx (w:=⟨Ev c a 1 mo x y (some (.d (c.S p))) (some (.d (Rw c (lead { h with pr:=some p } p)))) none,_⟩) (i:=1) (p:=p.getLast?) (e:=mP (L2.PU.l2 pIx (L2.PU.l2 aH (eV 6) (oE (λ η=>((aC (eC .none) aN) η).bind gL))) (L2.PU.l2 wB (l1 sG (eC (.int 1))) (lA ul (aC (L2.PU.l2 pNe (eV 6) (oE (λ η=>(aN η).bind gL))) aN))))) rfl hc2
    (am (ao (ao rfl (cH (eX (by simp))) (D0 (a:=p.map c.s) (b:=[.none]) (by rw [PJ]; simp; omega))) (ao rfl (aW (ai (ao rfl (cH (eX (by simp))) (ok.neS p [])) rfl) ei) rfl) (Ks p)))
   refine ak (pQ (s:=s.set a (.dct (kvL c { h with pr:=some p } l))) (jD ?_) (ak (aO (g0 (ar rfl (ar (am rfl) rfl)) (Jp ok hc1 ht hp))) e7)) (bJ ?_)
   ·exact (Al (i:=1) (w:=⟨Ev c a 1 mo x y (some (.d (c.S p))) (some (.d (.list []))) none,_⟩) rfl hc1 false).trans (by show some (D.d (.bool h.held.isNone),_)=_; rw [hh]; rfl)
   ·exact mI (am rfl) (fzH (h:={ h with pr:=some p,trail:=p,held:=p.getLast? }) (i:=1) (w:=⟨Ev c a 1 mo x y (some (.d (c.S p))) (some (.d (Rw c (lead { h with pr:=some p } p)))) none,_⟩) "down" rfl hc3) rfl rfl (vO (by have:=rW (h:={ h with pr:=some p }) ht hp; omega) (by have:=rE { h with pr:=some p,trail:=p,held:=p.getLast? } "down"; omega))
end
theorem IJ (f:Nat->PD):∀ (p:List Nat) (k:Nat),qa (p.map f) k=(p.zipIdx k).map λ e=>PyData.tuple [.int (e.2:Nat),f e.1]
 | [],_=>rfl
 | x::r,k=>by
  rw [P2,Rt,P2,<- IJ f r (k+1)];rfl
theorem CF:∀ (p q:List Nat) (k:Nat) (P:Nat×Nat->Bool),(∀ e∈p.zipIdx k,P e=decide (p.take (e.2 - k+1)=q.take (e.2 - k+1)))->((p.zipIdx k).filter P).map (·.1)=shN q p
 | [],q,k,P,_=>by cases q <;> rfl
 | x::r,[],k,P,h=>by
  have hz:((x::r).zipIdx k).filter P=[]:=by
   rw [List.filter_eq_nil_iff];intro e he;rw [h e he]
   simp
  rw [hz]; rfl
 | x::r,y::t,k,P,h=>by
  have h0:=h (x,k) (by rw [Rt]; exact Qc);rw [Rt];by_cases e:x=y
  ·subst e;have ih:=CF r t (k+1) P λ e he=>by
    have hk:=(List.mk_mem_zipIdx_iff_le_and_getElem?_sub (x:=e.1) (i:=e.2)).mp he;rw [h e (by rw [Rt]; exact P3 _ he),show e.2 - k+1=(e.2 - (k+1)+1)+1 by omega,Rz,Rz]
    simp
   have hp:P (x,k)=true:=by rw [h0]; simp
   rw [RK hp,P2,ih,shN,if_pos rfl]
  ·have hz:(((x,k)::r.zipIdx (k+1))).filter P=[]:=by
    rw [<- Rt,List.filter_eq_nil_iff];intro e' he;rw [h e' he,Rz,Rz];simp [e]
   rw [hz,shN,if_neg (λ z=>e z.symm)]; rfl
def St (s0:Sto) (x y z:Cell):Sto:=s0++[x,y,z]
section
variable {s0:Sto} {x y z v:Cell} {L a:Nat} (hL:s0.length=L)
include hL
theorem St1:(St s0 x y z)[L+1]?=some y:=by subst hL; simp [St]
theorem St2:(St s0 x y z)[L+2]?=some z:=by subst hL; simp [St]
theorem Ss1:(St s0 x y z).set (L+1) v=St s0 x v z:=by subst hL; simp [St]
theorem Ss2:(St s0 x y z).set (L+2) v=St s0 x y v:=by subst hL; simp [St]
theorem Ssa (h:a < L):(St s0 x y z).set a v=St (s0.set a v) x y z:=by
 subst hL;unfold St;rw [List.set_append_left _ _ h]
end
theorem NB (l:List Nat) (k:Nat):pSl (c.S l) none (some ((k:Int)+1))=some (c.S (l.take (k+1))):=by
 show some (PyData.list _)=_;rw [zh,show ((k:Int)+1)=((k+1:Nat):Int) by omega,M7]; rfl
theorem IA {l:List Nat} {b:Nat} (h:l.getLast?=some b):pIx (c.S l) (.int (-1))=some (c.s b):=by
 have:=FX (c:=c) l
 rw [h] at this;cases l with
 | nil=>cases h
 | cons x r=>rw [if_pos (by simp)] at this; exact this
theorem tg2 {s:Sto} {η:MEn} {y:PD} (h:2<=η.length):mTg [0,1] (tgT (bG (tgN 0) (bG (tgN 1) kX))) ⟨η,s⟩ (.tuple [x,y])=some ⟨(η.set 0 (some (.d x))).set 1 (some (.d y)),s⟩:=by
 match η,h with
 | e0::e1::r,_=>rfl
section
variable {c:Sc} {s:Sto} {a:Nat} {h:Hd} {l:Option (Nat×Int)} {mo x y:Int} {p q:List Nat}
abbrev LF:MF:=mcL [none,none,some 1,some 6] (iPu (λ η=>((aC (eV 6) aN) η).bind enL)) [0,1] (tgT (bG (tgN 0) (bG (tgN 1) kX))) (mB (dP pEq (mP (eSl (eV 3) pN (pS (L2.PU.l2 aH (eV 0) (eC (.int 1)))))) (mSl (gQ (mV 2) (mP (eC (.str "pressed")))) pN (pS (L2.PU.l2 aH (eV 0) (eC (.int 1))))))) (mP (eV 1))
theorem KR (ok:c.Ok) (hc:Lo c s a h l) (hq:h.pr=some q) (hp:p.length<=7) {s7 s8:Option D}:LF ⟨Ev c a 2 mo x y (some (.d (c.S p))) s7 s8,s⟩=some (.r s.length,s++[.lst ((shN q p).map λ x=>D.d (c.s x))]):=by
 have h1:iPu (λ η=>((aC (eV 6) aN) η).bind enL) ⟨Ev c a 2 mo x y (some (.d (c.S p))) s7 s8,s⟩=some ((p.zipIdx).map λ e=>PyData.tuple [.int (e.2:Nat),c.s e.1],s):=Ak (dj (ai rfl rfl) (by show some (qa (p.map c.s) 0)=_; rw [IJ]));have e:=zV (mp:=[none,none,some 1,some 6]) (ks:=[0,1]) (t:=tgT (bG (tgN 0) (bG (tgN 1) kX))) (p:=mB (dP pEq (mP (eSl (eV 3) pN (pS (L2.PU.l2 aH (eV 0) (eC (.int 1)))))) (mSl (gQ (mV 2) (mP (eC (.str "pressed")))) pN (pS (L2.PU.l2 aH (eV 0) (eC (.int 1))))))) (f:=mP (eV 1)) (λ e:Nat×Nat=>PyData.tuple [.int (e.2:Nat),c.s e.1]) (λ e=>decide (p.take (e.2+1)=q.take (e.2+1))) (λ e=>c.s e.1) (λ e=>[some (.d (.int (e.2:Nat))),some (.d (c.s e.1)),some (.r a),some (.d (c.S p))]) p.zipIdx h1 (by rw [List.length_zipIdx]; omega) λ e he acc=>by
  refine ⟨tg2 (η:=[none,none,some (.r a),some (.d (c.S p))]) (by simp),jD (fb (am (uK rfl rfl (rP (i:=(e.2:Int)+1) (ao rfl rfl rfl)) (NB _ _))) (EE (OC (i:=2) (w:=⟨[some (.d (.int (e.2:Nat))),some (.d (c.s e.1)),some (.r a),some (.d (c.S p))],s++[.lst acc]⟩) rfl (hc.app _)) (show pD _ (.d (oL c h.pr))=some (c.S q) by rw [hq]; rfl) rfl (rP (i:=(e.2:Int)+1) (ao rfl rfl rfl)) (NB _ _)) rfl rfl (Lw ok _ _) rfl),λ _=>am rfl⟩
 have ez:(p.zipIdx.filter λ e=>decide (p.take (e.2+1)=q.take (e.2+1))).map (λ e=>D.d (c.s e.1))=(shN q p).map λ x=>D.d (c.s x):=by
  rw [<- CF p q 0 (λ e=>decide (p.take (e.2+1)=q.take (e.2+1))) (λ e _=>rfl),QC]; rfl
 rw [ez] at e;exact e
end
abbrev U (c:Sc) (rows:List (Str×Nat)):Cell:=.lst (rows.map λ r=>D.d (rD c r))
abbrev Ae:MF:=mOp pIx (mFz (mV 8)) (mP (l1 sG (eC (.int 1))))
abbrev KU (wd:Str):MF:=vB (mV 7) (rV (maC (mP (eC (.str wd))) (maC Ae maN)))
section
variable {c:Sc} {s0:Sto} {L a b:Nat} {X Y Z:Cell} {η:MEn} {both:List Nat} {rows:List (Str×Nat)} (hL:s0.length=L)
include hL
theorem Om (hb:both.getLast?=some b) (hη:η[8]?=some (some (.r (L+2)))):Ae ⟨η,St s0 X Y (.lst (both.map λ x=>D.d (c.s x)))⟩=some (.d (c.s b),St s0 X Y (.fz (c.S both))):=by
 have e:=Ab (f:=mV 8) (pO (w:=⟨η,St s0 X Y (.lst (both.map λ x=>D.d (c.s x)))⟩) hη) (St2 hL) (wf c.s both);rw [Ss2 hL] at e;exact mI e (am rfl) rfl rfl (IA hb)
theorem Iw (hb:both.getLast?=some b) (hη:η[8]?=some (some (.r (L+2)))):Ae ⟨η,St s0 X Y (.fz (c.S both))⟩=some (.d (c.s b),St s0 X Y (.fz (c.S both))):=by
 have e:mFz (mV 8) ⟨η,St s0 X Y (.fz (c.S both))⟩=some (.d (c.S both),St s0 X Y (.fz (c.S both))):=by
  unfold mFz;rw [pO (w:=⟨η,St s0 X Y (.fz (c.S both))⟩) hη,PC];dsimp only;rw [St2 hL]
 exact mI e (am rfl) rfl rfl (IA hb)
theorem Jb (wd:Str) (hl:Ae ⟨η,St s0 X (U c rows) Z⟩=some (.d (c.s b),St s0 X (U c rows) (.fz (c.S both)))) (h7:η[7]?=some (some (.r (L+1)))) (hr:rows.length<=1000):qX (KU wd) ⟨η,St s0 X (U c rows) Z⟩=some (.nx ⟨η,St s0 X (U c (rows++[(wd,b)])) (.fz (c.S both))⟩):=by
 have eT:rV (maC (mP (eC (.str wd))) (maC Ae maN)) ⟨η,St s0 X (U c rows) Z⟩=some (.d (.tuple [.str wd,c.s b]),St s0 X (U c rows) (.fz (c.S both))):=Aa (ds:=[.d (.str wd),.d (c.s b)]) (ar (am rfl) (ar hl rfl)) rfl (by simp);have e:=Ac (ds:=rows.map λ r=>D.d (rD c r)) (pO (w:=⟨η,St s0 X (U c rows) Z⟩) h7) (St1 hL) eT (St1 hL) (by rw [PJ]; omega);rw [Ss1 hL] at e;refine qw (d:=.d .none) (show KU wd _=_ from e.trans ?_);unfold U;rw [QG]; rfl
end
theorem Pa {b:Nat} (h:lDb l b mo=true):nxL l mo (some b)=none:=if_pos h
theorem Pb {b:Nat} (h:lDb l b mo=false):nxL l mo (some b)=some (b,mo):=if_neg (by rw [h]; decide)
theorem Pp {b:Nat} (h:lDb l b mo=true):DH l mo (some b)=[(("click" : Str),b),(("double" : Str),b)]:=if_pos h
theorem Pq {b:Nat} (h:lDb l b mo=false):DH l mo (some b)=[(("click" : Str),b)]:=if_neg (by rw [h]; decide)
theorem Pw {f g k:MTF} {b1 b2 b3:Bool} (h1:f w=some (b1,w.s)) (h2:b1=true->g w=some (b2,w.s)) (h3:b1=true->b2=true->k w=some (b3,w.s)):t6 f (t6 g k) w=some (b1&&(b2&&b3),w.s):=by
 cases b1 with
 | false=>exact Ef h1
 | true =>
  refine (Hg h1 (r:=some (b2&&b3,w.s)) ?_);cases b2 with
  | false=>exact Ef (w:=⟨w.η,w.s⟩) (h2 rfl)
  | true=>exact Hg (w:=⟨w.η,w.s⟩) (h2 rfl) (h3 rfl rfl)
abbrev Ny:MTF:=t6 (mB (dP (jB true) (gQ (mV 1) (mP (eC (.str "last")))) (mP (eC .none)))) (t6 (mB (dP pEq (mOp pIx (gQ (mV 1) (mP (eC (.str "last")))) (mP (eC (.int 0)))) Ae)) (mB (dP pLe (mOp wB (mP (eV 3)) (mOp pIx (gQ (mV 1) (mP (eC (.str "last")))) (mP (eC (.int 1))))) (mP (eC (.int 20))))))
section
variable {c:Sc} {s0:Sto} {L a b:Nat} {X Y:Cell} {h:Hd} {l:Option (Nat×Int)} {mo x y:Int} {p both:List Nat} {rows:List (Str×Nat)}
abbrev E8 (c:Sc) (a:Nat) (mo x y:Int) (p:List Nat) (L:Nat):MEn:=Ev c a 2 mo x y (some (.d (c.S p))) (some (.r (L+1))) (some (.r (L+2)))
theorem LU (ok:c.Ok) (hL:s0.length=L) (hc:Lo c s0 a h l) (hb:both.getLast?=some b):Ny ⟨E8 c a mo x y p L,St s0 X Y (.fz (c.S both))⟩=some (lDb l b mo,St s0 X Y (.fz (c.S both))):=by
 have hc':Lo c (St s0 X Y (.fz (c.S both))) a h l:=hc.app _;have al:=Pv (w:=⟨E8 c a mo x y p L,St s0 X Y (.fz (c.S both))⟩) (i:=1) rfl hc';cases l with
 | none=>exact Ef (jD (fb al rfl rfl rfl rfl rfl))
 | some e =>
  have ⟨z,m⟩:=e;have a0:mOp pIx (gQ (mV 1) (mP (eC (.str "last")))) (mP (eC (.int 0))) ⟨E8 c a mo x y p L,St s0 X Y (.fz (c.S both))⟩=some (.d (c.s z),St s0 X Y (.fz (c.S both))):=mI al rfl rfl rfl rfl;have a1:mOp pIx (gQ (mV 1) (mP (eC (.str "last")))) (mP (eC (.int 1))) ⟨E8 c a mo x y p L,St s0 X Y (.fz (c.S both))⟩=some (.d (.int m),St s0 X Y (.fz (c.S both))):=mI al rfl rfl rfl rfl;exact Pw (b1:=true) (b2:=decide (z=b)) (b3:=decide (mo - m<=20)) (jD (fb al rfl rfl rfl rfl rfl)) (λ _=>jD (fb a0 (Iw hL hb rfl) rfl rfl (ok.eqs z b) rfl)) (λ _ _=>jD (fb (mI (am rfl) a1 rfl rfl rfl) rfl rfl rfl rfl rfl))
theorem M8 (ok:c.Ok) (hL:s0.length=L) (hc:Lo c s0 a h l) (hb:both.getLast?=some b) (hr:rows.length<=900) :
  aM (qX (KU "click")) (mIf Ny (aM (qX (KU "double")) (jC (mV 1) (mP (eC (.str "last"))) (mP (eC .none)))) (jC (mV 1) (mP (eC (.str "last"))) (rV (maC Ae (maC (mP (eV 3)) maN))))) ⟨E8 c a mo x y p L,St s0 X (U c rows) (.lst (both.map λ x=>D.d (c.s x)))⟩
   = some (.nx ⟨E8 c a mo x y p L,St (s0.set a (.dct (kvL c h (nxL l mo (some b))))) X (U c (rows++DH l mo (some b))) (.fz (c.S both))⟩):=by
 have ha:a < L:=by rw [<- hL]; exact fk hc
 refine ak (Jb hL "click" (Om hL hb rfl) rfl (by omega)) ?_;have t:=LU (X:=X) (Y:=U c (rows++[(("click" : Str),b)])) (mo:=mo) (x:=x) (y:=y) (p:=p) ok hL hc hb;cases hd:lDb l b mo with
 | true =>
  rw [hd] at t;have hc':Lo c (St s0 X (U c ((rows++[(("click" : Str),b)])++[(("double" : Str),b)])) (.fz (c.S both))) a h l:=hc.app _;refine pQ t (ak (Jb hL "double" (Iw hL hb rfl) rfl (by rw [PL]; simp; omega)) ?_);refine (Ls (w:=⟨E8 c a mo x y p L,St s0 X (U c ((rows++[(("click" : Str),b)])++[(("double" : Str),b)])) (.fz (c.S both))⟩) (i:=1) (p:=none) rfl hc' (am rfl)).trans ?_;rw [Ssa hL ha];rw [Pa hd,Pp hd,QP]; rfl
 | false =>
  rw [hd] at t;have hc':Lo c (St s0 X (U c (rows++[(("click" : Str),b)])) (.fz (c.S both))) a h l:=hc.app _;refine Il t ?_;refine (Ls (w:=⟨E8 c a mo x y p L,St s0 X (U c (rows++[(("click" : Str),b)])) (.fz (c.S both))⟩) (i:=1) (p:=some (b,mo)) rfl hc' (Aa (ds:=[.d (c.s b),.d (.int mo)]) (ar (Iw hL hb rfl) (ar (am rfl) rfl)) rfl (by simp))).trans ?_;rw [Ssa hL ha];rw [Pb hd,Pq hd]
theorem Hs (ok:c.Ok) (hL:s0.length=L) (hc:Lo c s0 a h l) (ht:h.trail.length<=7) (hp:p.length<=7) (hr:rows.length<=900) {Z:Cell} {s8:Option D}:∃ s',fw (mOp aH (mFz (mV 7)) (g6 bq (maC (mV 1) (maC (mP (eV 6)) maN)))) ⟨Ev c a 2 mo x y (some (.d (c.S p))) (some (.r (L+1))) s8,St s0 X (U c rows) Z⟩=some (.rt (.d (Rw c (rows++lead h p))) s')/\Lo c s' a { h with trail:=p } l/\Fr s0 s' a:=by
 have e1:=Ab (f:=mV 7) (pO (w:=⟨Ev c a 2 mo x y (some (.d (c.S p))) (some (.r (L+1))) s8,St s0 X (U c rows) Z⟩) (i:=7) rfl) (St1 hL) (wf (rD c) rows);rw [Ss1 hL] at e1;have hc':Lo c (St s0 X (.fz (Rw c rows)) Z) a h l:=hc.app _;refine ⟨_,bJ (mI e1 (g0 (ar rfl (ar (am rfl) rfl)) (Jp ok hc' ht hp)) rfl rfl (vO (l:=rows) (by omega) (by have:=rW ht hp; omega))),(hc'.app _).set _ _,An (xW _ (qm _))⟩
end
section
variable {c:Sc} {s:Sto} {a:Nat} {h:Hd} {l:Option (Nat×Int)} {mo x y:Int} {p:List Nat}
theorem Mt (hk:okL l h):okL l { h with pr:=none,held:=none }:=by
 unfold okL at *;exact hk
theorem OP (ok:c.Ok) (hc:Lo c s a h l) (hP:aB [c.d,.int x,.int y]=some (c.S p)) (ht:h.trail.length<=7) (hp:p.length<=7) (hk:okL l h) :
  ∃ s' l',bn [.d c.d,.r a,.d (.int 2),.d (.int mo),.d (.int x),.d (.int y)] s=some (.d (Rw c (upR h p mo)),s')/\Lo c s' a (upH h p mo) l'/\okL l' (upH h p mo)/\Fr s s' a:=by
 cases hpr:h.pr with
 | none =>
  have e1:upR h p mo=[]:=by unfold upR; rw [hpr]
  have e2:upH h p mo=h:=by unfold upH; rw [hpr]
  rw [e1,e2];refine ⟨s,l,?_,hc,hk,Stp.refl⟩;refine bI rfl (show cF aB bq ⟨Ev c a 2 mo x y none none none,s⟩=_ from ev6 hP ?_);refine ak (kZ (s:=s) (bX (bw (ao rfl rfl (eZ _ _))))) (ak (kZ (s:=s) (bX (bw (ao rfl rfl (eZ _ _))))) (i9 (pQ (s:=s) (jD ?_) (bJ (am (cH (eX (by simp))))))));exact (JW (i:=1) (w:=⟨Ev c a 2 mo x y (some (.d (c.S p))) none none,s⟩) rfl hc false).trans (by rw [hpr]; rfl)
 | some q =>
  have ha:=fk hc;generalize hX:Cell.lst [D.d (.tuple [.str "up", kD c h.held])]=X;have e7:=NS (w:=⟨Ev c a 2 mo x y (some (.d (c.S p))) none none,s⟩) (i:=1) "up" rfl hc;rw [hX] at e7;have el:(s++[X]).length=s.length+1:=by simp
  rw [show (Wd.s ⟨Ev c a 2 mo x y (some (.d (c.S p))) none none,s⟩++[X]).length=s.length+1 from el] at e7;have hc2:Lo c ((s++[X])++[U c (tell h "up")]) a h l:=(hc.app _).app _;have e8:=KR (mo:=mo) (x:=x) (y:=y) (p:=p) (s7:=some (.r (s.length+1))) (s8:=none) ok hc2 hpr hp;have el2:((s++[X])++[U c (tell h "up")]).length=s.length+2:=by simp
  have es:((s++[X])++[U c (tell h "up")])++[Cell.lst ((shN q p).map λ x=>D.d (c.s x))]=St s X (U c (tell h "up")) (.lst ((shN q p).map λ x=>D.d (c.s x))):=by simp [St]
  rw [el2,es] at e8;have hc3:Lo c (St s X (U c (tell h "up")) (.lst ((shN q p).map λ x=>D.d (c.s x)))) a h l:=hc.app _;have p1:=Lr (w:=⟨E8 c a mo x y p s.length,_⟩) (i:=1) (p:=none) (e:=mP (eC .none)) rfl hc3 (am rfl);rw [Ssa rfl ha] at p1;have hc4:=hc.set { h with pr:=none } l;have l4:(s.set a (.dct (kvL c { h with pr:=none } l))).length=s.length:=Qa;have p2:=Hx (w:=⟨E8 c a mo x y p s.length,_⟩) (i:=1) (p:=none) (e:=mP (eC .none)) rfl (hc4.app [X,U c (tell h "up"),.lst ((shN q p).map λ x=>D.d (c.s x))]) (am rfl);rw [show s.set a (.dct (kvL c { h with pr:=none } l))++[X,U c (tell h "up"),.lst ((shN q p).map λ x=>D.d (c.s x))]=St (s.set a (.dct (kvL c { h with pr:=none } l))) X (U c (tell h "up")) (.lst ((shN q p).map λ x=>D.d (c.s x))) from rfl,Ssa l4 ha,Ro] at p2;have hc5:Lo c (s.set a (.dct (kvL c { h with pr:=none,held:=none } l))) a { h with pr:=none,held:=none } l:=hc.set _ _;have l5:(s.set a (.dct (kvL c { h with pr:=none,held:=none } l))).length=s.length:=Qa;have tl:=rE h "up";have st1:∀ (r:Option MOut) (g:Wd->Option MOut),g ⟨E8 c a mo x y p s.length,St (s.set a (.dct (kvL c { h with pr:=none,held:=none } l))) X (U c (tell h "up")) (.lst ((shN q p).map λ x=>D.d (c.s x)))⟩=r ->
    (aM (mIf (mB (dP (jB false) (gQ (mV 1) (mP (eC (.str "pressed")))) (mP (eC .none)))) (fw (mP (oE (λ η=>(aN η).bind gL)))) mNx)
    (aM (bR 7 (JO "up" 1)) (aM (bR 8 LF) (aM (jC (mV 1) (mP (eC (.str "pressed"))) (mP (eC .none))) (aM (jC (mV 1) (mP (eC (.str "held"))) (mP (eC .none))) g))))) ⟨Ev c a 2 mo x y (some (.d (c.S p))) none none,s⟩=r:=λ r g hg =>
   ak (kZ (s:=s) (jD ((JW (i:=1) (w:=⟨Ev c a 2 mo x y (some (.d (c.S p))) none none,s⟩) rfl hc false).trans (by rw [hpr]; rfl)))) (ak (aO e7) (ak (aO e8) (ak p1 (ak p2 hg))))
  have fr0:Fr s (s.set a (.dct (kvL c { h with pr:=none,held:=none } l))) a:=lG rfl;have tne:mB (dP pNe (mV 8) (mP (oE (λ η=>(aN η).bind gL)))) ⟨E8 c a mo x y p s.length,St (s.set a (.dct (kvL c { h with pr:=none,held:=none } l))) X (U c (tell h "up")) (.lst ((shN q p).map λ x=>D.d (c.s x)))⟩=some (!decide (shN q p=[]),St (s.set a (.dct (kvL c { h with pr:=none,held:=none } l))) X (U c (tell h "up")) (.lst ((shN q p).map λ x=>D.d (c.s x)))) :=
   jD (fb (x:=c.S (shN q p)) (y:=c.S []) (pO rfl) (am (cH (eX (by simp)))) (by unfold lD; dsimp only; rw [St2 l5]; dsimp only; rw [wf]; rfl) rfl (ok.neS _ _) rfl)
  have eR:upR h p mo=(tell h "up" ++ upC h mo (upN q p))++lead (xE h mo (upN q p)) p:=by unfold upR; rw [hpr]
  have eH:upH h p mo={ xE h mo (upN q p) with trail:=p }:=by unfold upH; rw [hpr]
  have hk0:=Mt hk;rw [eR,eH,LQ];cases hs:(shN q p).getLast? with
  | none =>
   have hn:shN q p=[]:=List.getLast?_eq_none_iff.mp hs;rw [show (!decide (shN q p=[]))=false by rw [hn]; rfl] at tne;obtain ⟨s',r1,r2,r3⟩:=Hs (mo:=mo) (x:=x) (y:=y) (X:=X) (Z:=.lst ((shN q p).map λ x=>D.d (c.s x))) (s8:=some (.r (s.length+2))) (rows:=tell h "up") ok l5 hc5 ht hp (by omega);refine ⟨s',l,?_,r2,hk0,fr0.trans r3⟩;refine bI rfl (show cF aB bq ⟨Ev c a 2 mo x y none none none,s⟩=_ from ev6 hP ?_);refine ak (kZ (s:=s) (bX (bw (ao rfl rfl (eZ _ _))))) (ak (kZ (s:=s) (bX (bw (ao rfl rfl (eZ _ _))))) (st1 _ _ (ak (kZ tne) ?_)));rw [show (tell h "up" ++ upC h mo [])=tell h "up" from Qr _];exact r1
  | some b =>
   have hn:shN q p≠[]:=λ e=>by rw [e] at hs; cases hs
   rw [show (!decide (shN q p=[]))=true by rw [decide_eq_false hn]; rfl] at tne;have ck:=M8 (mo:=mo) (x:=x) (y:=y) (p:=p) (X:=X) (rows:=tell h "up") ok l5 hc5 hs (by omega);rw [Ro] at ck;have hc6:Lo c (s.set a (.dct (kvL c { h with pr:=none,held:=none } (nxL l mo (some b))))) a { h with pr:=none,held:=none } (nxL l mo (some b)):=hc.set _ _;have dl:(DH l mo (some b)).length<=2:=by unfold DH; dsimp only; split <;> simp
   obtain ⟨s',r1,r2,r3⟩:=Hs (mo:=mo) (x:=x) (y:=y) (X:=X) (Z:=.fz (c.S (shN q p))) (s8:=some (.r (s.length+2))) (rows:=tell h "up" ++ DH l mo (some b)) ok (Qa ..) hc6 ht hp (by rw [PL]; omega);have hd:=M5 hk0 b mo;have eC:upC h mo [b]=DH l mo (some b):=by
    show nN { h with pr:=none,held:=none } b mo=_;unfold nN DH;rw [hd]
   refine ⟨s',nxL l mo (some b),?_,r2,?_,(show Fr s _ a from lG rfl).trans r3⟩
   ·refine bI rfl (show cF aB bq ⟨Ev c a 2 mo x y none none none,s⟩=_ from ev6 hP ?_);refine ak (kZ (s:=s) (bX (bw (ao rfl rfl (eZ _ _))))) (ak (kZ (s:=s) (bX (bw (ao rfl rfl (eZ _ _))))) (st1 _ _ (ak (pQ tne ck) ?_)));rw [eC];exact r1
   ·show okL (nxL l mo (some b)) { ri { h with pr:=none,held:=none } b mo with trail:=p };unfold ri;rw [hd];show okL (if lDb l b mo=true then none else some (b,mo)) _;cases hb:lDb l b mo with
    | true=>rw [if_pos rfl]; exact .inr rfl
    | false=>rw [if_neg (by decide)]; exact ⟨rfl,rfl,rfl⟩
end
def isB (st:List (Nat×Nat)) (x:Nat):Bool:=st.any λ e=>decide (e.1=x)
def fgt (B:Nat->Bool) (h:Hd):Hd:={ h with trail:=h.trail.filter B,pr:=h.pr.map (·.filter B),held:=h.held.filter B }
def lost (B:Nat->Bool) (h:Hd):List Nat:=match h.held with | some x=>if B x=true then [] else [x] | none=>[]
section
variable {c:Sc} (ok:c.Ok)
include ok
theorem Jr (x:Nat):dI [c.d,c.s x]=some (.bool (isB c.st x)):=by
 have e:cm [none,some 1] (lI qk (eV 0)) (tgN 0) fg (L2.PU.l2 pEq (L2.PU.l2 pIx (eV 0) (eC (.int 0))) (eV 1)) [.val c.d,.val (c.s x)]=some ((c.st.map λ e=>decide (e.1=x)).map PyData.bool):=by
  refine iJ (ds:=c.st.map c.box) (mh rfl rfl) (by rw [PJ]; have:=ok.len; omega) ?_;rw [QC];exact ou (η:=[.un,.val (c.s x)]) c.box (λ e=>.bool (decide (e.1=x))) c.st λ e he=>⟨[.val (c.box e),.val (c.s x)],rfl,ao (ao rfl rfl rfl) rfl (ok.eqs e.1 x)⟩
 have e2:=aW (ai (g:=aN) (cH e) rfl) (FM _);refine i8 rfl (show sN [.val c.d,.val (c.s x)]=_ from (j4 e2).trans ?_);unfold isB;rw [List.any_map]; rfl
theorem Gi (l:List Nat) (hl:l.length<=1000):cf [c.d,c.S l]=some (c.S (l.filter (isB c.st))):=by
 have e:cm [none,some 0] (lI asL (eV 1)) (tgN 0) (bT (lA dI (aC (eV 1) (aC (eV 0) aN)))) (eV 0) [.val c.d,.val (c.S l)]=some ((l.filter (isB c.st)).map c.s):=by
  refine iJ (ds:=l.map c.s) (mh rfl rfl) (by rw [PJ]; omega) ?_;exact kM (η:=[.un,.val c.d]) c.s (isB c.st) c.s l λ x _=>⟨[.val (c.s x),.val c.d],rfl,bw (aW (ai rfl (ai rfl rfl)) (Jr ok x)),λ _=>rfl⟩
 exact i8 rfl (show nF dI [.val c.d,.val (c.S l)]=_ from j4 (cH e))
end
theorem Ps {f g:En->Option Bool} (h1:f η=some true):bOr f g η=some true:=by
 unfold bOr;rw [h1]; rfl
section
variable {c:Sc} {s:Sto} {m:Nat} {h:Hd}
theorem OO (ok:c.Ok) (hc:Ho c s m h) (hb:Bd h):cS [.r m,.d c.d] s=some (.d (c.S (lost (isB c.st) h)),s.set m (.obj 0 (hf c (fgt (isB c.st) h)))):=by
 have ⟨tr,pr,he,ck,mo,db⟩:=h;have ht:tr.length<=7:=hb.1;have hq:∀ q,pr=some q->q.length<=7:=hb.2;refine bI rfl (show mT cf dI ⟨[some (.r m),some (.d c.d),none],s⟩=_ from ?_);have p1:mj 0 "trail" (mV 0) (mP (lA cf (aC (eV 1) (aC (gR 0 "trail") aN)))) ⟨[some (.r m),some (.d c.d),none],s⟩=some (.nx ⟨[some (.r m),some (.d c.d),none],s.set m (.obj 0 (hf c ⟨tr.filter (isB c.st),pr,he,ck,mo,db⟩))⟩):=by
  rw [gZ (d:=.d (c.S (tr.filter (isB c.st)))) (n:=m) (fs:=hf c ⟨tr,pr,he,ck,mo,db⟩) (am (aW (ai rfl (ai (jL rfl hc rfl) rfl)) (Gi ok _ (by omega)))) rfl hc (by simp [hf])];rfl
 refine ak p1 ?_;have hc1:Ho c (s.set m (.obj 0 (hf c ⟨tr.filter (isB c.st),pr,he,ck,mo,db⟩))) m ⟨tr.filter (isB c.st),pr,he,ck,mo,db⟩:=hc.set _;have p2:mIf (tPv (bT (L2.PU.l2 (jB true) (gR 0 "pressed_at") (eC .none)))) (mj 0 "pressed_at" (mV 0) (mP (lA cf (aC (eV 1) (aC (gR 0 "pressed_at") aN))))) mNx ⟨[some (.r m),some (.d c.d),none],s.set m (.obj 0 (hf c ⟨tr.filter (isB c.st),pr,he,ck,mo,db⟩))⟩=some (.nx ⟨[some (.r m),some (.d c.d),none],s.set m (.obj 0 (hf c ⟨tr.filter (isB c.st),pr.map (·.filter (isB c.st)),he,ck,mo,db⟩))⟩):=by
  have fp:gR 0 "pressed_at" (vw ⟨[some (.r m),some (.d c.d),none],s.set m (.obj 0 (hf c ⟨tr.filter (isB c.st),pr,he,ck,mo,db⟩))⟩)=some (oL c pr):=jL rfl hc1 rfl;cases pr with
  | none=>exact kZ (bX (bw (ao fp rfl rfl)))
  | some q =>
   refine pQ (bX (bw (ao fp rfl rfl))) ?_;rw [gZ (d:=.d (c.S (q.filter (isB c.st)))) (n:=m) (fs:=hf c ⟨tr.filter (isB c.st),some q,he,ck,mo,db⟩) (am (aW (ai rfl (ai fp rfl)) (Gi ok _ (by have:=hq q rfl; omega)))) rfl hc1 (by simp [hf]),Ro];rfl
 refine ak p2 ?_;have hc2:Ho c (s.set m (.obj 0 (hf c ⟨tr.filter (isB c.st),pr.map (·.filter (isB c.st)),he,ck,mo,db⟩))) m ⟨tr.filter (isB c.st),pr.map (·.filter (isB c.st)),he,ck,mo,db⟩:=hc.set _;have fh:gR 0 "held_by" (vw ⟨[some (.r m),some (.d c.d),none],s.set m (.obj 0 (hf c ⟨tr.filter (isB c.st),pr.map (·.filter (isB c.st)),he,ck,mo,db⟩))⟩)=some (kD c he):=jL rfl hc2 rfl;cases he with
 | none=>exact i9 (pQ (bX (Ps (bw (ao fh rfl rfl)))) (bJ (am (cH (eX (by simp))))))
 | some x =>
  have hx:=Jr ok x;cases hb2:isB c.st x with
  | true =>
   rw [hb2] at hx;have e1:lost (isB c.st) ⟨tr,pr,some x,ck,mo,db⟩=[]:=if_pos hb2;have e2:fgt (isB c.st) ⟨tr,pr,some x,ck,mo,db⟩=⟨tr.filter (isB c.st),pr.map (·.filter (isB c.st)),some x,ck,mo,db⟩:=by
    unfold fgt;simp [Option.filter,hb2]
   rw [e1,e2];exact i9 (pQ (bX (IY (bw (ao fh rfl rfl)) (bw (aW (ai rfl (ai fh rfl)) hx)))) (bJ (am (cH (eX (by simp))))))
  | false =>
   rw [hb2] at hx;have e1:lost (isB c.st) ⟨tr,pr,some x,ck,mo,db⟩=[x]:=if_neg (by rw [hb2]; decide);have e2:fgt (isB c.st) ⟨tr,pr,some x,ck,mo,db⟩=⟨tr.filter (isB c.st),pr.map (·.filter (isB c.st)),none,ck,mo,db⟩:=by
    unfold fgt;simp [Option.filter,hb2]
   rw [e1,e2];refine ak (kZ (bX (IY (bw (ao fh rfl rfl)) (bw (aW (ai rfl (ai fh rfl)) hx))))) ?_;refine ak (aO (am fh)) ?_;refine ak (w1:=⟨[some (.r m),some (.d c.d),some (.d (c.s x))],s.set m (.obj 0 (hf c ⟨tr.filter (isB c.st),pr.map (·.filter (isB c.st)),none,ck,mo,db⟩))⟩) ?_ (bJ (am (cH (dj (ai rfl rfl) (eX (by simp))))));rw [gZ (d:=.d .none) (n:=m) (fs:=hf c ⟨tr.filter (isB c.st),pr.map (·.filter (isB c.st)),some x,ck,mo,db⟩) (am rfl) rfl hc2 (by simp [hf])];show some (MOut.nx ⟨_,((s.set m _).set m _)⟩)=_;rw [Ro];rfl
end
def ren (ρ:Nat->Nat) (h:Hd):Hd:={ h with trail:=h.trail.map ρ,pr:=h.pr.map (·.map ρ),held:=h.held.map ρ,clk:=h.clk.map ρ }
def hD (c:Sc) (r:Int×Nat):PD:=.tuple [.int r.1,c.s r.2]
section
variable {c c2:Sc} {ρ:Nat->Nat} (hρ:∀ x,c2.nm (ρ x)=c.nm x)
include hρ
theorem Lm (x:Nat):c2.s (ρ x)=c.s x:=by unfold Sc.s; rw [hρ]
theorem LK (l:List Nat):c2.S (l.map ρ)=c.S l:=by
 unfold Sc.S;rw [QC];exact congrArg _ (List.map_congr_left λ x _=>Lm hρ x)
theorem LA (k:Option Nat):kD c2 (k.map ρ)=kD c k:=by
 cases k with
 | none=>rfl
 | some x=>exact Lm hρ x
theorem Od (k:Option (List Nat)):oL c2 (k.map (·.map ρ))=oL c k:=by
 cases k with
 | none=>rfl
 | some x=>exact LK hρ x
theorem MX (h:Hd):hf c2 (ren ρ h)=hf c h:=by
 unfold hf ren;dsimp only;rw [LK hρ,Od hρ,LA hρ,LA hρ]
theorem Nb {h:Hd} (hb:Bd h):Bd (ren ρ h):=by
 have ⟨tr,pr,he,ck,mo,db⟩:=h;refine ⟨by show (tr.map ρ).length<=7; rw [PJ]; exact hb.1,λ q hq=>?_⟩;cases pr with
 | none=>cases hq
 | some r =>
  cases hq;rw [PJ];exact hb.2 r rfl
variable {s:Sto} {n kd:Nat} {kvs:List (Key×D)} {K:Int->Hd}
theorem HOk.ren (H:HOk c s n kd kvs K):HOk c2 (s.set n (.obj 1 (nf c2 kd))) n kd kvs (λ j=>K20.ren ρ (K j)) where
 ob:=PY (fk H.ob)
 dc:=by
  have hn:n≠kd:=λ e=>by have:=H.dc; rw [<- e,H.ob] at this; cases this
  rw [PK hn]; exact H.dc
 dflt:=λ j hj=>by rw [H.dflt j hj]; rfl
 hand:=λ j d hj=>by
  obtain ⟨m,rfl,hm⟩:=H.hand j d hj;have hn:n≠m:=λ e=>by have:=H.ob; rw [e,hm] at this; cases this
  refine ⟨m,rfl,?_⟩;unfold Ho;rw [PK hn,MX hρ]; exact hm
 inj:=H.inj
 bd:=λ j=>Nb hρ (H.bd j)
 ky:=H.ky
end
theorem Nc {B:Nat->Bool} {h:Hd} (hb:Bd h):Bd (fgt B h):=by
 have ⟨tr,pr,he,ck,mo,db⟩:=h;refine ⟨Qg (Q4 ..) hb.1,λ q hq=>?_⟩;cases pr with
 | none=>cases hq
 | some r =>
  cases hq;exact Qg (Q4 ..) (hb.2 r rfl)
abbrev chB:Wd->Option MOut:=qX (wV (mV 2) (mFz (mcL [none,some 3] (iM (bu 0 "forget" cS (gQ (vg (mV 0) "known") (mP (eV 3))) (maC (mP (eV 1)) maN))) [0] (tgN 0) xF (mP (lA tpF (aC (eV 1) (aC (eV 0) aN)))))))
theorem Im {s:Sto} {ds0 ds:List D} {ys:List PD} (h1:o w=some (.r n,s)) (h2:s[n]?=some (.lst ds0)) (h3:g ⟨w.η,s⟩=some (.d (.list ys),s1)) (h4:s1[n]?=some (.lst ds)) (hl:ds.length+ys.length<=3000000):wV o g w=some (.d .none,s1.set n (.lst (ds++ys.map .d))):=by
 unfold wV;rw [h1,PC];dsimp only;rw [h2];dsimp only;rw [h3,PC];show (some (PyData.list ys)).bind _=_;rw [PC,h4];dsimp only;rw [if_pos (big hl)]
section
variable {c:Sc} {s:Sto} {n kd R m:Nat} {kvs:List (Key×D)} {K:Int->Hd} {j:Int} {rows:List (Int×Nat)}
theorem KO (ok:c.Ok) (H:HOk c s n kd kvs K) (hj:ci kvs (.inl j)=some (.r m)) (hR:s[R]?=some (.lst (rows.map λ r=>D.d (hD c r)))) (hO:¬ Own n kd kvs R) (hr:rows.length<=1000) :
  ∃ s',chB ⟨[some (.r n),some (.d c.d),some (.r R),some (.d (.int j))],s⟩=some (.nx ⟨[some (.r n),some (.d c.d),some (.r R),some (.d (.int j))],s'⟩)/\HOk c s' n kd kvs (upK K j (fgt (isB c.st) (K j)))/\s'[R]?=some (.lst ((rows++(lost (isB c.st) (K j)).map λ x=>(j,x)).map λ r=>D.d (hD c r)))/\s.length<=s'.length/\∀ i,i < s.length->¬ Own n kd kvs i->i≠R->s'[i]?=s[i]?:=by
 have ⟨m',em,hm⟩:=H.hand j _ hj;cases em;have hRl:=fk hR;have hOm:Own n kd kvs m:=.inr (.inr ⟨j,hj⟩);have hmR:m≠R:=λ e=>hO (e ▸ hOm);have e1:bu 0 "forget" cS (gQ (vg (mV 0) "known") (mP (eV 3))) (maC (mP (eV 1)) maN) ⟨[some (.r n),some (.d c.d),some (.r R),some (.d (.int j))],s⟩=some (.d (c.S (lost (isB c.st) (K j))),s.set m (.obj 0 (hf c (fgt (isB c.st) (K j))))) :=
  bb (n:=m) (sJ (FV (pO (i:=0) (w:=⟨[some (.r n),some (.d c.d),some (.r R),some (.d (.int j))],s⟩) rfl) H.ob rfl) (am rfl) rfl H.dc hj) hm rfl (ar (am rfl) rfl) (OO ok hm (H.bd j))
 have ll:(lost (isB c.st) (K j)).length<=1:=by unfold lost; split <;> (try split) <;> simp
 have e2:=zV (mp:=[none,some 3]) (ks:=[0]) (t:=tgN 0) (p:=xF) (f:=mP (lA tpF (aC (eV 1) (aC (eV 0) aN)))) c.s (λ _=>true) (λ x=>hD c (j,x)) (λ x=>[some (.d (c.s x)),some (.d (.int j))]) _ (IB e1) (by omega) λ x hx acc =>
  ⟨pP (w:=⟨[none,some (.d (.int j))],_⟩) (by show 0 < 2; decide),rfl,λ _=>am (aW (ai rfl (ai rfl rfl)) (gN (by simp)))⟩
 rw [List.filter_eq_self.mpr (λ _ _=>rfl)] at e2;have e3:=Kk e2;have hR1:(s.set m (.obj 0 (hf c (fgt (isB c.st) (K j))))++[Cell.fz (.list ((lost (isB c.st) (K j)).map λ x=>hD c (j,x)))])[R]?=some (.lst (rows.map λ r=>D.d (hD c r))):=by
  rw [PM (by rw [Qa]; exact hRl),PK hmR]; exact hR
 have e4:=Im (o:=mV 2) (pO (i:=2) (w:=⟨[some (.r n),some (.d c.d),some (.r R),some (.d (.int j))],s⟩) rfl) hR e3 hR1 (by rw [PJ,PJ]; omega);refine ⟨_,qw e4,((H.put hj (Nc (H.bd j))).app _).setX hO,?_,?_,λ i hi ho hne=>?_⟩
 ·rw [BK hR1];rw [QG,QC,QC]; rfl
 ·rw [Qa,PL,Qa]; omega
 ·rw [PK (Ne.symm hne),PM (by rw [Qa]; exact hi),PK (λ (e:m=i)=>ho (e ▸ hOm))]
theorem LE (ok:c.Ok):∀ (js:List Int) (s:Sto) (K:Int->Hd) (rows:List (Int×Nat)) (x3:Option D),HOk c s n kd kvs K->js.Nodup->(∀ j∈js,ci kvs (.inl j)≠none)->s[R]?=some (.lst (rows.map λ r=>D.d (hD c r)))->¬ Own n kd kvs R->rows.length+js.length<=1000 ->
  ∃ s' x3',mGo [3] (tgN 3) chB (js.map Qx) ⟨[some (.r n),some (.d c.d),some (.r R),x3],s⟩=some (.nx ⟨[some (.r n),some (.d c.d),some (.r R),x3'],s'⟩)/\HOk c s' n kd kvs (λ j=>if j∈js then fgt (isB c.st) (K j) else K j)/\s'[R]?=some (.lst ((rows++js.flatMap λ j=>(lost (isB c.st) (K j)).map λ x=>(j,x)).map λ r=>D.d (hD c r)))/\s.length<=s'.length/\∀ i,i < s.length->¬ Own n kd kvs i->i≠R->s'[i]?=s[i]?
 | [],s,K,rows,x3,H,_,_,hR,_,_=>⟨s,x3,rfl,by simpa using H,by simpa using hR,PV _,λ _ _ _ _=>rfl⟩
 | j::js,s,K,rows,x3,H,nd,hk,hR,hO,hl=>by
  rw [P8] at hl;rw [Rx] at nd;cases hd:ci kvs (.inl j) with
  | none=>exact absurd hd (hk j Qc)
  | some d =>
   obtain ⟨m,rfl,hm⟩:=H.hand j d hd;obtain ⟨s1,a1,a2,a3,a4,a5⟩:=KO ok H hd hR hO (by omega);have ll:(lost (isB c.st) (K j)).length<=1:=by unfold lost; split <;> (try split) <;> simp
   obtain ⟨s2,x3',b1,b2,b3,b4,b5⟩:=LE ok js s1 _ _ (some (.d (.int j))) a2 nd.2 (λ i hi=>hk i (P3 _ hi)) a3 hO (by rw [PL,PJ]; omega);have eK:∀ i∈js,upK K j (fgt (isB c.st) (K j)) i=K i:=λ i hi=>by
    unfold upK;rw [if_neg (λ (e:i=j)=>nd.1 (e ▸ hi))]
   refine ⟨s2,x3',?_,?_,?_,Qg a4 b4,λ i hi ho hne=>(b5 i (P5 hi a4) ho hne).trans (a5 i hi ho hne)⟩
   ·rw [P2];unfold mGo;rw [pP (w:=⟨[some (.r n),some (.d c.d),some (.r R),x3],s⟩) (by show 3 < 4; decide),PC];show (chB ⟨[some (.r n),some (.d c.d),some (.r R),some (.d (.int j))],s⟩).bind _=_;rw [a1,PC];exact b1
   ·have e:(λ i=>if i∈js then fgt (isB c.st) (upK K j (fgt (isB c.st) (K j)) i) else upK K j (fgt (isB c.st) (K j)) i)=λ i=>if i∈j::js then fgt (isB c.st) (K i) else K i:=by
     funext i
     by_cases hi:i∈js
     ·rw [if_pos hi,if_pos (P3 _ hi),eK i hi]
     ·rw [if_neg hi];unfold upK;by_cases e:i=j
      ·subst e; rw [if_pos rfl,if_pos Qc]
      ·rw [if_neg e,if_neg (by rw [Qh]; exact λ z=>z.elim e hi)]
    rw [<- e]; exact b2
   ·rw [b3,QU,QP];have ef:(js.flatMap λ i=>(lost (isB c.st) (upK K j (fgt (isB c.st) (K j)) i)).map λ x=>(i,x))=js.flatMap λ i=>(lost (isB c.st) (K i)).map λ x=>(i,x):=we λ i hi=>by rw [eK i hi]
    rw [ef]
end
theorem CO {α:Type} {f:Int->List α} (hf:∀ j,j≠0->j≠1->f j=[]):∀ l:List Int,l.Pairwise (· < ·)->l.flatMap f=(if (0:Int)∈l then f 0 else [])++(if (1:Int)∈l then f 1 else [])
 | [],_=>by simp
 | a::r,h=>by
  obtain ⟨h1,h2⟩:=List.pairwise_cons.mp h;rw [QU,CO hf r h2];by_cases e0:a=0
  ·subst e0;have n0:(0:Int)∉r:=λ z=>by have:=h1 0 z; omega
   simp [n0]
  ·by_cases e1:a=1
   ·subst e1;have n0:(0:Int)∉r:=λ z=>by have:=h1 0 z; omega
    have n1:(1:Int)∉r:=λ z=>by have:=h1 1 z; omega
    simp [n0,n1]
   ·have e0':¬ (0:Int)=a:=λ z=>e0 z.symm;have e1':¬ (1:Int)=a:=λ z=>e1 z.symm;simp [hf a e0 e1,e0',e1']
theorem L8 (h:ns.Nodup):(t7 ns).Pairwise (· < ·):=by
 have h1:=Fq ns;have h2:(t7 ns).Nodup:=(Rk ns _).nodup_iff.mpr h;exact (h1.and h2).imp λ ⟨a,b⟩=>by omega
theorem y3 (j:Int):j∈t7 ns↔j∈ns:=(Rk ns _).mem_iff
def zG (B:Nat->Bool) (K:Int->Hd):List (Int×Nat):=((lost B (K 0)).map λ x=>((0:Int),x))++((lost B (K 1)).map λ x=>((1:Int),x))
section
variable {c c2:Sc} {ρ:Nat->Nat} {s:Sto} {n kd:Nat} {kvs:List (Key×D)} {K:Int->Hd}
theorem Js (ok:c2.Ok) (hρ:∀ x,c2.nm (ρ x)=c.nm x) (H:HOk c s n kd kvs K) (hl:kvs.length < 60) (hz:∀ j,j≠0->j≠1->K j=hd0) :
  ∃ s',df [.r n,.d c2.d] s=some (.d (.list ((zG (isB c2.st) λ j=>K20.ren ρ (K j)).map (hD c2))),s')/\HOk c2 s' n kd kvs (λ j=>fgt (isB c2.st) (K20.ren ρ (K j)))/\Stp s s' (Own n kd kvs) (Own n kd kvs):=by
 have H1:=H.ren (c2:=c2) hρ;have l1:(s.set n (.obj 1 (nf c2 kd))).length=s.length:=Qa;have H2:=H1.app [Cell.lst []];have hR:(s.set n (.obj 1 (nf c2 kd))++[Cell.lst []])[s.length]?=some (.lst (([]:List (Int×Nat)).map λ r=>D.d (hD c2 r))):=by
  rw [<- l1]; exact nV _ _
 have hO:¬ Own n kd kvs s.length:=λ z=>by have:=H.lt z; omega
 have ⟨ns,k1,k2⟩:=H.ky;have nl:ns.length=kvs.length:=by have:=congrArg List.length (sK k1); simpa using this.symm
 have sl:(t7 ns).length=ns.length:=(Rk ns _).length_eq;have ⟨s',x3,g1,g2,g3,g4,g5⟩:=LE ok (R:=s.length) (t7 ns) _ _ [] none H2 ((Rk ns _).nodup_iff.mpr k2) (λ j hj e=>(Ky.look k1 j).mp e ((y3 j).mp hj)) hR hO (by rw [sl,nl]; simp; omega);have ld:∀ j,j≠0->j≠1->((lost (isB c2.st) (K20.ren ρ (K j))).map λ x=>(j,x))=[]:=λ j h0 h1=>by rw [hz j h0 h1]; rfl
 have lk:∀ j,j∉ns->((lost (isB c2.st) (K20.ren ρ (K j))).map λ x=>(j,x))=[]:=λ j h=>by rw [H.dflt j ((Ky.look k1 j).mpr h)]; rfl
 have er:([]:List (Int×Nat))++(t7 ns).flatMap (λ j=>(lost (isB c2.st) (K20.ren ρ (K j))).map λ x=>(j,x))=zG (isB c2.st) λ j=>K20.ren ρ (K j):=by
  rw [List.nil_append,CO ld _ (L8 k2)];unfold zG
  congr 1
  ·by_cases h:(0:Int)∈t7 ns
   ·rw [if_pos h]
   ·rw [if_neg h,lk 0 λ z=>h ((y3 0).mpr z)]
  ·by_cases h:(1:Int)∈t7 ns
   ·rw [if_pos h]
   ·rw [if_neg h,lk 1 λ z=>h ((y3 1).mpr z)]
 rw [er] at g3;have eK:(λ j=>if j∈t7 ns then fgt (isB c2.st) (K20.ren ρ (K j)) else K20.ren ρ (K j))=λ j=>fgt (isB c2.st) (K20.ren ρ (K j)):=by
  funext j
  by_cases h:j∈t7 ns
  ·rw [if_pos h]
  ·rw [if_neg h,H.dflt j ((Ky.look k1 j).mpr λ z=>h ((y3 j).mpr z))]; rfl
 rw [eK] at g2;rw [PL,l1] at g4;have e1:[Cell.lst []].length=1:=rfl;refine ⟨s'.set s.length (.fz (.list ((zG (isB c2.st) λ j=>K20.ren ρ (K j)).map (hD c2)))),?_,g2.setX hO,⟨by rw [Qa]; omega,λ i hi ho=>?_,λ i h=>.inl h⟩⟩
 ·refine bI rfl (show ma cS ⟨[some (.r n),some (.d c2.d),none,none],s⟩=_ from ?_);have p1:mj 1 "scene" (mV 0) (mP (eV 1)) ⟨[some (.r n),some (.d c2.d),none,none],s⟩=some (.nx ⟨[some (.r n),some (.d c2.d),none,none],s.set n (.obj 1 (nf c2 kd))⟩):=by
   rw [gZ (d:=.d c2.d) (n:=n) (fs:=nf c kd) (am rfl) rfl H.ob (by simp [nf])];rfl
  refine ak p1 ?_;have p2:bR 2 (mN (λ η=>(aN η).bind gL)) ⟨[some (.r n),some (.d c2.d),none,none],s.set n (.obj 1 (nf c2 kd))⟩=some (.nx ⟨[some (.r n),some (.d c2.d),some (.r s.length),none],s.set n (.obj 1 (nf c2 kd))++[.lst []]⟩):=by
   rw [<- l1];exact aO rfl
  refine ak p2 (ak (uW (IB (xs:=(t7 ns).map Qx) (s:=s.set n (.obj 1 (nf c2 kd))++[.lst []]) ?_) g1) (bJ (Ab (pO (i:=2) rfl) g3 (wf (hD c2) _))));have eF:vg (mV 0) "known" ⟨[some (.r n),some (.d c2.d),some (.r s.length),none],s.set n (.obj 1 (nf c2 kd))++[Cell.lst []]⟩=some (.r kd,s.set n (.obj 1 (nf c2 kd))++[Cell.lst []]):=FV (n:=n) (k:=1) (pO (i:=0) rfl) H2.ob rfl;unfold ED;rw [eF,PC];dsimp only;rw [H2.dc];dsimp only;rw [k1,PC,if_pos (by omega)]
 ·rw [PK (by omega),g5 i (by rw [PL,l1]; omega) ho (by omega),PM (by rw [l1]; exact hi),PK (λ (e:n=i)=>ho (.inl e.symm))]
end
def stR (way:Nat) (h:Hd) (p:List Nat) (mo:Int):List (Str×Nat):=if way=0 then mvR h p else if way=1 then dnR h p else upR h p mo
def stH (way:Nat) (h:Hd) (p:List Nat) (mo:Int):Hd:=if way=0 then mvH h p else if way=1 then dnH h p else upH h p mo
section
variable {c:Sc} {s:Sto} {n kd:Nat} {kvs:List (Key×D)} {K:Int->Hd}
theorem LN (ok:c.Ok) (H:HOk c s n kd kvs K) (hl:kvs.length < 1000) (hw:way < 3) (j:Int) {x mo:Int} (hp:aL [c.d,.int x,.int y]=some (c.S p)) (lp:p.length<=7) :
  Res c s n kd kvs (upK K j (stH way (K j) p mo)) (bN [.r n,.d (.int ((way:Nat):Int)),.d (.int j),.d (.int mo),.d (.int x),.d (.int y)] s) (.d (Rw c (stR way (K j) p mo))):=by
 have h3:way=0\/way=1\/way=2:=by omega
 rcases h3 with rfl | rfl | rfl
 ·have ⟨s',kvs',e,a,b,d⟩:=PB ok H hl j (mo:=.int mo) hp lp;refine ⟨s',kvs',?_,a,b,d⟩;refine bI rfl (show jF dh bi bP ⟨[some (.r n),some (.d (.int ((0:Nat):Int))),some (.d (.int j)),some (.d (.int mo)),some (.d (.int x)),some (.d (.int y))],s⟩=_ from ?_);exact i9 (pQ (s:=s) (bX (bw (ao rfl rfl (eZ _ _)))) (bJ (bb (n:=n) rfl H.ob rfl (ar (s1:=s) (am rfl) (ar (s1:=s) (am rfl) (ar (s1:=s) (am rfl) (ar (s1:=s) (am rfl) cw)))) e)))
 ·have ⟨s',kvs',e,a,b,d⟩:=OT ok H hl j (mo:=.int mo) hp lp;refine ⟨s',kvs',?_,a,b,d⟩;refine bI rfl (show jF dh bi bP ⟨[some (.r n),some (.d (.int ((1:Nat):Int))),some (.d (.int j)),some (.d (.int mo)),some (.d (.int x)),some (.d (.int y))],s⟩=_ from ?_);refine ak (kZ (s:=s) (bX (bw (ao rfl rfl (eZ _ _))))) ?_;exact i9 (pQ (s:=s) (bX (bw (ao rfl rfl (eZ _ _)))) (bJ (bb (n:=n) rfl H.ob rfl (ar (s1:=s) (am rfl) (ar (s1:=s) (am rfl) (ar (s1:=s) (am rfl) (ar (s1:=s) (am rfl) cw)))) e)))
 ·have ⟨s',kvs',e,a,b,d⟩:=OL ok H hl j (mo:=mo) hp lp;refine ⟨s',kvs',?_,a,b,d⟩;refine bI rfl (show jF dh bi bP ⟨[some (.r n),some (.d (.int ((2:Nat):Int))),some (.d (.int j)),some (.d (.int mo)),some (.d (.int x)),some (.d (.int y))],s⟩=_ from ?_);refine ak (kZ (s:=s) (bX (bw (ao rfl rfl (eZ _ _))))) (ak (kZ (s:=s) (bX (bw (ao rfl rfl (eZ _ _))))) ?_);exact bJ (bb (n:=n) rfl H.ob rfl (ar (s1:=s) (am rfl) (ar (s1:=s) (am rfl) (ar (s1:=s) (am rfl) (ar (s1:=s) (am rfl) cw)))) e)
end
theorem NN (way:Nat) (h:Hd) (p:List Nat) (mo:Int):∀ r∈stR way h p mo,okW r.1:=by
 have hw:∀ (w:Str) (l:List Nat),okW w->∀ r∈wr w l,okW r.1:=λ w l hw r hr=>by
  obtain ⟨x,_,rfl⟩:=Rf.mp hr;exact hw
 have hld:∀ (h:Hd) (p:List Nat),∀ r∈lead h p,okW r.1:=λ h p r hr=>by
  rcases Q6.mp hr with z | z
  ·exact hw _ _ (by unfold okW; decide +kernel) r z
  ·exact hw _ _ (by unfold okW; decide +kernel) r z
 have htl:∀ (h:Hd) (w:Str),okW w->∀ r∈tell h w,okW r.1:=λ h w hw r hr=>by
  unfold tell at hr;split at hr
  ·rw [Qt.mp hr]; exact hw
  ·cases hr
 have hck:∀ (h:Hd) (k:Nat) (mo:Int),∀ r∈nN h k mo,okW r.1:=λ h k mo r hr=>by
  unfold nN at hr;split at hr
  ·simp only [Qh,Rj,or_false] at hr;rcases hr with rfl | rfl
   ·show Qj ("click" : Str)=true;decide +kernel
   ·show Qj ("double" : Str)=true;decide +kernel
  ·rw [Qt.mp hr];show Qj ("click" : Str)=true;decide +kernel
 intro r hr;unfold stR at hr;split at hr
 ·unfold mvR at hr;split at hr
  ·rcases Q6.mp hr with z | z
   ·exact hld _ _ r z
   ·exact hw _ _ (by unfold okW; decide +kernel) r z
  ·exact htl _ _ (by unfold okW; decide +kernel) r hr
 ·split at hr
  ·unfold dnR at hr;split at hr
   ·rcases Q6.mp hr with z | z
    ·split at z
     ·exact hld _ _ r z
     ·cases z
    ·exact htl _ _ (by unfold okW; decide +kernel) r z
   ·cases hr
  ·unfold upR at hr;split at hr
   ·cases hr
   ·rename_i q _;rcases Q6.mp hr with z | z
    ·rcases Q6.mp z with y | y
     ·exact htl _ _ (by unfold okW; decide +kernel) r y
     ·cases hN:upN q p with
      | nil=>rw [hN] at y; cases y
      | cons k l=>rw [hN] at y; exact hck _ _ _ r y
    ·exact hld _ _ r z
theorem wN {h:Hd} (e1:h'.clk=h.clk) (e2:h'.mom=h.mom) (e3:h'.dbl=h.dbl) (hk:okL l h):okL l h':=by
 unfold okL at *;rw [e1,e2,e3]; exact hk
theorem OS {s:Sto} {h:Hd} {x mo:Int} (hw:way < 3) (ok:c.Ok) (hc:Lo c s a h l) (hP:aB [c.d,.int x,.int y]=some (c.S p)) (ht:h.trail.length<=7) (hp:p.length<=7) (hk:okL l h) :
  ∃ s' l',bn [.d c.d,.r a,.d (.int ((way:Nat):Int)),.d (.int mo),.d (.int x),.d (.int y)] s=some (.d (Rw c (stR way h p mo)),s')/\Lo c s' a (stH way h p mo) l'/\okL l' (stH way h p mo)/\Fr s s' a:=by
 have h3:way=0\/way=1\/way=2:=by omega
 rcases h3 with rfl | rfl | rfl
 ·have ⟨s',e1,e2,e3⟩:=OR (mo:=mo) ok hc hP ht hp;refine ⟨s',l,e1,e2,?_,e3⟩;show okL l (mvH h p);unfold mvH
  split
  ·exact wN rfl rfl rfl hk
  ·exact hk
 ·have ⟨s',e1,e2,e3⟩:=OQ (mo:=mo) ok hc hP ht hp;refine ⟨s',l,e1,e2,?_,e3⟩;show okL l (dnH h p);unfold dnH yV
  split
  ·split
   ·exact wN rfl rfl rfl hk
   ·exact wN rfl rfl rfl hk
  ·exact hk
 ·exact OP ok hc hP ht hp hk
structure Wo (c:Sc) (s:Sto) (n g z:Nat) (ad:Nat->Nat) (b:Nat) (K:Int->Hd):Prop where
 ho:∃ kd kvs,HOk c s n kd kvs K/\kvs.length<=b/\¬ Own n kd kvs g/\(∀ i,i < 2->¬ Own n kd kvs (ad i))/\¬ Own n kd kvs z/\¬ Own n kd kvs (z+1)
 li:s[g]?=some (.lst [.r (ad 0),.r (ad 1)])
 lw:∀ i,i < 2->∃ l,Lo c s (ad i) (K (i:Int)) l/\okL l (K (i:Int))
 ne:ad 0≠ad 1
 hz:∀ j,j≠0->j≠1->K j=hd0
 oz:s[z]?=some (.obj 1 (nf c (z+1)))
 od:s[z+1]?=some (.dct [])
section
variable {c:Sc} {s:Sto} {n g z b:Nat} {ad:Nat->Nat} {K:Int->Hd}
theorem Wo.gne (w:Wo c s n g z ad b K) (hi:i < 2):g≠ad i/\z≠ad i/\z+1≠ad i:=by
 obtain ⟨l,h1,_⟩:=w.lw i hi;refine ⟨λ e=>?_,λ e=>?_,λ e=>?_⟩
 ·have:=w.li
  rw [e,show s[ad i]?=_ from h1] at this;cases this
 ·have:=w.oz
  rw [e,show s[ad i]?=_ from h1] at this;cases this
 ·have:=w.od
  rw [e,show s[ad i]?=_ from h1] at this;unfold kvL at this;cases this
theorem Wo.bd (w:Wo c s n g z ad b K) (j:Int):Bd (K j):=by
 obtain ⟨kd,kvs,H,_⟩:=w.ho;exact H.bd j
theorem Wo.ob (w:Wo c s n g z ad b K):∃ kd,s[n]?=some (.obj 1 (nf c kd)):=by
 obtain ⟨kd,kvs,H,_⟩:=w.ho;exact ⟨kd,H.ob⟩
theorem Wo.al (w:Wo c s n g z ad b K) (hi:i < 2):ad i < s.length:=by obtain ⟨l,h1,_⟩:=w.lw i hi; exact fk h1
theorem Wo.ext (w:Wo c s n g z ad b K) (h:∀ i,i < s.length->s'[i]?=s[i]?):Wo c s' n g z ad b K:=by
 have ⟨kd,kvs,H,hl⟩:=w.ho;refine ⟨⟨kd,kvs,H.frame λ i hi=>h i (H.lt hi),hl⟩,(h _ (fk w.li)).trans w.li,λ i hi=>?_,w.ne,w.hz,(h _ (fk w.oz)).trans w.oz,(h _ (fk w.od)).trans w.od⟩;have ⟨l,h1,h2⟩:=w.lw i hi;exact ⟨l,(h _ (w.al hi)).trans h1,h2⟩
theorem Wo.app (w:Wo c s n g z ad b K) (t:Sto):Wo c (s++t) n g z ad b K:=w.ext λ _ hi=>PM hi
theorem Wo.stepQ {Q:Sto->Prop} (w:Wo c s n g z ad b K) (hb:b < 1000) (op:∀ kd kvs,HOk c s n kd kvs K->kvs.length < 1000->∃ s' kvs',Q s'/\HOk c s' n kd kvs' K/\Stp s s' (Own n kd kvs) (Own n kd kvs')/\kvs'.length<=kvs.length+1) :
  ∃ s',Q s'/\Wo c s' n g z ad (b+1) K:=by
 have ⟨kd,kvs,H,hl,hg,ha,hy,hy1⟩:=w.ho;have ⟨s',kvs',e,H',st,hl'⟩:=op kd kvs H (by omega);have no:∀ i,i < s.length->¬ Own n kd kvs i->¬ Own n kd kvs' i:=λ i hi ho z=>by
  rcases st.ow i z with y | y
  ·exact ho y
  ·omega
 refine ⟨s',e,⟨kd,kvs',H',by omega,no g (fk w.li) hg,λ i hi=>no _ (w.al hi) (ha i hi),no _ (fk w.oz) hy,no _ (fk w.od) hy1⟩,(st.kp g (fk w.li) hg).trans w.li,λ i hi=>?_,w.ne,w.hz,(st.kp _ (fk w.oz) hy).trans w.oz,(st.kp _ (fk w.od) hy1).trans w.od⟩;have ⟨l,h1,h2⟩:=w.lw i hi;exact ⟨l,(st.kp _ (w.al hi) (ha i hi)).trans h1,h2⟩
theorem Wo.two (w:Wo c s n g z ad b K) (hb:b < 1000) {j:Nat} (hj:j < 2) {l':Option (Nat×Int)} (lo:Lo c s1 (ad j) h' l') (lk:okL l' h') (fr:Fr s s1 (ad j)) {out:Option (D×Sto)} {d:D}
  (op:∀ kd kvs,HOk c s1 n kd kvs K->kvs.length < 1000->Res c s1 n kd kvs (upK K (j:Int) h') out d) :
  s1[n]?=s[n]?/\∃ s2,out=some (d,s2)/\Wo c s2 n g z ad (b+1) (upK K (j:Int) h'):=by
 have ⟨kd,kvs,H,hl,hg,ha,hy,hy1⟩:=w.ho;have H1:HOk c s1 n kd kvs K:=H.frame λ i hi=>fr.kp i (H.lt hi) λ z=>ha j hj (z ▸ hi);have ⟨s2,kvs',f1,f2,f3,f4⟩:=op kd kvs H1 (by omega);have no:∀ i,i < s1.length->¬ Own n kd kvs i->¬ Own n kd kvs' i:=λ i hi ho z=>by
  rcases f3.ow i z with y | y
  ·exact ho y
  ·omega
 have hs:=fr.len;have ⟨q1,q2,q3⟩:=w.gne hj;have kp:∀ i,i < s.length->¬ Own n kd kvs i->i≠ad j->s2[i]?=s[i]?:=λ i hi ho hn=>(f3.kp i (P5 hi hs) ho).trans (fr.kp i hi hn);refine ⟨fr.kp n (fk H.ob) λ z=>ha j hj (z ▸ .inl rfl),s2,f1,⟨kd,kvs',f2,by omega,no g (P5 (fk w.li) hs) hg,λ i hi=>no _ (P5 (w.al hi) hs) (ha i hi),no _ (P5 (fk w.oz) hs) hy,no _ (P5 (fk w.od) hs) hy1⟩,(kp _ (fk w.li) hg q1).trans w.li,λ i hi=>?_,w.ne,λ i h0 h1=>?_,(kp _ (fk w.oz) hy q2).trans w.oz,(kp _ (fk w.od) hy1 q3).trans w.od⟩
 ·by_cases e:i=j
  ·subst e;refine ⟨l',?_,?_⟩
   ·show s2[ad i]?=_;rw [f3.kp _ (P5 (w.al hi) hs) (ha i hi)];unfold upK;rw [if_pos rfl]; exact lo
   ·unfold upK;rw [if_pos rfl]; exact lk
  ·have ⟨l2,g1,g2⟩:=w.lw i hi;have ne:ad i≠ad j:=by
    have h3:(i=0/\j=1)\/(i=1/\j=0):=by omega
    rcases h3 with ⟨rfl,rfl⟩ | ⟨rfl,rfl⟩
    ·exact w.ne
    ·exact Ne.symm w.ne
   have eu:upK K (j:Int) h' (i:Int)=K (i:Int):=by
    unfold upK;rw [if_neg (λ z=>e (by omega))]
   refine ⟨l2,?_,by rw [eu]; exact g2⟩;rw [eu];exact (kp _ (w.al hi) (ha i hi) ne).trans g1
 ·unfold upK;rw [if_neg (λ z=>by omega)];exact w.hz i h0 h1
theorem Wo.ev (t:Tr c ps (In ps) (BR ps)) (tn:Tn c ps) (w:Wo c s n g z ad b K) (hb:b < 1000) {j:Nat} (hw:way < 3) (hj:j < 2) (mo x y:Int) :
  ∃ s1 s2 rows K',bn [.d c.d,.r (ad j),.d (.int ((way:Nat):Int)),.d (.int mo),.d (.int x),.d (.int y)] s=some (.d (Rw c rows),s1)/\bN [.r n,.d (.int ((way:Nat):Int)),.d (.int (j:Int)),.d (.int mo),.d (.int x),.d (.int y)] s1=some (.d (Rw c rows),s2)/\(∀ r∈rows,okW r.1)/\s1[n]?=s[n]?/\Wo c s2 n g z ad (b+1) K':=by
 have ⟨hP,hp⟩:=Pz t x y;have hL:=Fh tn x y;have hPL:aB [c.d,.int x,.int y]=some (c.S (hpth ps (Cg c.geo ps (BR ps) x y))):=hL;generalize hpth ps (Cg c.geo ps (BR ps) x y)=p at hP hp hPL;have ⟨l,lo,lk⟩:=w.lw j hj;have ⟨s1,l',e1,e2,e3,e4⟩:=OS (mo:=mo) hw t.ok lo hPL (w.bd j).1 hp lk;have ⟨q1,s2,q2,q3⟩:=w.two hb hj e2 e3 e4 λ kd kvs H hl=>LN t.ok H hl hw (j:Int) (mo:=mo) hP hp;exact ⟨s1,s2,_,_,e1,q2,NN way _ p mo,q1,q3⟩
end
def hold (h:Hd) (x:Option Nat):Hd:={ h with held:=x }
section
variable {c:Sc} {s:Sto} {n kd:Nat} {kvs:List (Key×D)} {K:Int->Hd}
theorem LM (H:HOk c s n kd kvs K) (hl:kvs.length < 1000) (j:Int) {x:Nat} {bx:PD} (hbx:aK [c.d,c.s x]=some bx) :
  Res c s n kd kvs (upK K j (hold (K j) (some x))) (bQ [.r n,.d (.int j),.d (c.s x)] s) (.d .none):=by
 have ⟨s1,m,kvs1,e1,H1,hj,st,hl1⟩:=wl H hl j;have ⟨m',em,hm⟩:=H1.hand j _ hj;cases em;have hb:=H1.bd j;refine ⟨s1.set m (.obj 0 (hf c (hold (K j) (some x)))),kvs1,?_,H1.put hj ⟨hb.1,hb.2⟩,st.trans (lG (.inr (.inr ⟨j,hj⟩))),hl1⟩;refine FT (w1:=⟨[some (.r n),some (.d (.int j)),some (.d (c.s x)),some (.r m)],s1.set m (.obj 0 (hf c (hold (K j) (some x))))⟩) rfl ?_;show nJ aK aw ⟨[some (.r n),some (.d (.int j)),some (.d (c.s x)),none],s⟩=_;refine ak (qw (am (aW (ai (jL rfl H.ob rfl) (ai rfl rfl)) hbx))) ?_;refine ak (aO (bb (n:=n) rfl H.ob rfl (ar (s1:=s) (am rfl) cw) e1)) ?_;refine (gZ (d:=.d (c.s x)) (n:=m) (fs:=hf c (K j)) (am rfl) rfl hm (by simp [hf])).trans ?_;rfl
theorem ON (H:HOk c s n kd kvs K) (hl:kvs.length < 1000) (j:Int) :
  Res c s n kd kvs (upK K j (hold (K j) none)) (gf [.r n,.d (.int j)] s) (.d .none):=by
 have ⟨s1,m,kvs1,e1,H1,hj,st,hl1⟩:=wl H hl j;have ⟨m',em,hm⟩:=H1.hand j _ hj;cases em;have hb:=H1.bd j;refine ⟨s1.set m (.obj 0 (hf c (hold (K j) none))),kvs1,?_,H1.put hj ⟨hb.1,hb.2⟩,st.trans (lG (.inr (.inr ⟨j,hj⟩))),hl1⟩;refine FT (w1:=⟨[some (.r n),some (.d (.int j)),some (.r m)],s1.set m (.obj 0 (hf c (hold (K j) none)))⟩) rfl ?_;show nK aw ⟨[some (.r n),some (.d (.int j)),none],s⟩=_;refine ak (aO (bb (n:=n) rfl H.ob rfl (ar (s1:=s) (am rfl) cw) e1)) ?_;refine (gZ (d:=.d .none) (n:=m) (fs:=hf c (K j)) (am rfl) rfl hm (by simp [hf])).trans ?_;rfl
end
theorem Jv {u:En->Option Out} {g:En->Option Nat} {d:PD} (h:u η=some (.rt d)):Gk u g η=none:=by
 unfold Gk; rw [h]; rfl
theorem Jw {u:En->Option Out} {g:En->Option Nat} {η':En} (h:u η=some (.nx η')) (h2:g η'=r):Gk u g η=r:=by
 unfold Gk; rw [h]; exact h2
theorem Fw {g:En->Option Nat} (hl:ds.length=n) (h:g (ds.map Sl.val++Qf (m - n) .un)=r):C4 n m g ds=r:=by
 unfold C4; rw [if_pos hl]; exact h
theorem Ki {g:MXF} {hd:Nat->Option PD} {u:Wd->Option MOut} {r:Option MOut} (h:g w=none) (h2:u w=r):EC g hd u w=r:=by
 unfold EC; rw [h]; exact h2
theorem Kh {g:MXF} {hd:Nat->Option PD} {u:Wd->Option MOut} {c:Nat} {s:Sto} {d:PD} (h:g w=some (c,s)) (h2:hd c=some d):EC g hd u w=some (.rt (.d d) s):=by
 unfold EC; rw [h]; show (hd c).bind _=_; rw [h2]; rfl
theorem Bn {nm:Str} {s:Sto} {ds:List D} {fx:List D->Sto->Option (Nat×Sto)} {fs:MFs} {as:List (Str×D)} {r:Option (Nat×Sto)} (h0:o w=some (.r n,s)) (hc:s[n]?=some (.obj k as)) (hl:as.lookup nm=none) (h1:fs ⟨w.η,s⟩=some (ds,s1)) (h2:fx (.r n::ds) s1=r):B7 k nm fx o fs w=r:=by
 unfold B7;rw [h0,PC];dsimp only;rw [hc];dsimp only;rw [if_pos ⟨rfl,hl⟩,h1];exact h2
structure Bad (c:Sc) (b:Str):Prop where
 ok:Qj b=true
 len:b.length<=50
 cps:(b.cps.toList.all λ x=>decide (x < 16 ^ 8))=true
 no:∀ x∈c.st,c.nm x.1≠b
section
variable {c:Sc} (ok:c.Ok)
include ok
theorem Ip {b:Str} (hb:Bad c b):∃ s,qS (lI qk (eV 0)) (tgN 2) (sIf (bT (L2.PU.l2 pEq (L2.PU.l2 pIx (eV 2) (eC (.int 0))) (eV 1))) (gP (eV 2)) sNx) [.val c.d,.val (.str b),.un]=some (.nx [.val c.d,.val (.str b),s]):=by
 obtain ⟨η',e,s,rfl⟩:=Fu (t:=tgN 2) (body:=sIf (bT (L2.PU.l2 pEq (L2.PU.l2 pIx (eV 2) (eC (.int 0))) (eV 1))) (gP (eV 2)) sNx) c.box (λ _ η=>∃ s,η=[.val c.d,.val (.str b),s]) c.st (η:=[.val c.d,.val (.str b),.un])
  (by
   rintro done x rest η hall ⟨s,rfl⟩
   have hx:x∈c.st:=by rw [hall]; simp
   exact ⟨_,_,rfl,ifN (bw (ao (ao rfl rfl rfl) rfl ((FK (ok.ok _) hb.ok).trans (by rw [decide_eq_false (hb.no x hx)])))),_,rfl⟩) ⟨_,rfl⟩
 exact ⟨s,sP (mh rfl rfl) e⟩
theorem Nv {b:Str} (hb:Bad c b):fX [c.d,.str b]=some 0:=by
 have ⟨s,e⟩:=Ip ok hb;refine Fw rfl (show oX [.val c.d,.val (.str b),.un]=_ from Jw e ?_);have hp:HV (eV 1) [.val c.d,.val (.str b),s]=true:=by
  show (decide (b.length<=50)&&b.cps.toList.all λ x=>decide (x < 16 ^ 8))=true;rw [decide_eq_true hb.len,hb.cps]; rfl
 show (if (Mp _&&HV (eV 1) [.val c.d,.val (.str b),s])=true then some 0 else none)=_;rw [hp]; rfl
theorem Ld {p:Nat} (h:vY c.st q=some p):fX [c.d,c.s q]=none :=
 Fw rfl (show oX [.val c.d,.val (c.s q),.un]=_ from Jv (sP (mh rfl rfl) (E5 ok q p c.st h .un)))
end
theorem Jt {s:Sto} {j:PD} (ho:s[n]?=some (.obj 1 (nf c kd))) (h:fX [c.d,nm]=r):hW [.r n,.d j,.d nm] s=r.bind λ c=>some (c,s):=by
 show jS fX ⟨[some (.r n),some (.d j),some (.d nm),none],s⟩=_;unfold jS mxP;show (((aC (gR 0 "scene") (aC (eV 2) aN)) (vw ⟨[some (.r n),some (.d j),some (.d nm),none],s⟩)).bind fX).bind _=_;rw [ai (d:=c.d) (jL rfl ho rfl) (ai (d:=nm) rfl rfl),PC,h]
theorem Nu {s:Sto} (ho:s[n]?=some (.obj 1 (nf c kd))) (hx:fX [c.d,nm]=none) (h:bQ [.r n,.d (.int j),.d nm] s=some (.d .none,s')):fu [.r n,.d (.int j),.d nm] s=some (.d .none,s') :=
 bI rfl (show mO bQ hW ⟨[some (.r n),some (.d (.int j)),some (.d nm),none],s⟩=_ from Ki (Bn (n:=n) rfl ho rfl (ar (s1:=s) (am rfl) (ar (s1:=s) (am rfl) cw)) (Jt ho hx)) (bJ (bb (n:=n) rfl ho rfl (ar (s1:=s) (am rfl) (ar (s1:=s) (am rfl) cw)) h)))
theorem K7 {s:Sto} (ho:s[n]?=some (.obj 1 (nf c kd))) (hx:fX [c.d,nm]=some 0):fu [.r n,.d (.int j),.d nm] s=some (.d (C6 0),s) :=
 bI rfl (show mO bQ hW ⟨[some (.r n),some (.d (.int j)),some (.d nm),none],s⟩=_ from Kh (Bn (n:=n) rfl ho rfl (ar (s1:=s) (am rfl) (ar (s1:=s) (am rfl) cw)) (Jt ho hx)) rfl)
abbrev evB:Wd->Option MOut:=(aM (bR 12 (g6 bn (maC (mP (eV 1)) (maC (wU (mV 4) (mP (eV 8))) (maC (mP (eV 9)) (maC (mP (eV 6)) (maC (mP (eV 10)) (maC (mP (eV 11)) maN)))))))) (mIf (mB (dP pNe (g6 bN (maC (mV 2) (maC (mP (eV 9)) (maC (mP (eV 8)) (maC (mP (eV 6)) (maC (mP (eV 10)) (maC (mP (eV 11)) maN))))))) (mP (eV 12)))) (fw (mP (eC (.bool false)))) mNx))
abbrev hoB:Wd->Option MOut:=(aM (bR 13 (mP (L2.PU.l2 pIx (eV 5) (lA av (aC (eV 0) (aC (L2.PU.l2 aH (eC (.int 105)) (L2.PU.l2 lz (eC (.int 9)) (eV 7))) (aC (lA va (aC (eV 5) aN)) aN))))))) (aM (bR 12 (mP (lA tpF (aC (eC (.str "refused")) (aC (eC (.int 0)) aN))))) (aM (mIf (tPv (bT (L2.PU.l2 pNe (eV 13) (eC (.str "zz"))))) (aM (bR 12 (mP (eC .none))) (jC (wU (mV 4) (mP (eV 8))) (mP (eC (.str "held"))) (mP (eV 13)))) mNx) (mIf (mB (dP pNe (g6 fu (maC (mV 2) (maC (mP (eV 8)) (maC (mP (eV 13)) maN)))) (mP (eV 12)))) (fw (mP (eC (.bool false)))) mNx))))
abbrev frB:Wd->Option MOut:=(aM (jC (wU (mV 4) (mP (eV 8))) (mP (eC (.str "held"))) (mP (eC .none))) (mIf (mB (dP (jB true) (bu 1 "free" gf (mV 2) (maC (mP (eV 8)) maN)) (mP (eC .none)))) (fw (mP (eC (.bool false)))) mNx))
abbrev M9:Wd->Option MOut:=(mIf (CP (mB (dP pNe (bu 1 "holder" cE (mV 2) (maC (mP (eV 14)) maN)) (gQ (wU (mV 4) (mP (eV 14))) (mP (eC (.str "held")))))) (mB (dP pNe (bu 1 "over" bC (mV 2) (maC (mP (eV 14)) maN)) (gQ (wU (mV 4) (mP (eV 14))) (mP (eC (.str "over"))))))) (fw (mP (eC (.bool false)))) mNx)
abbrev apB:Wd->Option MOut:=(qX (vB (bu 1 "over" bC (mV 2) (maC (mP (eV 8)) maN)) (mP (eC (.str "zz")))))
abbrev wyB:Wd->Option MOut:=(mIf (tPv (bT (L2.PU.l2 pLt (eV 9) (eC (.int 3))))) evB (mIf (tPv (bT (L2.PU.l2 pEq (eV 9) (eC (.int 3))))) hoB frB))
abbrev Ha:Wd->Option MOut:=(aM (bR 8 (mP (lA av (aC (eV 0) (aC (L2.PU.l2 aH (eC (.int 100)) (L2.PU.l2 lz (eC (.int 9)) (eV 7))) (aC (eC (.int 2)) aN)))))) (aM (bR 9 (mP (L2.PU.l2 pIx (eC (.list [(.int 0),(.int 0),(.int 1),(.int 1),(.int 2),(.int 2),(.int 3),(.int 4)])) (lA av (aC (eV 0) (aC (L2.PU.l2 aH (eC (.int 101)) (L2.PU.l2 lz (eC (.int 9)) (eV 7))) (aC (eC (.int 8)) aN))))))) (aM (bR 10 (mP (L2.PU.l2 wB (lA av (aC (eV 0) (aC (L2.PU.l2 aH (eC (.int 102)) (L2.PU.l2 lz (eC (.int 9)) (eV 7))) (aC (eC (.int 10)) aN)))) (eC (.int 2))))) (aM (bR 11 (mP (L2.PU.l2 wB (lA av (aC (eV 0) (aC (L2.PU.l2 aH (eC (.int 103)) (L2.PU.l2 lz (eC (.int 9)) (eV 7))) (aC (eC (.int 10)) aN)))) (eC (.int 2))))) (aM (bR 6 (mP (L2.PU.l2 aH (eV 6) (lA av (aC (eV 0) (aC (L2.PU.l2 aH (eC (.int 104)) (L2.PU.l2 lz (eC (.int 9)) (eV 7))) (aC (eC (.int 15)) aN))))))) (aM wyB (aM (xU [14] (iPu (λ η=>((aC (eC (.int 2)) aN) η).bind rng1)) (tgN 14) M9) apB)))))))
abbrev O4:Wd->Option (List PD×Sto):=(iPu (λ η=>((aC (lA GD (aC (eC (.int 1)) (aC (lA GC (aC (eC (.int 10)) (aC (lA va (aC (eV 0) aN)) aN))) aN))) aN) η).bind rng1))
abbrev Po:Wd->Option MOut:=(mIf (CP (zr (mB (g6 eW maN))) (zr (mB (g6 cD maN)))) (fw (mP (eC (.bool false)))) mNx)
abbrev Pn:Wd->Option MOut:=(fw (EF (dP pEq (bu 1 "over" bC (mV 2) (maC (mP (eC (.int 2))) maN)) (mP (oE (λ η=>(aN η).bind gL)))) (EF (dP pEq (bu 1 "over" bC (mV 3) (maC (mP (eC (.int 0))) maN)) (mP (oE (λ η=>(aN η).bind gL)))) (dP (jB false) (bu 1 "holder" cE (mV 3) (maC (mP (eC (.int 1))) maN)) (mP (eC .none))))))
abbrev Ph:Wd->Option MOut:=(aM (bR 1 (mP (lA dM (aC (eV 0) (aC (eC (.int 0)) aN))))) (aM (bR 2 (qv 1 a6 (maC (mP (eV 1)) maN))) (aM (bR 3 (qv 1 a6 (maC (mP (eV 1)) maN))) (aM (bR 4 (yT (maC (g6 bE maN) (maC (g6 bE maN) maN)))) (aM (bR 5 (mP (L2.PU.l2 aH (oE (cm [none] (lI qk (eV 1)) (tgN 0) fg (L2.PU.l2 pIx (eV 0) (eC (.int 0))))) (oE (λ η=>((aC (eC (.str "zz")) aN) η).bind gL))))) (aM (bR 6 (mP (eC (.int 0)))) (aM (xU [7] O4 (tgN 7) Ha) (aM Po Pn))))))))
abbrev G (ns:List Int) (sc:PD) (n z g:Nat) (nm:PD) (mo:Int) (x7 x8 x9 x10 x11 x12 x13 x14:Option D):MEn:=[some (.d (Sd ns)),some (.d sc),some (.r n),some (.r z),some (.r g),some (.d nm),some (.d (.int mo)),x7,x8,x9,x10,x11,x12,x13,x14]
def bxs (c:Sc):List Nat:=c.st.map (·.1)
abbrev nmD (c:Sc):PD:=.list ((bxs c).map c.s++[.str "zz"])
abbrev iD (i:Int):Option D:=some (.d (.int i))
theorem EH (c:Sc) (s:Sto) (l:List Nat):lD (s++[Cell.lst (l.map λ x=>D.d (c.s x))]) (.r s.length)=some (c.S l):=by
 show (match (s++[Cell.lst (l.map λ x=>D.d (c.s x))])[s.length]? with | some (.fz x)=>some x | some (.lst ds)=>(xl ds).bind λ xs=>some (.list xs) | some (.dct kvs)=>(E1 kvs).bind λ xs=>some (.dict (prs xs)) | _=>none)=_;rw [nV];dsimp only;rw [wf c.s l]; rfl
section
variable {c:Sc} {s:Sto} {n g z b:Nat} {ad:Nat->Nat} {K:Int->Hd} {ns:List Int} {ps:List Nat} {nm:PD} {mo:Int}
theorem ixl (hL:s[g]?=some (.lst [.r (ad 0),.r (ad 1)])) {η:MEn} {j:Nat} (hi:η[i]?=some (some (.r g))) (hk:eV k (vw ⟨η,s⟩)=some (.int (j:Nat))) (hj:j < 2):wU (mV i) (mP (eV k)) ⟨η,s⟩=some (.r (ad j),s):=by
 unfold wU;rw [pO (w:=⟨η,s⟩) hi,PC];dsimp only;rw [am (w:=⟨η,s⟩) hk,PC];dsimp only;rw [hL]
 match j,hj with
 | 0,_=>rfl
 | 1,_=>rfl
theorem Oy (tn:Tn c ps) (t:Tr c ps (In ps) (BR ps)) (w:Wo c s n g z ad b K) (hb:b < 1000) {j:Nat} (hw:way < 3) (hj:j < 2) (u v:Int) (x7 x12 x13 x14:Option D) :
  ∃ y12 s' K',evB ⟨G ns c.d n z g nm mo x7 (iD (j:Nat)) (iD (way:Nat)) (iD u) (iD v) x12 x13 x14,s⟩=some (.nx ⟨G ns c.d n z g nm mo x7 (iD (j:Nat)) (iD (way:Nat)) (iD u) (iD v) y12 x13 x14,s'⟩)/\Wo c s' n g z ad (b+1) K':=by
 have ⟨s1,s2,rows,K',f1,f2,f3,f4,f5⟩:=w.ev t tn hb hw hj mo u v;refine ⟨some (.d (Rw c rows)),s2,K',?_,f5⟩;refine ak (aO (g0 (ar (am rfl) (ar (ixl w.li rfl rfl hj) (ar (am rfl) (ar (am rfl) (ar (am rfl) (ar (am rfl) rfl)))))) f1)) ?_;exact kZ (jD (fb (g0 (ar rfl (ar (am rfl) (ar (am rfl) (ar (am rfl) (ar (am rfl) (ar (am rfl) rfl)))))) f2) (am rfl) rfl rfl (Lu t.ok f3) rfl))
theorem C7 (w:Wo c s n g z ad b K) {j:Nat} (hj:j < 2) {p:Option Nat} {η:MEn} {e:MF} (h4:η[4]?=some (some (.r g))) (h8:eV 8 (vw ⟨η,s⟩)=some (.int (j:Nat))) (he:e ⟨η,s⟩=some (.d (kD c p),s)) :
  ∃ s1 l,jC (wU (mV 4) (mP (eV 8))) (mP (eC (.str "held"))) e ⟨η,s⟩=some (.nx ⟨η,s1⟩)/\Lo c s1 (ad j) (hold (K (j:Int)) p) l/\okL l (hold (K (j:Int)) p)/\Fr s s1 (ad j):=by
 have ⟨l,lo,lk⟩:=w.lw j hj;refine ⟨s.set (ad j) (.dct (kvL c (hold (K (j:Int)) p) l)),l,?_,lo.set _ _,wN rfl rfl rfl lk,An Stp.refl⟩;rw [uu (w:=⟨η,s⟩) he (ixl w.li h4 h8 hj) rfl rfl lo (show 4<=3000000 by decide),N6]; rfl
theorem Ox (w:Wo c s n g z ad b K) (hb:b < 1000) {j:Nat} (hj:j < 2) (x7 x9 x10 x11 x12 x13 x14:Option D) :
  ∃ s' K',frB ⟨G ns c.d n z g nm mo x7 (iD (j:Nat)) x9 x10 x11 x12 x13 x14,s⟩=some (.nx ⟨G ns c.d n z g nm mo x7 (iD (j:Nat)) x9 x10 x11 x12 x13 x14,s'⟩)/\Wo c s' n g z ad (b+1) K':=by
 have ⟨s1,l,e1,lo,lk,fr⟩:=C7 (η:=G ns c.d n z g nm mo x7 (iD (j:Nat)) x9 x10 x11 x12 x13 x14) (p:=none) (e:=mP (eC .none)) w hj rfl rfl rfl;have ⟨q1,s2,q2,q3⟩:=w.two hb hj lo lk fr λ kd kvs H hl=>ON H hl (j:Int);have ⟨kd,ob⟩:=w.ob;exact ⟨s2,_,ak e1 (kZ (jD (fb (bb (n:=n) rfl (q1.trans ob) rfl (ar (am rfl) rfl) q2) (am rfl) rfl rfl rfl rfl))),q3⟩
theorem IT (ok:c.Ok) (w:Wo c s n g z ad b K) (hb:b < 900) {j:Nat} (hj:j < 2) (x7 x8 x9 x10 x11 x12 x13:Option D) :
  ∃ s',M9 ⟨G ns c.d n z g nm mo x7 x8 x9 x10 x11 x12 x13 (iD (j:Nat)),s⟩=some (.nx ⟨G ns c.d n z g nm mo x7 x8 x9 x10 x11 x12 x13 (iD (j:Nat)),s'⟩)/\Wo c s' n g z ad (b+2) K:=by
 have ⟨s1,e1,w1⟩:=w.stepQ (by omega) (Q:=λ s'=>cE [.r n,.d (.int (j:Int))] s=some (.d (kD c (K (j:Int)).held),s')) (λ kd kvs H hl=>Jq H hl (j:Int));have ⟨s2,e2,w2⟩:=w1.stepQ (by omega) (Q:=λ s'=>bC [.r n,.d (.int (j:Int))] s1=some (.r s'.length,s'++[.lst ((K (j:Int)).trail.map λ x=>D.d (c.s x))])) (λ kd kvs H hl=>K9 H hl (j:Int));have w3:=w2.app [Cell.lst ((K (j:Int)).trail.map λ x=>D.d (c.s x))];obtain ⟨l1,lo1,_⟩:=w1.lw j hj;obtain ⟨l3,lo3,_⟩:=w3.lw j hj;have ⟨kd,o0⟩:=w.ob;have ⟨kd1,o1⟩:=w1.ob;refine ⟨_,kZ (Hb (jD (fb (bb (n:=n) rfl o0 rfl (ar (am rfl) rfl) e1) (sJ (ixl w1.li rfl rfl hj) (am rfl) rfl lo1 (Oi c _ l1)) rfl rfl (wC (GO ok _)) rfl)) (jD (fb (bb (n:=n) rfl o1 rfl (ar (am rfl) rfl) e2) (sJ (ixl w3.li rfl rfl hj) (am rfl) rfl lo3 (Oh c _ l3)) (EH c _ _) rfl (N9 ok _) rfl))),w3⟩
theorem OG (w:Wo c s n g z ad b K) (hb:b < 900) {j:Nat} (x7 x9 x10 x11 x12 x13 x14:Option D) :
  ∃ s',apB ⟨G ns c.d n z g nm mo x7 (iD (j:Nat)) x9 x10 x11 x12 x13 x14,s⟩=some (.nx ⟨G ns c.d n z g nm mo x7 (iD (j:Nat)) x9 x10 x11 x12 x13 x14,s'⟩)/\Wo c s' n g z ad (b+1) K:=by
 have ⟨s2,e2,w2⟩:=w.stepQ (by omega) (Q:=λ s'=>bC [.r n,.d (.int (j:Int))] s=some (.r s'.length,s'++[.lst ((K (j:Int)).trail.map λ x=>D.d (c.s x))])) (λ kd kvs H hl=>K9 H hl (j:Int));have ⟨kd,o0⟩:=w.ob;have bd:=(w.bd (j:Int)).1;refine ⟨s2++[.lst (((K (j:Int)).trail.map λ x=>D.d (c.s x))++[.d (.str "zz")])],?_,w2.app _⟩;rw [<- wt s2 (.lst ((K (j:Int)).trail.map λ x=>D.d (c.s x)))];exact qw (Ac (bb (n:=n) rfl o0 rfl (ar (am rfl) rfl) e2) (nV _ _) (am rfl) (nV _ _) (by rw [PJ]; omega))
end
theorem OU (h:a < 8):∃ v:Nat,v < 5/\pIx (.list [(.int 0),(.int 0),(.int 1),(.int 1),(.int 2),(.int 2),(.int 3),(.int 4)]) (.int (a:Nat))=some (.int ((v:Nat):Int)):=by
 match a,h with
 | 0,_=>exact ⟨0,by decide,rfl⟩
 | 1,_=>exact ⟨0,by decide,rfl⟩
 | 2,_=>exact ⟨1,by decide,rfl⟩
 | 3,_=>exact ⟨1,by decide,rfl⟩
 | 4,_=>exact ⟨2,by decide,rfl⟩
 | 5,_=>exact ⟨2,by decide,rfl⟩
 | 6,_=>exact ⟨3,by decide,rfl⟩
 | 7,_=>exact ⟨4,by decide,rfl⟩
theorem om {ks:List Nat} {t:En->PD->Option En} {body:Wd->Option MOut} {d:PD} {w1 w2:Wd} (h1:mTg ks t w d=some w1) (h2:body w1=some (.nx w2)):mGo ks t body (d::ds) w=mGo ks t body ds w2:=by
 rw [mGo];rw [h1,PC,h2,PC]
theorem Fj:Qj ("zz" : Str)=true:=by decide +kernel
section
variable {c:Sc} {s:Sto} {n g z b:Nat} {ad:Nat->Nat} {K:Int->Hd} {ns:List Int} {ps:List Nat} {mo:Int}
theorem KQ (tn:Tn c ps) (hi:i < ps.length):(bxs c)[i]?=some (i+1):=by
 unfold bxs;rw [tn.st];unfold stF;rw [QC,P9,R1 hi]; rfl
theorem zi (tn:Tn c ps):(bxs c).length=ps.length:=by
 unfold bxs;rw [tn.st];unfold stF;rw [PJ,PJ,Q7]
theorem Oq (hn:ns.length<=63) (tn:Tn c ps) (t:Tr c ps (In ps) (BR ps)) (bad:Bad c "zz") (w:Wo c s n g z ad b K) (hb:b < 1000) {kk:Int} (hk:0<=kk) {j:Nat} (hj:j < 2) (x9 x10 x11 x12 x13 x14:Option D) :
  ∃ y12 y13 s' K',hoB ⟨G ns c.d n z g (nmD c) mo (iD kk) (iD (j:Nat)) x9 x10 x11 x12 x13 x14,s⟩=some (.nx ⟨G ns c.d n z g (nmD c) mo (iD kk) (iD (j:Nat)) x9 x10 x11 y12 y13 x14,s'⟩)/\Wo c s' n g z ad (b+1) K':=by
 have mul:lz (.int 9) (.int kk)=some (.int (9*kk)):=oV (Dl (by decide) (by decide));have ll:((bxs c).map c.s++[PyData.str "zz"]).length=ps.length+1:=by rw [PL,PJ,zi tn]; rfl
 have ⟨i,hi,d1⟩:=jG hn (k:=105+9*kk) (m:=(((bxs c).map c.s++[PyData.str "zz"]).length:Nat)) (by omega) (by rw [ll]; omega);rw [ll] at hi;have ⟨kd,ob⟩:=w.ob;have e13:∀ x:PD,((bxs c).map c.s++[PyData.str "zz"])[i]?=some x->bR 13 (mP (L2.PU.l2 pIx (eV 5) (lA av (aC (eV 0) (aC (L2.PU.l2 aH (eC (.int 105)) (L2.PU.l2 lz (eC (.int 9)) (eV 7))) (aC (lA va (aC (eV 5) aN)) aN)))))) ⟨G ns c.d n z g (nmD c) mo (iD kk) (iD (j:Nat)) x9 x10 x11 x12 x13 x14,s⟩=some (.nx ⟨G ns c.d n z g (nmD c) mo (iD kk) (iD (j:Nat)) x9 x10 x11 x12 (some (.d x)) x14,s⟩):=λ x hx=>by
  refine aO (am (ao rfl (aW (ai rfl (ai (ao rfl (ao rfl rfl mul) rfl) (ai (aW (ai rfl rfl) rfl) rfl))) d1) ?_));show atI ((bxs c).map c.s++[PyData.str "zz"]) (i:Int)=_;unfold atI ixN;rw [if_pos (Int.natCast_nonneg i),if_pos (by rw [ll]; omega),PC,Int.toNat_natCast];exact hx
 have e12:∀ x12 x13:Option D,bR 12 (mP (lA tpF (aC (eC (.str "refused")) (aC (eC (.int 0)) aN)))) ⟨G ns c.d n z g (nmD c) mo (iD kk) (iD (j:Nat)) x9 x10 x11 x12 x13 x14,s⟩=some (.nx ⟨G ns c.d n z g (nmD c) mo (iD kk) (iD (j:Nat)) x9 x10 x11 (some (.d (C6 0))) x13 x14,s⟩):=λ x12 x13=>aO (am (aW (ai rfl (ai rfl rfl)) (gN (by simp))));by_cases h:i < ps.length
 ·have hx:((bxs c).map c.s++[PyData.str "zz"])[i]?=some (c.s (i+1)):=by
   rw [PM (by rw [PJ,zi tn]; exact h),P9,KQ tn h]; rfl
  have hin:In ps (i+1):=⟨by omega,by omega⟩;have hp:=t.par (i+1) hin;have hne:c.nm (i+1) ≠ "zz" := bad.no (i+1,ps.getD i 0) (by
   rw [tn.st];exact Rf.mpr ⟨i,QN.mpr h,rfl⟩)
  have ⟨s1,l,e1,lo,lk,fr⟩:=C7 (η:=G ns c.d n z g (nmD c) mo (iD kk) (iD (j:Nat)) x9 x10 x11 (some (.d .none)) (some (.d (c.s (i+1)))) x14) (p:=some (i+1)) (e:=mP (eV 13)) w hj rfl rfl rfl;have ⟨q1,s2,q2,q3⟩:=w.two hb hj lo lk fr λ kd kvs H hl=>LM H hl (j:Int) (sC tn.ok hp);have tt:tPv (bT (L2.PU.l2 pNe (eV 13) (eC (.str "zz")))) ⟨G ns c.d n z g (nmD c) mo (iD kk) (iD (j:Nat)) x9 x10 x11 (some (.d (C6 0))) (some (.d (c.s (i+1)))) x14,s⟩=some (true,s):=bX (bw (ao rfl rfl ((ze (tn.ok.ok _) Fj).trans (by rw [decide_eq_false hne]; rfl))));exact ⟨_,_,s2,_,ak (e13 _ hx) (ak (e12 _ _) (ak (pQ tt (ak (aO (am rfl)) e1)) (kZ (jD (fb (g0 (ar rfl (ar (am rfl) (ar (am rfl) rfl))) (Nu (q1.trans ob) (Ld tn.ok hp) q2)) (am rfl) rfl rfl (wC rfl) rfl))))),q3⟩
 ·have hx:((bxs c).map c.s++[PyData.str "zz"])[i]?=some (.str "zz"):=by
   rw [P0 (by rw [PJ,zi tn]; omega),PJ,zi tn,show i - ps.length=0 by omega]; rfl
  have tt:tPv (bT (L2.PU.l2 pNe (eV 13) (eC (.str "zz")))) ⟨G ns c.d n z g (nmD c) mo (iD kk) (iD (j:Nat)) x9 x10 x11 (some (.d (C6 0))) (some (.d (.str "zz"))) x14,s⟩=some (false,s):=bX (bw (ao rfl rfl ((ze Fj Fj).trans (by rw [decide_eq_true rfl]; rfl))));have w1:Wo c s n g z ad (b+1) K:=by
   have ⟨s',e,w'⟩:=w.stepQ (Q:=λ s'=>s'=s) hb λ kd kvs H hl=>⟨s,kvs,rfl,H,Stp.refl,RA _⟩;rw [e] at w';exact w'
  exact ⟨_,_,s,K,ak (e13 _ hx) (ak (e12 _ _) (ak (kZ tt) (kZ (jD (fb (g0 (ar rfl (ar (am rfl) (ar (am rfl) rfl))) (K7 ob (Nv tn.ok bad))) (am rfl) rfl rfl (wC (by decide +kernel)) rfl))))),w1⟩
theorem KN (ok:c.Ok) (w:Wo c s n g z ad b K) (hb:b < 800) {nm:PD} (x7 x8 x9 x10 x11 x12 x13 x14:Option D) :
  ∃ y14 s',xU [14] (iPu (λ η=>((aC (eC (.int 2)) aN) η).bind rng1)) (tgN 14) M9 ⟨G ns c.d n z g nm mo x7 x8 x9 x10 x11 x12 x13 x14,s⟩=some (.nx ⟨G ns c.d n z g nm mo x7 x8 x9 x10 x11 x12 x13 y14,s'⟩)/\Wo c s' n g z ad (b+4) K:=by
 have ⟨s1,e1,w1⟩:=IT (ns:=ns) (nm:=nm) (mo:=mo) ok w (by omega) (j:=0) (by decide) x7 x8 x9 x10 x11 x12 x13;have ⟨s2,e2,w2⟩:=IT (ns:=ns) (nm:=nm) (mo:=mo) ok w1 (by omega) (j:=1) (by decide) x7 x8 x9 x10 x11 x12 x13;refine ⟨iD ((1:Nat):Int),s2,uW (Ak (xs:=[.int ((0:Nat):Int),.int ((1:Nat):Int)]) rfl) ?_,w2⟩;refine (om (pP (w:=⟨G ns c.d n z g nm mo x7 x8 x9 x10 x11 x12 x13 x14,s⟩) (by show 14 < 15; decide)) e1).trans ?_;exact (om (pP (w:=⟨G ns c.d n z g nm mo x7 x8 x9 x10 x11 x12 x13 (iD ((0:Nat):Int)),s1⟩) (by show 14 < 15; decide)) e2).trans rfl
theorem JB (hn:ns.length<=63) (tn:Tn c ps) (t:Tr c ps (In ps) (BR ps)) (bad:Bad c "zz") (w:Wo c s n g z ad b K) (hb:b < 700) {kk:Int} (hk:0<=kk) (x8 x9 x10 x11 x12 x13 x14:Option D) :
  ∃ mo' y8 y9 y10 y11 y12 y13 y14 s' K',Ha ⟨G ns c.d n z g (nmD c) mo (iD kk) x8 x9 x10 x11 x12 x13 x14,s⟩=some (.nx ⟨G ns c.d n z g (nmD c) mo' (iD kk) y8 y9 y10 y11 y12 y13 y14,s'⟩)/\Wo c s' n g z ad (b+6) K':=by
 have mul:lz (.int 9) (.int kk)=some (.int (9*kk)):=oV (Dl (by decide) (by decide));have ⟨j,hj,d1⟩:=jG hn (k:=100+9*kk) (m:=2) (by omega) (by decide);have ⟨a,ha,d2⟩:=jG hn (k:=101+9*kk) (m:=8) (by omega) (by decide);obtain ⟨u,_,d3⟩:=jG hn (k:=102+9*kk) (m:=10) (by omega) (by decide);obtain ⟨v,_,d4⟩:=jG hn (k:=103+9*kk) (m:=10) (by omega) (by decide);obtain ⟨r,_,d5⟩:=jG hn (k:=104+9*kk) (m:=15) (by omega) (by decide);have ⟨way,hw,e9⟩:=OU (a:=a) (by omega);have hj2:j < 2:=by omega
 have key:∃ y12 y13 s1 K1,wyB ⟨G ns c.d n z g (nmD c) (mo+(r:Int)) (iD kk) (iD (j:Nat)) (iD (way:Nat)) (iD ((u:Int) - 2)) (iD ((v:Int) - 2)) x12 x13 x14,s⟩=some (.nx ⟨G ns c.d n z g (nmD c) (mo+(r:Int)) (iD kk) (iD (j:Nat)) (iD (way:Nat)) (iD ((u:Int) - 2)) (iD ((v:Int) - 2)) y12 y13 x14,s1⟩)/\Wo c s1 n g z ad (b+1) K1:=by
  have t3:tPv (bT (L2.PU.l2 pLt (eV 9) (eC (.int 3)))) ⟨G ns c.d n z g (nmD c) (mo+(r:Int)) (iD kk) (iD (j:Nat)) (iD (way:Nat)) (iD ((u:Int) - 2)) (iD ((v:Int) - 2)) x12 x13 x14,s⟩=some (decide (((way:Nat):Int) < 3),s):=bX (bw (ao rfl rfl rfl));have t4:tPv (bT (L2.PU.l2 pEq (eV 9) (eC (.int 3)))) ⟨G ns c.d n z g (nmD c) (mo+(r:Int)) (iD kk) (iD (j:Nat)) (iD (way:Nat)) (iD ((u:Int) - 2)) (iD ((v:Int) - 2)) x12 x13 x14,s⟩=some (((way:Nat):Int)==3,s):=bX (bw (ao rfl rfl (eZ _ _)));by_cases h3:way < 3
  ·have ⟨y12,s1,K1,e,w1⟩:=Oy (ns:=ns) (nm:=nmD c) (mo:=mo+(r:Int)) tn t w (by omega) h3 hj2 ((u:Int) - 2) ((v:Int) - 2) (iD kk) x12 x13 x14;exact ⟨y12,x13,s1,K1,pQ (t3.trans (by rw [decide_eq_true (by omega)])) e,w1⟩
  ·have f3:=t3.trans (by rw [decide_eq_false (by omega)]);by_cases h4:way=3
   ·subst h4;have ⟨y12,y13,s1,K1,e,w1⟩:=Oq (mo:=mo+(r:Int)) hn tn t bad w (by omega) hk hj2 (iD ((3:Nat):Int)) (iD ((u:Int) - 2)) (iD ((v:Int) - 2)) x12 x13 x14;exact ⟨y12,y13,s1,K1,Il f3 (pQ t4 e),w1⟩
   ·have ⟨s1,K1,e,w1⟩:=Ox (ns:=ns) (nm:=nmD c) (mo:=mo+(r:Int)) w (by omega) hj2 (iD kk) (iD (way:Nat)) (iD ((u:Int) - 2)) (iD ((v:Int) - 2)) x12 x13 x14;exact ⟨x12,x13,s1,K1,Il f3 (Il (t4.trans (by rw [show (((way:Nat):Int)==3)=false from beq_false_of_ne (by omega)])) e),w1⟩
 have ⟨y12,y13,s1,K1,e1,w1⟩:=key;have ⟨y14,s2,e2,w2⟩:=KN (ns:=ns) (nm:=nmD c) (mo:=mo+(r:Int)) tn.ok w1 (by omega) (iD kk) (iD (j:Nat)) (iD (way:Nat)) (iD ((u:Int) - 2)) (iD ((v:Int) - 2)) y12 y13 x14;have ⟨s3,e3,w3⟩:=OG (ns:=ns) (nm:=nmD c) (mo:=mo+(r:Int)) (j:=j) w2 (by omega) (iD kk) (iD (way:Nat)) (iD ((u:Int) - 2)) (iD ((v:Int) - 2)) y12 y13 y14;refine ⟨mo+(r:Int),iD (j:Nat),iD (way:Nat),iD ((u:Int) - 2),iD ((v:Int) - 2),y12,y13,y14,s3,K1,?_,w3⟩;refine ak (aO (am (aW (ai rfl (ai (ao rfl (ao rfl rfl mul) rfl) (ai rfl rfl))) d1))) ?_;refine ak (aO (am (ao rfl (aW (ai rfl (ai (ao rfl (ao rfl rfl mul) rfl) (ai rfl rfl))) d2) e9))) ?_;refine ak (aO (am (ao (aW (ai rfl (ai (ao rfl (ao rfl rfl mul) rfl) (ai rfl rfl))) d3) rfl rfl))) ?_;refine ak (aO (am (ao (aW (ai rfl (ai (ao rfl (ao rfl rfl mul) rfl) (ai rfl rfl))) d4) rfl rfl))) ?_;refine ak (aO (am (ao rfl (aW (ai rfl (ai (ao rfl (ao rfl rfl mul) rfl) (ai rfl rfl))) d5) rfl))) ?_;exact ak e1 (ak e2 e3)
end
structure Sl (P:Nat->Prop) (c:Sc) (s:Sto) (n b:Nat) (K:Int->Hd):Prop where
 ho:∃ kd kvs,HOk c s n kd kvs K/\kvs.length<=b/\∀ i,P i->¬ Own n kd kvs i
 lt:∀ i,P i->i < s.length
section
variable {P:Nat->Prop} {c c':Sc} {s:Sto} {n b:Nat} {K K':Int->Hd}
theorem Sl.ob (h:Sl P c s n b K):∃ kd,s[n]?=some (.obj 1 (nf c kd)):=by
 obtain ⟨kd,kvs,H,_⟩:=h.ho;exact ⟨kd,H.ob⟩
theorem Sl.step {out:Option (D×Sto)} {d:D} (h:Sl P c s n b K) (hb:b < 50) (op:∀ kd kvs,HOk c s n kd kvs K->kvs.length < 60->∃ s' kvs',out=some (d,s')/\HOk c' s' n kd kvs' K'/\Stp s s' (Own n kd kvs) (Own n kd kvs')/\kvs'.length<=kvs.length+1) :
  ∃ s',out=some (d,s')/\Sl P c' s' n (b+1) K'/\∀ i,P i->s'[i]?=s[i]?:=by
 have ⟨kd,kvs,H,hl,hp⟩:=h.ho;have ⟨s',kvs',e,H',st,hl'⟩:=op kd kvs H (by omega);refine ⟨s',e,⟨⟨kd,kvs',H',by omega,λ i hi z=>?_⟩,λ i hi=>P5 (h.lt i hi) st.len⟩,λ i hi=>st.kp i (h.lt i hi) (hp i hi)⟩;rcases st.ow i z with y | y
 ·exact hp i hi y
 ·have:=h.lt i hi; omega
theorem Sl.app (h:Sl P c s n b K) (x:Cell):Sl (λ i=>P i\/i=s.length) c (s++[x]) n b K:=by
 have ⟨kd,kvs,H,hl,hp⟩:=h.ho;refine ⟨⟨kd,kvs,H.app _,hl,λ i hi z=>?_⟩,λ i hi=>?_⟩
 ·rcases hi with y | y
  ·exact hp i y z
  ·have:=H.lt z; omega
 ·rw [PL];rcases hi with y | y
  ·have:=h.lt i y; omega
  ·rw [y]; exact Q3 _
theorem Sl.set (h:Sl P c s n b K) (hi:P i) (x:Cell):Sl P c (s.set i x) n b K:=by
 have ⟨kd,kvs,H,hl,hp⟩:=h.ho;exact ⟨⟨kd,kvs,H.setX (hp i hi),hl,hp⟩,λ i hi=>by rw [Qa]; exact h.lt i hi⟩
theorem Sl.new (c:Sc) (s:Sto):Sl (λ i=>i < s.length) c (s++[.obj 1 (nf c (s.length+1)),.dct []]) s.length 0 (λ _=>hd0):=by
 refine ⟨⟨s.length+1,[],⟨?_,?_,λ _ _=>rfl,λ j d h=>(by cases h),λ j j' m h=>(by cases h),λ _=>⟨by simp [hd0],λ q e=>(by cases e)⟩,⟨[],rfl,List.nodup_nil⟩⟩,PV _,λ i hi z=>?_⟩,λ i hi=>by rw [PL]; omega⟩
 ·rw [P0 (PV _),QE]; rfl
 ·rw [P0 (show s.length<=s.length+1 by omega),Nat.add_sub_cancel_left]; rfl
 ·rcases z with y | y | ⟨j,y⟩
  ·omega
  ·omega
  ·cases y
end
def scK (st:List (Nat×Nat)) (bx:Int):Sc:=⟨st,nmT 0,λ i=>if i=6 then 6 else if i=2 then bx else 0,λ i=>if i=6 then 6 else 0,λ i=>if i=6 then 2 else 5,λ i=>if i=6 then 2 else 5,λ _ => ""⟩
theorem Mc {st:List (Nat×Nat)} (h:st.length<=12) (bx:Int):(scK st bx).Ok:=⟨FQ 0,rfl,Ew 0,λ _=>(by decide +kernel:Qj ("" : Str)=true),h⟩
abbrev cA:Sc:=scK [(4,0)] 0
abbrev cB:Sc:=scK [(2,0)] 0
abbrev cAC:Sc:=scK [(4,0),(6,0)] 0
abbrev cAB:Sc:=scK [(4,0),(2,0)] 10
abbrev bxD (a:Str) (l t w h:Int):PD:=.tuple [.str a,.str "", .int l,.int t,.int w,.int h,.str ""]
theorem dA:cA.d=.tuple [bxD "a" 0 0 5 5]:=by kernel_rfl
theorem dB:cB.d=.tuple [bxD "b" 0 0 5 5]:=by kernel_rfl
theorem dAC:cAC.d=.tuple [bxD "a" 0 0 5 5,bxD "c" 6 6 2 2]:=by kernel_rfl
theorem dAB:cAB.d=.tuple [bxD "a" 0 0 5 5,bxD "b" 10 0 5 5]:=by kernel_rfl
theorem hA:aL [cA.d,.int 2,.int 2]=some (cA.S [4]):=by kernel_rfl
theorem hB:aL [cB.d,.int 2,.int 2]=some (cB.S [2]):=by kernel_rfl
theorem hAC:aL [cAC.d,.int 2,.int 2]=some (cAC.S [4]):=by kernel_rfl
theorem hAB:aL [cAB.d,.int 12,.int 2]=some (cAB.S [2]):=by kernel_rfl
theorem lAB:aB [cAB.d,.int 12,.int 2]=some (cAB.S [2]):=by kernel_rfl
theorem bAB:aK [cAB.d,cAB.s 4]=some (bxD "a" 0 0 5 5):=by kernel_rfl
theorem zp (K:Int->Hd) (j:Int) (h:Hd):upK K j h j=h:=if_pos rfl
theorem okK {st:List (Nat×Nat)} {bx:Int} (h:st.length<=12:=by decide):(scK st bx).Ok:=Mc h bx
section
variable {P:Nat->Prop} {c:Sc} {s:Sto} {n b:Nat} {K:Int->Hd}
theorem Sl.dn (h:Sl P c s n b K) (hb:b < 50) (ok:c.Ok) {mo:PD} {x:Int} (hp:aL [c.d,.int x,.int y]=some (c.S p)) (lp:p.length<=7):∃ s',bi [.r n,.d (.int 1),.d mo,.d (.int x),.d (.int y)] s=some (.d (Rw c (dnR (K 1) p)),s')/\Sl P c s' n (b+1) (upK K 1 (dnH (K 1) p))/\∀ i,P i->s'[i]?=s[i]? :=
 h.step hb λ kd kvs H hl=>OT ok H (by omega) 1 hp lp
theorem Sl.up (h:Sl P c s n b K) (hb:b < 50) (ok:c.Ok) {x:Int} (hp:aL [c.d,.int x,.int y]=some (c.S p)) (lp:p.length<=7):∃ s',bP [.r n,.d (.int 1),.d (.int mo),.d (.int x),.d (.int y)] s=some (.d (Rw c (upR (K 1) p mo)),s')/\Sl P c s' n (b+1) (upK K 1 (upH (K 1) p mo))/\∀ i,P i->s'[i]?=s[i]? :=
 h.step hb λ kd kvs H hl=>OL ok H (by omega) 1 hp lp
theorem Sl.ch (h:Sl P c s n b K) (hb:b < 50) {c2:Sc} (ok:c2.Ok) (hn:∀ x,c2.nm x=c.nm x) (hz:∀ j,j≠0->j≠1->K j=hd0):∃ s',df [.r n,.d c2.d] s=some (.d (.list ((zG (isB c2.st) λ j=>ren id (K j)).map (hD c2))),s')/\Sl P c2 s' n (b+1) (λ j=>fgt (isB c2.st) (ren id (K j)))/\∀ i,P i->s'[i]?=s[i]? :=
 h.step hb λ kd kvs H hl=>by
  have ⟨s',a,b,d⟩:=Js (ρ:=id) (c2:=c2) ok hn H hl hz;exact ⟨s',kvs,a,b,d,RA _⟩
theorem Sl.fr (h:Sl P c s n b K) (fr:Fr s s1 a) (ha:P a):Sl P c s1 n b K:=by
 have ⟨kd,kvs,H,hl,hp⟩:=h.ho;exact ⟨⟨kd,kvs,H.frame λ i hi=>fr.kp i (H.lt hi) λ z=>hp a ha (z ▸ hi),hl,hp⟩,λ i hi=>P5 (h.lt i hi) fr.len⟩
end
theorem mMk {d:PD} {fs:MFs} (hd:c.d=d) (h:fs w=some ([.d d],w.s)):qv 1 a6 fs w=some (.r w.s.length,w.s++[.obj 1 (nf c (w.s.length+1)),.dct []]):=by
 subst hd;exact Ds h (La c w.s)
abbrev dbB:Wd->Option MOut:=(qX (vB (mV 5) (mOp aH (bu 1 "down" bi (mV 3) (maC (mP (eC (.int 1))) (maC (mP (eV 6)) (maC (mP (eC (.int 2))) (maC (mP (eC (.int 2))) maN))))) (bu 1 "up" bP (mV 3) (maC (mP (eC (.int 1))) (maC (mP (eV 7)) (maC (mP (eC (.int 2))) (maC (mP (eC (.int 2))) maN))))))))
theorem F8 {P:Nat->Prop} {s:Sto} {R b:Nat} {h:Hd} {acc:List D} (z:Sl P cAC s n b K) (hb:b < 40) (hK:K 1=h) (hR:P R) (hs:s[R]?=some (.lst acc)) (hl:acc.length<=10) (a:Int) (x0 x1 x2 x4 x8:Option D) (l1:(dnR h [4]).length<=1000) (l2:(upR (dnH h [4]) [4] u).length<=1000) :
  ∃ s' K',dbB ⟨[x0,x1,x2,some (.r n),x4,some (.r R),iD a,iD u,x8],s⟩=some (.nx ⟨[x0,x1,x2,some (.r n),x4,some (.r R),iD a,iD u,x8],s'⟩)/\Sl P cAC s' n (b+2) K'/\K' 1=upH (dnH h [4]) [4] u/\s'[R]?=some (.lst (acc++[.d (Rw cAC (dnR h [4]++upR (dnH h [4]) [4] u))]))/\∀ i,P i->i≠R->s'[i]?=s[i]?:=by
 subst hK;have ⟨s1,e1,z1,k1⟩:=z.dn (mo:=.int a) (by omega) okK hAC (by decide);have ⟨s2,e2,z2,k2⟩:=z1.up (mo:=u) (by omega) okK hAC (by decide);rw [zp] at e2 z2;have ⟨kd,o0⟩:=z.ob;have ⟨kd1,o1⟩:=z1.ob;have hs2:s2[R]?=some (.lst acc):=(k2 R hR).trans ((k1 R hR).trans hs);have ea:=Ac (o:=mV 5) (ds:=acc) (g:=mOp aH (bu 1 "down" bi (mV 3) (maC (mP (eC (.int 1))) (maC (mP (eV 6)) (maC (mP (eC (.int 2))) (maC (mP (eC (.int 2))) maN))))) (bu 1 "up" bP (mV 3) (maC (mP (eC (.int 1))) (maC (mP (eV 7)) (maC (mP (eC (.int 2))) (maC (mP (eC (.int 2))) maN)))))) (pO (i:=5) (w:=⟨[x0,x1,x2,some (.r n),x4,some (.r R),iD a,iD u,x8],s⟩) rfl) hs (mI (bb (n:=n) rfl o0 rfl (ar (am rfl) (ar (am rfl) (ar (am rfl) (ar (am rfl) rfl)))) e1) (bb (n:=n) rfl o1 rfl (ar (am rfl) (ar (am rfl) (ar (am rfl) (ar (am rfl) rfl)))) e2) rfl rfl (vO l1 l2)) hs2 (by omega);exact ⟨_,_,qw ea,z2.set hR _,zp _ _ _,BK hs2,λ i hi hne=>by rw [PK (Ne.symm hne)]; exact (k2 i hi).trans (k1 i hi)⟩
abbrev tgD:=tgT (bG (tgN 6) (bG (tgN 7) kX))
theorem tg_ {x0 x1 x2 x3 x4 x5 x6 x7 x8:Option D} {s:Sto} {a:Int}:mTg [6,7] tgD ⟨[x0,x1,x2,x3,x4,x5,x6,x7,x8],s⟩ (.tuple [.int a,.int u])=some ⟨[x0,x1,x2,x3,x4,x5,iD a,iD u,x8],s⟩:=rfl
def q0:Hd:=upH (fgt (isB cAC.st) (ren id (dnH hd0 [4]))) [4] 5
def q1:Hd:=upH (dnH q0 [4]) [4] 25
def q2:Hd:=upH (dnH q1 [4]) [4] 45
def q3:Hd:=upH (dnH q2 [4]) [4] 66
abbrev rw1 (h:Hd) (u:Int):PD:=Rw cAC (dnR h [4]++upR (dnH h [4]) [4] u)
abbrev clD:PD:=.list [(.tuple [(.str "up"),(.str "a")]),(.tuple [(.str "click"),(.str "a")])]
abbrev duD:PD:=.list [(.tuple [(.str "down"),(.str "a")]),(.tuple [(.str "up"),(.str "a")]),(.tuple [(.str "click"),(.str "a")]),(.tuple [(.str "double"),(.str "a")])]
abbrev du3:PD:=.list [(.tuple [(.str "down"),(.str "a")]),(.tuple [(.str "up"),(.str "a")]),(.tuple [(.str "click"),(.str "a")])]
theorem M6 {P:Nat->Prop} {s:Sto} {R b:Nat} (z:Sl P cAC s n b K) (hb:b < 20) (hK:K 1=q0) (hR:P R) (hs:s[R]?=some (.lst [])) (x0 x1 x2 x4 x6 x7 x8:Option D) :
  ∃ s',xU [6,7] (iPu (lI qk (eC (.tuple [(.tuple [(.int 20),(.int 25)]),(.tuple [(.int 30),(.int 45)]),(.tuple [(.int 60),(.int 66)]),(.tuple [(.int 70),(.int 86)])])))) tgD dbB ⟨[x0,x1,x2,some (.r n),x4,some (.r R),x6,x7,x8],s⟩=some (.nx ⟨[x0,x1,x2,some (.r n),x4,some (.r R),iD 70,iD 86,x8],s'⟩)/\s'[R]?=some (.lst [.d (rw1 q0 25),.d (rw1 q1 45),.d (rw1 q2 66),.d (rw1 q3 86)])/\∀ i,P i->i≠R->s'[i]?=s[i]?:=by
 have ⟨s1,K1,e1,z1,h1,r1,k1⟩:=F8 (u:=25) z (by omega) hK hR hs (by decide) 20 x0 x1 x2 x4 x8 (by decide +kernel) (by decide +kernel);have ⟨s2,K2,e2,z2,h2,r2,k2⟩:=F8 (u:=45) z1 (by omega) (h:=q1) h1 hR r1 (by decide) 30 x0 x1 x2 x4 x8 (by decide +kernel) (by decide +kernel);have ⟨s3,K3,e3,z3,h3,r3,k3⟩:=F8 (u:=66) z2 (by omega) (h:=q2) h2 hR r2 (by decide) 60 x0 x1 x2 x4 x8 (by decide +kernel) (by decide +kernel);have ⟨s4,K4,e4,z4,h4,r4,k4⟩:=F8 (u:=86) z3 (by omega) (h:=q3) h3 hR r3 (by decide) 70 x0 x1 x2 x4 x8 (by decide +kernel) (by decide +kernel);refine ⟨s4,uW (Ak (mh rfl rfl)) ?_,r4,λ i hi hne=>(k4 i hi hne).trans ((k3 i hi hne).trans ((k2 i hi hne).trans (k1 i hi hne)))⟩;exact (om tg_ e1).trans ((om tg_ e2).trans ((om tg_ e3).trans ((om tg_ e4).trans rfl)))
theorem GX (s0:Sto):∃ s',eW [] s0=some (.d (.bool true),s')/\∀ i,i < s0.length->s'[i]?=s0[i]?:=by
 have z1:=Sl.new cA s0;have ⟨s2,e2,z2,k2⟩:=z1.dn (mo:=.int 0) (by decide) okK hA (by decide);have ⟨s3,e3,z3,k3⟩:=z2.ch (c2:=cB) (by decide) okK (λ _=>rfl) λ j _ h1=>if_neg h1;have ⟨s4,e4,z4,k4⟩:=z3.up (mo:=5) (by decide) okK hB (by decide);have ⟨kd1,o1⟩:=z1.ob;have ⟨kd2,o2⟩:=z2.ob;have ⟨kd3,o3⟩:=z3.ob;rw [dB] at e3;have b4:∀ i,i < s0.length->s4[i]?=s0[i]?:=λ i hi=>(k4 i hi).trans ((k3 i hi).trans ((k2 i hi).trans (PM hi)));have l4:s0.length<=s4.length:=by
  by_cases h:s0.length=0
  ·omega
  ·have:=z4.lt (s0.length - 1) (by omega); omega
 generalize hw0:([some (.d (bxD "a" 0 0 5 5)),some (.r s0.length),none,none,none,none,none,none,none]:MEn)=η0;have et:=Cb (w:=⟨η0,s0++[.obj 1 (nf cA (s0.length+1)),.dct []]⟩) (ar (bb (k:=1) (nm := "down") (n:=s0.length) (pO (i:=1) (by rw [<- hw0]; rfl)) o1 rfl (ar (f:=mP (eC (.int 1))) (am rfl) (ar (f:=mP (eC (.int 0))) (am rfl) (ar (f:=mP (eC (.int 2))) (am rfl) (ar (f:=mP (eC (.int 2))) (am rfl) cw)))) e2)
  (ar (bb (k:=1) (nm := "change") (n:=s0.length) (pO (i:=1) (by rw [<- hw0]; rfl)) o2 rfl (ar (f:=mP (eC (.tuple [(.tuple [(.str "b"),(.str ""),(.int 0),(.int 0),(.int 5),(.int 5),(.str "")])]))) (am rfl) cw) e3)
  (ar (bb (k:=1) (nm := "up") (n:=s0.length) (pO (i:=1) (by rw [<- hw0]; rfl)) o3 rfl (ar (f:=mP (eC (.int 1))) (am rfl) (ar (f:=mP (eC (.int 5))) (am rfl) (ar (f:=mP (eC (.int 2))) (am rfl) (ar (f:=mP (eC (.int 2))) (am rfl) cw)))) e4) cw))) (by decide)
 have ef:=Ab et (nV s4 _) rfl;rw [wt] at ef;generalize htd:PyData.list [Rw cA (dnR ((λ _=>hd0) (1:Int)) [4]),PyData.list ((zG (isB cB.st) λ j=>ren id (upK (λ _=>hd0) 1 (dnH ((λ _=>hd0) (1:Int)) [4]) j)).map (hD cB)),Rw cB (upR (fgt (isB cB.st) (ren id (upK (λ _=>hd0) 1 (dnH ((λ _=>hd0) (1:Int)) [4]) 1))) [2] 5)]=td at ef;have t1:pNe td (.list [(.list [(.tuple [(.str "enter"),(.str "a")]),(.tuple [(.str "down"),(.str "a")])]),(.list [(.tuple [(.int 1),(.str "a")])]),(.list [(.tuple [(.str "enter"),(.str "b")])])])=some (.bool false):=by
  rw [<- htd]; kernel_rfl
 generalize hs5:s4++[Cell.fz td]=s5 at ef;have b5:∀ i,i < s0.length->s5[i]?=s0[i]?:=λ i hi=>by
  rw [<- hs5,PM (P5 hi l4)]; exact b4 i hi
 have l5:s0.length<=s5.length:=by rw [<- hs5,PL]; omega
 have y5:=Sl.new cA s5;have ⟨s6,e6,y6,j6⟩:=y5.dn (mo:=.int 0) (by decide) okK hA (by decide);have ⟨s7,e7,y7,j7⟩:=y6.ch (c2:=cAC) (by decide) okK (λ _=>rfl) λ j _ h1=>if_neg h1;have ⟨s8,e8,y8,j8⟩:=y7.up (mo:=5) (by decide) okK hAC (by decide);have ⟨kd5,o5⟩:=y5.ob;have ⟨kd6,o6⟩:=y6.ob;have ⟨kd7,o7⟩:=y7.ob;rw [dAC] at e7;have t2:pNe (.list ((zG (isB cAC.st) λ j=>ren id (upK (λ _=>hd0) 1 (dnH ((λ _=>hd0) (1:Int)) [4]) j)).map (hD cAC))) (.list [])=some (.bool false):=by kernel_rfl
 have t3:pNe (Rw cAC (upR ((λ j=>fgt (isB cAC.st) (ren id (upK (λ _=>hd0) 1 (dnH ((λ _=>hd0) (1:Int)) [4]) j))) (1:Int)) [4] 5)) clD=some (.bool false):=by kernel_rfl
 have y9:=y8.app (.lst []);have ⟨s10,ed,r10,k10⟩:=M6 y9 (by decide) (zp _ _ _) (.inr rfl) (nV s8 _) (some (.d (bxD "a" 0 0 5 5))) (some (.r s0.length)) (some (.d td)) (some (.d clD)) none none none;have t4:pEq (.list [rw1 q0 25,rw1 q1 45,rw1 q2 66,rw1 q3 86]) (.list [duD,du3,du3,duD])=some (.bool true):=by kernel_rfl
 refine ⟨s10,bI rfl (show nH a6 bP df bi ⟨[none,none,none,none,none,none,none,none,none],s0⟩=_ from ?_),λ i hi=>?_⟩
 ·refine ak (aO (am (aW (ai rfl (ai rfl (ai rfl (ai rfl (ai rfl (ai rfl (ai rfl rfl))))))) (gN (by simp))))) ?_;refine ak (aO (mMk dA (ar (am (aW (ai rfl rfl) (gN (by simp)))) cw))) ?_;subst hw0;refine ak (aO ef) ?_;refine ak (kZ (s:=s5) (bX (bw (ao rfl rfl t1)))) ?_;refine ak (aO (mMk dA (ar (am (aW (ai rfl rfl) (gN (by simp)))) cw))) ?_;refine ak (qw (bb (n:=s5.length) rfl o5 rfl (ar (am rfl) (ar (am rfl) (ar (am rfl) (ar (am rfl) rfl)))) e6)) ?_;refine ak (aO (am rfl)) ?_;refine ak (kZ (Hb (jD (fb (bb (n:=s5.length) rfl o6 rfl (ar (am (aW (ai rfl (ai (aW (ai rfl (ai rfl (ai rfl (ai rfl (ai rfl (ai rfl (ai rfl rfl))))))) (gN (by simp))) rfl)) (gN (by simp)))) cw) e7) (am (cH (dj rfl (eX (by simp))))) rfl rfl t2 rfl)) (jD (fb (bb (n:=s5.length) rfl o7 rfl (ar (am rfl) (ar (am rfl) (ar (am rfl) (ar (am rfl) rfl)))) e8) (am rfl) rfl rfl t3 rfl)))) ?_;refine ak (w1:=⟨[some (.d (bxD "a" 0 0 5 5)),some (.r s0.length),some (.d td),some (.r s5.length),some (.d clD),some (.r s8.length),none,none,none],s8++[.lst []]⟩) (aO rfl) ?_;refine ak ed ?_;refine ak (w1:=⟨[some (.d (bxD "a" 0 0 5 5)),some (.r s0.length),some (.d td),some (.r s5.length),some (.d clD),some (.r s8.length),iD 70,iD 86,some (.d duD)],s10⟩) (aO (am (ao (ao rfl rfl rfl) rfl rfl))) ?_;refine bJ (fb (pO (i:=5) rfl) (am (cH (dj (ai rfl (ai (d:=du3) rfl (ai (d:=du3) rfl (ai rfl rfl)))) (eX (by simp))))) ?_ rfl t4 rfl);show (match s10[s8.length]? with | some (.fz x)=>some x | some (.lst ds)=>(xl ds).bind λ xs=>some (.list xs) | some (.dct kvs)=>(E1 kvs).bind λ xs=>some (.dict (prs xs)) | _=>none)=_;rw [r10]; rfl
 ·have hi5:i < s5.length:=P5 hi l5;have l8:i < s8.length:=y8.lt i hi5;rw [k10 i (.inl hi5) (by omega),PM l8,j8 i hi5,j7 i hi5,j6 i hi5,PM hi5];exact b5 i hi
theorem Dr.tr {d:Dr} (hd:d.Ok) (hlen:d.ps.length<=7):d.sc.Ok/\A9 d.ps:=⟨⟨hd.inj,hd.top,hd.ok,λ a=>hd.okm _,by
  show (stF d.ps).length<=12;unfold stF;rw [PJ,Q7]; omega⟩,⟨hlen,hd.par⟩⟩
theorem NA (tn:Tn c ps):Tr c ps (In ps) (BR ps):=⟨tn.ok,λ q h=>h,λ q h=>by rw [tn.st]; exact zd h.1 h.2,λ q h=>by rw [tn.st]; exact Ka tn.ps h.1 h.2,λ q h x hx=>P_in' tn.ps q h hx,by rw [tn.st]; exact Mi tn.ps,λ q h=>Af tn.ps h,MJ tn.ps,tn.ps⟩
theorem CD (c:Sc) (s:Sto):bE [] s=some (.r s.length,s++[.dct (kvL c hd0 none)]):=by
 refine bI rfl (show p8 ⟨[],s⟩=_ from bJ ?_);rfl
theorem sA:cAB.s 4=.str "a" := by kernel_rfl
abbrev heB:Wd->Option MOut:=(aM (bR 5 (g6 bn (maC (mP (eV 0)) (maC (mV 2) (maC (mP (eV 3)) (maC (mP (eV 4)) (maC (mP (eC (.int 12))) (maC (mP (eC (.int 2))) maN))))))))
  (mIf (mB (dP pNe (g6 bN (maC (mV 1) (maC (mP (eV 3)) (maC (mP (eC (.int 1))) (maC (mP (eV 4)) (maC (mP (eC (.int 12))) (maC (mP (eC (.int 2))) maN))))))) (mP (eV 5)))) (fw (mP (eC (.bool false)))) mNx))
theorem LB {P:Nat->Prop} {s:Sto} {b:Nat} {h:Hd} (hw:way < 3) (mo:Int) (z:Sl P cAB s n b K) (hb:b < 40) (hK:K 1=h) (ha:P a) (lo:Lo cAB s a h l) (lk:okL l h) (ht:h.trail.length<=7) (x5:Option D) :
  ∃ y5 s' K' l',heB ⟨[some (.d cAB.d),some (.r n),some (.r a),iD (way:Nat),iD mo,x5],s⟩=some (.nx ⟨[some (.d cAB.d),some (.r n),some (.r a),iD (way:Nat),iD mo,y5],s'⟩)/\Sl P cAB s' n (b+1) K'/\K' 1=stH way h [2] mo/\Lo cAB s' a (stH way h [2] mo) l'/\okL l' (stH way h [2] mo)/\∀ i,P i->i≠a->s'[i]?=s[i]?:=by
 subst hK;have ⟨s1,l',e1,e2,e3,e4⟩:=OS (mo:=mo) hw okK lo lAB ht (by decide) lk;have z1:=z.fr e4 ha;have ⟨s2,f1,z2,k2⟩:=z1.step (c':=cAB) (by omega) λ kd kvs H hl=>LN okK H (by omega) hw 1 (mo:=mo) hAB (by decide);refine ⟨_,s2,_,l',ak (aO (g0 (ar (am rfl) (ar rfl (ar (am rfl) (ar (am rfl) (ar (am rfl) (ar (am rfl) rfl)))))) e1)) (kZ (jD (fb (g0 (ar rfl (ar (am rfl) (ar (am rfl) (ar (am rfl) (ar (am rfl) (ar (am rfl) rfl)))))) f1) (am rfl) rfl rfl (Lu okK (NN way _ [2] mo)) rfl))),z2,zp _ _ _,(k2 a ha).trans e2,e3,λ i hi hne=>(k2 i hi).trans (e4.kp i (z.lt i hi) hne)⟩
theorem tgH {x0 x1 x2 x3 x4 x5:Option D} {s:Sto} {a:Int}:mTg [3,4] (tgT (bG (tgN 3) (bG (tgN 4) kX))) ⟨[x0,x1,x2,x3,x4,x5],s⟩ (.tuple [.int a,.int u])=some ⟨[x0,x1,x2,iD a,iD u,x5],s⟩:=rfl
theorem Ot (s0:Sto):∃ s',cD [] s0=some (.d (.bool true),s')/\∀ i,i < s0.length->s'[i]?=s0[i]?:=by
 have z1:=Sl.new cAB s0;generalize hs1:s0++[Cell.obj 1 (nf cAB (s0.length+1)),Cell.dct []]=s1 at z1;have l1:s0.length < s1.length:=by rw [<- hs1,PL]; simp
 have z2:=z1.app (.dct (kvL cAB hd0 none));have ⟨kd2,o2⟩:=z2.ob;have ⟨s3,e3,z3,k3⟩:=z2.step (c':=cAB) (by decide) λ kd kvs H hl=>LM H (by omega) 1 bAB;have lo3:Lo cAB s3 s1.length hd0 none:=(k3 _ (.inr rfl)).trans (nV _ _);have p4:=Hx (w:=⟨[some (.d cAB.d),some (.r s0.length),some (.r s1.length),none,none,none],s3⟩) (i:=2) (p:=some 4) (e:=mP (eC (.str "a"))) rfl lo3 (by rw [show kD cAB (some 4)=.str "a" from sA]; rfl);have z4:=z3.set (.inr rfl) (.dct (kvL cAB (hold hd0 (some 4)) none));have lo4:=lo3.set (hold hd0 (some 4)) none;have ⟨y5,s5,K5,l5,e5,z5,q5,lo5,lk5,k5⟩:=LB (way:=1) (by decide) 0 z4 (by decide) (zp _ _ _) (.inr rfl) lo4 (.inl rfl) (by decide) none;have ⟨y6,s6,K6,l6,e6,z6,q6,lo6,lk6,k6⟩:=LB (way:=2) (by decide) 5 z5 (by decide) q5 (.inr rfl) lo5 lk5 (by decide +kernel) y5;refine ⟨s6,bI rfl (show kn a6 bE bQ bn bN ⟨[none,none,none,none,none,none],s0⟩=_ from ?_),λ i hi=>?_⟩
 ·refine ak (w1:=⟨[some (.d cAB.d),none,none,none,none,none],s0⟩) (by rw [dAB]; exact aO (am rfl)) ?_;refine ak (w1:=⟨[some (.d cAB.d),some (.r s0.length),none,none,none,none],s1⟩) (by rw [<- hs1]; exact aO (mMk rfl (ar (am rfl) cw))) ?_;refine ak (aO (g0 rfl (CD cAB s1))) ?_;refine ak (qw (bb (n:=s0.length) rfl o2 rfl (ar (am rfl) (ar (am rfl) cw)) (by rw [sA] at e3; exact e3))) ?_;refine ak p4 ?_;refine ak (w1:=⟨[some (.d cAB.d),some (.r s0.length),some (.r s1.length),iD ((2:Nat):Int),iD 5,y6],s6⟩) (uW (Ak (mh rfl rfl)) ?_) (bJ (am rfl));exact (om tgH e5).trans ((om tgH e6).trans rfl)
 ·have hne:i≠s1.length:=by omega
  rw [k6 i (.inl hi) hne,k5 i (.inl hi) hne,PK (Ne.symm hne),k3 i (.inl hi),PM (by omega),<- hs1,PM hi]
def st7 (c:Sc):Sto:=[.obj 1 (nf c 1),.dct [],.obj 1 (nf c 3),.dct [],.dct (kvL c hd0 none),.dct (kvL c hd0 none),.lst [.r 4,.r 5]]
theorem wo0 (c:Sc):Wo c (st7 c) 0 6 2 (λ i=>4+i) 0 (λ _=>hd0):=by
 have own:∀ i,Own 0 1 ([]:List (Key×D)) i->i=0\/i=1:=λ i h=>by
  rcases h with h | h | ⟨j,h⟩
  ·exact .inl h
  ·exact .inr h
  ·cases h
 refine ⟨⟨1,[],⟨rfl,rfl,λ _ _=>rfl,λ j d h=>(by cases h),λ j j' m h=>(by cases h),λ _=>⟨by simp [hd0],λ q e=>(by cases e)⟩,⟨[],rfl,List.nodup_nil⟩⟩,PV _,λ h=>?_,λ i _ h=>?_,λ h=>?_,λ h=>?_⟩,rfl,λ i hi=>⟨none,?_,.inl rfl⟩,by decide,λ _ _ _=>rfl,rfl,rfl⟩
 ·have:=own _ h; omega
 ·have:=own _ h; omega
 ·have:=own _ h; omega
 ·have:=own _ h; omega
 ·match i,hi with
  | 0,_=>rfl
  | 1,_=>rfl
theorem LP (tn:Tn c ps) {t1:Nat} (hnm:c.nm=nmT t1):Bad c "zz" := by
 refine ⟨Fj,by decide +kernel,by decide +kernel,λ x hx e=>?_⟩;rw [tn.st] at hx;obtain ⟨i,hi,rfl⟩:=Rf.mp hx;have hi:=QN.mp hi;have hl:=tn.ps.len;rw [hnm,xP (show i < 8 by omega)] at e
 have:=congrArg (λ q:Str=>q.cps.size) e
 have h2:("zz" : Str).cps.size=2:=by decide +kernel
 dsimp only at this;rw [h2] at this;simp at this
theorem Hf {f:MTF} {s:Sto} (h:f w=some (true,s)):zr f w=some (false,s):=by
 unfold zr;rw [h]; rfl
theorem Lz {f:MF} {r:Option (D×Sto)} (h1:f w=some (.d (.bool true),s1)) (h2:g ⟨w.η,s1⟩=r):EF f g w=r:=by
 unfold EF;rw [h1]; exact h2
theorem main:∀ ns:List Int,ns.length<=63->∃ s',uS [.d (.list (ns.map Qx))] []=some (.d (.bool true),s'):=λ ns hn=>by
 have ⟨d,t1,hd,hdn,hlen,es⟩:=Hn hn (a0:=0) (by decide);have ⟨okd,pd⟩:=Dr.tr hd hlen;have tn:Tn d.sc d.ps:=⟨okd,rfl,pd⟩;have hnm:d.sc.nm=nmT t1:=hdn;rw [<- Dr.sc_d d] at es;generalize d.sc=c at *;generalize d.ps=ps at *;have t:=NA tn;have bad:=LP tn hnm;obtain ⟨T,hT⟩:∃ T:Int,T=max 1 (min 10 (ns.length:Int)):=⟨_,rfl⟩;have hT1:T<=10:=by rw [hT]; exact Int.max_le.mpr ⟨by decide,Int.min_le_left _ _⟩
 have hT2:1<=T:=by rw [hT]; exact Int.le_max_left _ _
 obtain ⟨w',eL,mo,x7,x8,x9,x10,x11,x12,x13,x14,s8,K8,b8,rfl,hb8,w8⟩:=Kj (ks:=[7]) (t:=tgN 7) (body:=Ha) (λ (k:Nat)=>Qx (0+(k:Int)))
  (λ done w=>∃ (mo:Int) (x7 x8 x9 x10 x11 x12 x13 x14:Option D) (s':Sto) (K:Int->Hd) (b:Nat),w=⟨G ns c.d 0 2 6 (nmD c) mo x7 x8 x9 x10 x11 x12 x13 x14,s'⟩/\b=6*done.length/\Wo c s' 0 6 2 (λ i=>4+i) b K) (List.range T.toNat)
  (λ done k rest w hall ⟨mo,x7,x8,x9,x10,x11,x12,x13,x14,s',K,b,hw,hb,w3⟩=>by
   subst hw;have hl:done.length+1<=10:=by
    have:=congrArg List.length hall
    rw [Q7,PL,P8] at this;omega
   have ⟨mo',y8,y9,y10,y11,y12,y13,y14,s2,K2,e,w2⟩:=JB (mo:=mo) hn tn t bad w3 (by omega) (kk:=0+(k:Int)) (by omega) x8 x9 x10 x11 x12 x13 x14;exact ⟨_,_,pP (by show 7 < 15; decide),e,mo',_,y8,y9,y10,y11,y12,y13,y14,s2,K2,b+6,rfl,by rw [PL,RT]; omega,w2⟩)
  (w:=⟨G ns c.d 0 2 6 (nmD c) 0 none none none none none none none none,st7 c⟩) ⟨0,none,none,none,none,none,none,none,none,st7 c,λ _=>hd0,0,rfl,rfl,wo0 c⟩
 have hb9:b8<=60:=by rw [hb8,Q7]; omega
 have ⟨s9,e9,k9⟩:=GX s8;have ⟨s10,e10,k10⟩:=Ot s9;have l9:s8.length<=s9.length:=by
  by_cases h:s8.length=0
  ·omega
  ·have h1:=k9 (s8.length - 1) (by omega);have h2:s8[s8.length - 1]?≠none:=by rw [ne_eq,List.getElem?_eq_none_iff]; omega
   have h3:¬ s9.length<=s8.length - 1:=λ z=>h2 (h1 ▸ Qw z);omega
 have w10:=w8.ext (s':=s10) λ i hi=>(k10 i (by omega)).trans (k9 i hi);have ⟨s11,e11,w11⟩:=w10.stepQ (by omega) (Q:=λ s'=>bC [.r 0,.d (.int 2)] s10=some (.r s'.length,s'++[.lst ((K8 2).trail.map λ x=>D.d (c.s x))])) (λ kd kvs H hl=>K9 H hl 2);have w12:=w11.app [.lst ((K8 2).trail.map λ x=>D.d (c.s x))];have ⟨kd10,o10⟩:=w10.ob;have H12:HOk c (s11++[.lst ((K8 2).trail.map λ x=>D.d (c.s x))]) 2 3 [] (λ _=>hd0):=⟨w12.oz,w12.od,λ _ _=>rfl,λ j d h=>(by cases h),λ j j' m h=>(by cases h),λ _=>⟨by simp [hd0],λ q e=>(by cases e)⟩,⟨[],rfl,List.nodup_nil⟩⟩;obtain ⟨s13,kv13,e13,H13,_,hl13⟩:=K9 H12 (by decide) 0;have H14:=H13.app [.lst (((λ _=>hd0) (0:Int)).trail.map λ x=>D.d (c.s x))];obtain ⟨s15,kv15,e15,H15,_,_⟩:=Jq H14 (by simp at hl13; omega) 1;have hz:(K8 2).trail=[]:=by rw [w8.hz 2 (by decide) (by decide)]; rfl
 have p1:pEq (c.S (K8 2).trail) (.list [])=some (.bool true):=by rw [hz]; exact Dg rfl
 have p2:pEq (c.S ((λ _=>hd0) (0:Int)).trail) (.list [])=some (.bool true):=Dg rfl;refine ⟨s15,bI rfl (show Ph ⟨[some (.d (Sd ns)),none,none,none,none,none,none,none,none,none,none,none,none,none,none],[]⟩=_ from ?_)⟩;refine ak (aO (am (aW (ai rfl (ai rfl rfl)) es))) ?_;refine ak (aO (mMk (c:=c) rfl (ar (am rfl) cw))) ?_;refine ak (aO (mMk (c:=c) rfl (ar (am rfl) cw))) ?_;have h3:∀ η:MEn,yT (maC (g6 bE maN) (maC (g6 bE maN) maN)) ⟨η,[.obj 1 (nf c 1),.dct [],.obj 1 (nf c 3),.dct []]⟩=some (.r 6,st7 c):=λ η=>Cb (w:=⟨η,[.obj 1 (nf c 1),.dct [],.obj 1 (nf c 3),.dct []]⟩) (s:=[.obj 1 (nf c 1),.dct [],.obj 1 (nf c 3),.dct [],.dct (kvL c hd0 none),.dct (kvL c hd0 none)]) (ds:=[.r 4,.r 5]) (ar (g0 rfl (CD c [.obj 1 (nf c 1),.dct [],.obj 1 (nf c 3),.dct []])) (ar (g0 rfl (CD c [.obj 1 (nf c 1),.dct [],.obj 1 (nf c 3),.dct [],.dct (kvL c hd0 none)])) rfl)) (by decide);refine ak (w1:=⟨[some (.d (Sd ns)),some (.d c.d),some (.r 0),some (.r 2),some (.r 6),none,none,none,none,none,none,none,none,none,none],st7 c⟩) (aO (h3 _)) ?_;refine ak (w1:=⟨[some (.d (Sd ns)),some (.d c.d),some (.r 0),some (.r 2),some (.r 6),some (.d (nmD c)),none,none,none,none,none,none,none,none,none],st7 c⟩) (aO (am (ao (cH (iJ (ds:=c.st.map c.box) (mh rfl rfl) (by rw [PJ]; have:=tn.ok.len; omega) (ou (η:=[.un]) c.box (λ e=>c.s e.1) c.st λ e he=>⟨[.val (c.box e)],rfl,ao rfl rfl rfl⟩))) (cH (dj (ai rfl rfl) (eX (by simp)))) ?_))) ?_
 ·unfold aH;dsimp only;rw [if_pos (by rw [PJ]; exact big (by have:=tn.ok.len; simp; omega))];show _=some (PyData.list ((c.st.map (·.1)).map c.s++[PyData.str "zz"]));rw [QC]; rfl
 refine ak (aO (am rfl)) ?_;refine ak (uW (Ak (dj (ai (aW (ai rfl (ai (aW (ai rfl (ai (aW (ai rfl rfl) (d:=.int (ns.length:Int)) (by show some (Qx (((ns.map Qx).length:Nat):Int))=_; rw [PJ])) rfl)) (BW _ _)) rfl)) ((BX _ _).trans (by rw [<- hT]))) rfl) (BM (by omega) (by omega)))) eL) ?_;refine ak (kZ (Hb (Hf (jD (g0 rfl e9))) (Hf (jD (g0 rfl e10))))) ?_;exact bJ (Lz (fb (bb (n:=0) rfl o10 rfl (ar (am rfl) rfl) e11) (am (cH (dj rfl (eX (by simp))))) (EH c _ _) rfl p1 rfl) (Lz (fb (bb (n:=2) rfl H12.ob rfl (ar (am rfl) rfl) e13) (am (cH (dj rfl (eX (by simp))))) (EH c _ _) rfl p2 rfl) (fb (bb (n:=2) rfl H14.ob rfl (ar (am rfl) rfl) e15) (am rfl) rfl rfl rfl rfl)))
end K20
open PySem L2 L2.PU
theorem PySem.Challenge.cw_touchtree_k20_hands_holds : PySem.Challenge.rw_touchtree_k20_hands.Holds := by
  obtain ⟨K, hY, tx⟩ := K20.tx
  exact Os K20.hk K20.hlA K20.hlB (Jy (n := 63) (k := 23) (x := "_law_script") (CX := λ _ => CX0) (sp := λ w => spL (K w.params)) rfl (by decide) K20.hk.dd ⟨rfl, by decide, by decide⟩ hY (λ w mg fa h KX G hm => by
    obtain ⟨t, tx⟩ := tx w.params mg h KX G
    rw [K20.hk.dn] at hm
    exact MH hm tx.Ig tx.uS (λ _ => (K20.Jm tx).imp (JH K20.main)) λ _ _ _ _ _ _ _ => rfl) (λ _ _ a ns hl _ hS => ⟨a, ns, rfl, hS, hl, λ _ => rfl⟩) λ _ _ _ _ _ z => z)
