import PyProof.Rows.All
import Wide.All
import OpenK.AllK
import Wide.FinOn
import PyProof.EqAt
import PyProof.EqKinds
import PyProof.TupleCall
import PyProof.CompFree
import PyProof.Cells
import KE.KDictList
import KE.KDictLaws
import PyProof.Rows.SetFrom
import PyProof.AttrMissHeap
import KE.KDictOf
import PyProof.StrWalks
import PyProof.ZipIter
import KE.KIntText
import PyProof.CallStr
import PyProof.Rows.StrItems
import PyProof.StrLawsTight
import KE.KSortTup
import KE.KItemsList
import PyProof.ListMulRoad
import PyProof.AutoIntOps
import KE.KRevSl
import Lean
import PySem.Challenge.RW_touchtree_k25_sent
open PySem renaming PyData → Nh, sizeLine → No, Value → Nq, Shared → Nu, starEach → Nw, wpAny_bind → NH, Addr → NI, wpAny_pure → NR, Program → NT, wpAny → N7, model → N9, behindInMarks → Oa, Around → Oh, compareOp → On, FuncData → Oo
open PySem.W renaming Frag → Ni, findIn → Op, emptyDict → Ow, instObj → OG, keepIn → OI, fnOf → O8, openEnds → Pb, plainGet → Pc, OpenLaw → Pf, lookIn → Pn, plainGet_of → Pq, WalkO → Pu, callWith_K → Pv
open List renaming getElem?_set_ne → Nj, length_map → Nl, getElem?_append_left → Nm, length_append → Nn, getElem?_eq_some_iff → Nr, getElem?_append_right → Nt, map_cons → Ny, getElem?_set_self → Nz, mem_cons_of_mem → NA, length_set → NC, size_toArray → ND, mem_singleton → NF, getElem?_map → NG, mem_cons_self → NJ, length_cons → NN, mem_cons → NO, append_assoc → NP, getElem?_eq_getElem → NQ, mem_filter → NU, replicate → NV, prefix_refl → NY, mem_append → N1, foldl_cons → N2, getElem?_eq_none → N3, map_append → N4, foldl_append → N6, getD_eq_getElem?_getD → N8, mem_append_left → Ob, mem_append_right → Od, map_map → Oe, append_nil → Oi, length_drop → Oj, filter_cons → Om, mem_map → Os, length_reverse → Ot, length_range → Ou, mem_flatMap → Ov, flatMap_cons → Oy, any_cons → Oz, length_filter_le → OA, set_append_right → OB, replicate_succ → OC, find?_cons → OD, length_singleton → OF, getElem?_replicate → OJ, lookup_cons → OL, any_eq_true → OM, not_mem_nil → ON, mem_range → OO, prefix_append → OP, length_replicate → OQ, all_cons → OR, flatten_cons → OS, mem_of_getElem? → OV, getElem?_of_mem → OW, drop_eq_getElem_cons → OX, nodup_cons → OY, filter_filter → OZ, lookup → O0, nodup_append → O3, filter_congr → O4, eq_nil_of_length_eq_zero → O6, reverse_cons → Pd, length_take → Pg, drop_length → Ph, all_eq_true → Pj, mem_reverse → Pk, map_reverse → Pl, take_of_length_le → Pm, mem_of_mem_drop → Ps, foldl_nil → Py, filterMap_cons → Pz, getElem?_range → PB, filter_eq_self → PD
open Option renaming bind_some → Nk, bind → NB, map_eq_some_iff → Pe
open Nat renaming le_refl → Np, lt_of_lt_of_le → NK, le_trans → NL, ne_of_lt → NZ, sub_self → N5, strongRecOn → OE, lt_irrefl → OT, zero_le → O5, lt_succ_self → O7, le_of_lt → Po, ne_of_gt → Pp, mul_le_mul_right → Pw
open PySem.Heap renaming get?_push_of_some → Nv, lt_size → NM, get?_push_size → NX
open Bool renaming false_ne_true → NE, and_eq_true → Ol, eq_iff_iff → OH, and_eq_true_iff → OU
open PySem.PyData renaming int → NS, strOk → NW, eqv → Oc, canLay0 → Og, canLayAll0 → Oq, depthAll → Ox
open PySem.PassesOwn renaming never → N0
open PySem.SeqAt renaming shaped → Of
open Int renaming emod_nonneg → O9, emod_lt_of_pos → Pa
set_option Elab.async false
set_option linter.all false
set_option maxRecDepth 100000
set_option maxHeartbeats 4000000
namespace L2.PU
open PySem PySem.W PySem.Spec PyProof.Rows
noncomputable def HLf (p q:NT) (loose:List Str) (Xt:Nu->Bool) (N:Nat) (H:PySem.W.Hook):Prop:=∀ w,(Pb treeTable p w N).map (λ s=>(PySem.W.openSeen q loose (importedModules p.main.body) Xt true s,H.obs s))=some (PySem.W.openGood q loose,H.val w)
structure HK (l:Pf) (p q:NT) (loose:List Str) (XP:(Str->Option Nq)->Heap->Prop) (Xt:Nu->Bool) (N:Nat) where
 H:PySem.W.Hook
 d:DefRec
 dd:d.params.defaults=[]
 dn:d.name = "law"
 go:(∀ H',H'=H->HLf p q loose Xt N H'/\Pu q loose XP H'.says l.row.toRowW d [] (λ f vs=>PySem.call f vs))->l.Holds
noncomputable def hk_mk {l:Pf} {p q:NT} {loose:List Str} {XP:(Str->Option Nq)->Heap->Prop} {Xt:Nu->Bool} {N:Nat} {H:PySem.W.Hook} {d:DefRec} (dd:d.params.defaults=[]) (dn:d.name = "law")
  (go:(∀ H',H'=H->HLf p q loose Xt N H'/\Pu q loose XP H'.says l.row.toRowW d [] (λ f vs=>PySem.call f vs))->l.Holds):HK l p q loose XP Xt N:=⟨H,d,dd,dn,go⟩
theorem Mg {l:Pf} {p q:NT} {loose:List Str} {XP:(Str->Option Nq)->Heap->Prop} {Xt:Nu->Bool} {N:Nat} (k:HK l p q loose XP Xt N) (h1:∀ w,(Pb treeTable p w N).map (λ s=>PySem.W.openSeen q loose (importedModules p.main.body) Xt true s)=some (PySem.W.openGood q loose))
  (h2:∀ w,(Pb treeTable p w N).map (λ s=>k.H.obs s)=some (k.H.val w)) (h3:Pu q loose XP k.H.says l.row.toRowW k.d [] (λ f vs=>PySem.call f vs)):l.Holds :=
 k.go λ H' e=>by
  subst e;refine ⟨λ w=>?_,h3⟩;have a:=h1 w;have b:=h2 w;cases o:Pb treeTable p w N with
  | none=>rw [o] at a; cases a
  | some s =>
   rw [o] at a b;have a':=Option.some.inj a;have b':=Option.some.inj b;show some (_,_)=some (_,_);dsimp only at a' b';rw [a',b']
theorem tx_mk {H:PySem.W.Hook} {K:Params->Ni} {T:Ni->(Str->Option Nq)->Prop} (hY:∀ w h,H.says w h->(K w.params).In h) (tx:∀ (P:Params) (mg:Str->Option Nq) (h:Heap),(K P).In h->h.Ns mainGlobals mg->T (K P) mg) :
  ∃ K:Params->Ni,(∀ w h,H.says w h->(K w.params).In h)/\∀ (P:Params) (mg:Str->Option Nq) (h:Heap),(K P).In h->h.Ns mainGlobals mg->T (K P) mg:=⟨K,hY,tx⟩
end L2.PU
section
open PySem PySem.W PyProof.Rows
noncomputable def K25.view:NT:={ PySem.Challenge.pw_touchtree_k25_sent with main:={ PySem.Challenge.pw_touchtree_k25_sent.main with body:=[51,42,35,22,5,1].foldl (λ l i=>l.eraseIdx i) PySem.Challenge.pw_touchtree_k25_sent.main.body } }
set_option hygiene false in
local macro_rules
 | `(tactic| o_head $H)=>`(tactic| (
   refine holds_open (q:=K25.view) (loose:=["cut_scenes"]) (Xt:=(λ s=>xlAt K25.view [] s&&recOk (RowW.records (OpenRow.toRowW (OpenLaw.row PySem.Challenge.rw_touchtree_k25_sent))) s)) (XP:=XL K25.view []) (Yf:=Hook.obs $H) (Ya:=Hook.val $H) (YP:=Hook.says $H) (N:=7372) (k $H rfl).1 (Hook.of $H) (Hook.keeps $H) (λ s e=>xl_of s (OU.mp e).1) XL.keeps (by rfl) (by rfl) (by rfl) (λ s e=>recFacts_of (OU.mp e).2) (by rfl) (by assumption) (by decide +kernel) ⟨rfl,rfl,rfl,rfl,rfl,by decide +kernel⟩ ?hw (k $H rfl).2))
set_option maxRecDepth 100000 in
set_option maxHeartbeats 0 in
noncomputable def K25.hk:L2.PU.HK PySem.Challenge.rw_touchtree_k25_sent PySem.Challenge.pw_touchtree_k25_sent K25.view ["cut_scenes"] (XL K25.view []) (λ s=>xlAt K25.view [] s&&recOk (RowW.records (OpenRow.toRowW (OpenLaw.row PySem.Challenge.rw_touchtree_k25_sent))) s) 7372:=by
 refine' L2.PU.hk_mk ?dd ?dn (λ k=>?go)
 (case go =>
  w_on; o_law; k_head; (case hw=>w_witness2))
 (case dd=>rfl)
 (case dn=>rfl)
theorem L2.PU.hl4 {q:NT} {loose mods:List Str} {Xt:Nu->Bool} {o:Option Nu}
 (a:o.map (λ s=>(seen ((recsOf q).map (·.name)) (ownsOf q) [] { s with gens:=#[] },s.heap.bltView,tablesOk q s.heap,pinSeenD q (drecsOf q) s))=some (expectedOf q,bltViewBooted,true,pinGoodD (drecsOf q)))
 (b:o.map (λ s=>(plainSeenE q (looseW q loose) s,s.heap.accountedOkI mods,Xt s,s.gens.size==0))=some (plainGoodE q (looseW q loose),true,true,true))
 (c:o.map (λ s=>(s.heap.keysOk (looseW q loose) ((recsOf q).map (·.name)) ((litsOf q).map (·.1)) ((clssOf q (looseW q loose)).map (·.name)),s.heap.isNs mainGlobals,s.heap.isNs builtinsNs,plainSeenD q loose s,clsSeenW q loose s))=some (true,true,true,plainGoodD q loose,clsGoodW q loose))
 (d:o.map (λ s=>(tabsOk q s,wideSeen q s))=some (true,wideGood q)) :
 o.map (λ s=>openSeen q loose mods Xt true s)=some (openGood q loose):=by
 cases o with
 | none=>cases a
 | some s =>
  have a:=Option.some.inj a; have b:=Option.some.inj b; have c:=Option.some.inj c; have d:=Option.some.inj d;simp only [Prod.mk.injEq] at a b c d;obtain ⟨a1,a2,a3,a4⟩:=a; obtain ⟨b1,b2,b3,b4⟩:=b; obtain ⟨c1,c2,c3,c4,c5⟩:=c; obtain ⟨d1,d2⟩:=d;refine congrArg some ?_;show openSeen q loose mods Xt true s=openGood q loose;unfold openSeen openGood;rw [a1,a2,a3,a4,b1,b2,b3,c1,c2,c3,c4,c5,d1,d2,if_pos rfl,b4];rfl
set_option maxRecDepth 100000 in
set_option maxHeartbeats 0 in
theorem K25.hlA' (w:World):(openEnds treeTable PySem.Challenge.pw_touchtree_k25_sent w 7372).map (λ s=>(seen ((recsOf K25.view).map (·.name)) (ownsOf K25.view) [] { s with gens:=#[] },s.heap.bltView,tablesOk K25.view s.heap,pinSeenD K25.view (drecsOf K25.view) s))=some (expectedOf K25.view,bltViewBooted,true,pinGoodD (drecsOf K25.view)):=by
 unfold openEnds fencedOpening topFrom; rewrite [PySem.W.Fast.te10274390034422433532,PySem.W.Fast.te14082659384304107361,PySem.W.Fast.te14364793385576792824,PySem.W.Fast.te14289696077712309145,PySem.W.Fast.te1435165496053646825]; kernel_rfl
set_option maxRecDepth 100000 in
set_option maxHeartbeats 0 in
theorem K25.hlB' (w:World):(openEnds treeTable PySem.Challenge.pw_touchtree_k25_sent w 7372).map (λ s=>(plainSeenE K25.view (looseW K25.view ["cut_scenes"]) s,s.heap.accountedOkI (importedModules PySem.Challenge.pw_touchtree_k25_sent.main.body),(λ s=>xlAt K25.view [] s&&recOk (RowW.records (OpenRow.toRowW (OpenLaw.row PySem.Challenge.rw_touchtree_k25_sent))) s) s,s.gens.size==0))=some (plainGoodE K25.view (looseW K25.view ["cut_scenes"]),true,true,true):=by
 unfold openEnds fencedOpening topFrom; rewrite [PySem.W.Fast.te10274390034422433532,PySem.W.Fast.te14082659384304107361,PySem.W.Fast.te14364793385576792824,PySem.W.Fast.te14289696077712309145,PySem.W.Fast.te1435165496053646825]; kernel_rfl
set_option maxRecDepth 100000 in
set_option maxHeartbeats 0 in
theorem K25.hlC' (w:World):(openEnds treeTable PySem.Challenge.pw_touchtree_k25_sent w 7372).map (λ s=>(s.heap.keysOk (looseW K25.view ["cut_scenes"]) ((recsOf K25.view).map (·.name)) ((litsOf K25.view).map (·.1)) ((clssOf K25.view (looseW K25.view ["cut_scenes"])).map (·.name)),s.heap.isNs mainGlobals,s.heap.isNs builtinsNs,plainSeenD K25.view ["cut_scenes"] s,clsSeenW K25.view ["cut_scenes"] s))=some (true,true,true,plainGoodD K25.view ["cut_scenes"],clsGoodW K25.view ["cut_scenes"]):=by
 unfold openEnds fencedOpening topFrom; rewrite [PySem.W.Fast.te10274390034422433532,PySem.W.Fast.te14082659384304107361,PySem.W.Fast.te14364793385576792824,PySem.W.Fast.te14289696077712309145,PySem.W.Fast.te1435165496053646825]; kernel_rfl
set_option maxRecDepth 100000 in
set_option maxHeartbeats 0 in
theorem K25.hlD' (w:World):(openEnds treeTable PySem.Challenge.pw_touchtree_k25_sent w 7372).map (λ s=>(tabsOk K25.view s,wideSeen K25.view s))=some (true,wideGood K25.view):=by
 unfold openEnds fencedOpening topFrom; rewrite [PySem.W.Fast.te10274390034422433532,PySem.W.Fast.te14082659384304107361,PySem.W.Fast.te14364793385576792824,PySem.W.Fast.te14289696077712309145,PySem.W.Fast.te1435165496053646825]; kernel_rfl
theorem K25.hlA (w:World):(openEnds treeTable PySem.Challenge.pw_touchtree_k25_sent w 7372).map (λ s=>openSeen K25.view ["cut_scenes"] (importedModules PySem.Challenge.pw_touchtree_k25_sent.main.body) (λ s=>xlAt K25.view [] s&&recOk (RowW.records (OpenRow.toRowW (OpenLaw.row PySem.Challenge.rw_touchtree_k25_sent))) s) true s)=some (openGood K25.view ["cut_scenes"]) :=
 L2.PU.hl4 (K25.hlA' w) (K25.hlB' w) (K25.hlC' w) (K25.hlD' w)
set_option maxRecDepth 100000 in
set_option maxHeartbeats 0 in
theorem K25.hlB (w:World):(openEnds treeTable PySem.Challenge.pw_touchtree_k25_sent w 7372).map (λ s=>K25.hk.H.obs s)=some (K25.hk.H.val w):=by
 unfold openEnds fencedOpening topFrom; rewrite [PySem.W.Fast.te10274390034422433532,PySem.W.Fast.te14082659384304107361,PySem.W.Fast.te14364793385576792824,PySem.W.Fast.te14289696077712309145,PySem.W.Fast.te1435165496053646825]; kernel_rfl
end
namespace L2
open PySem PySem.Spec PyProof.Rows
noncomputable abbrev Key:=Sum Int Str
noncomputable def wC:Key->Nq->Bool
 | .inl k,v=>Value.isInt k v
 | .inr x,v=>Value.isStrOf x v
noncomputable def M4 (w:World):Key->Int
 | .inl k=>hashInt k
 | .inr x=>hashStr w x
theorem eT:∀ {k:Key} {v:Nq},wC k v=true->(∃ i t,k=Sum.inl i/\v=Value.int i t)\/(∃ x t,k=Sum.inr x/\v=Value.str x t)
 | .inl i,v,h=>by
  obtain ⟨t,e⟩:=Value.isInt_shape (k:=i) (v:=v) h;exact .inl ⟨i,t,rfl,e⟩
 | .inr x,v,h=>by
  obtain ⟨t,e⟩:=Value.isStrOf_shape (x:=x) (v:=v) h;exact .inr ⟨x,t,rfl,e⟩
theorem EV (i:Int) (t:Tok):wC (.inl i) (.int i t)=true:=by simp [wC,Value.isInt]
theorem EU (x:Str) (t:Tok):wC (.inr x) (.str x t)=true:=by simp [wC,Value.isStrOf]
theorem KG (a b:Int):decide ((Sum.inl a:Key)=Sum.inl b)=(a==b):=by
 by_cases e:a=b
 ·subst e; simp
 ·have h:¬ (Sum.inl a:Key)=Sum.inl b:=λ q=>e (Sum.inl.inj q);rw [decide_eq_false h];exact (beq_eq_false_iff_ne.mpr e).symm
theorem KB (a b:Str):decide ((Sum.inr a:Key)=Sum.inr b)=decide (a=b):=by
 by_cases e:a=b
 ·subst e; simp
 ·have h:¬ (Sum.inr a:Key)=Sum.inr b:=λ q=>e (Sum.inr.inj q);rw [decide_eq_false h,decide_eq_false e]
theorem KF (a:Int) (b:Str):decide ((Sum.inl a:Key)=Sum.inr b)=false:=decide_eq_false (λ q=>nomatch q)
theorem KC (a:Str) (b:Int):decide ((Sum.inr a:Key)=Sum.inl b)=false:=decide_eq_false (λ q=>nomatch q)
noncomputable def dk (prog:NT) (w:World):PySem.KeyKind prog w Key where
 is:=wC
 hash:=M4 w
 inj:=λ v a b ha hb=>by
  rcases eT ha with ⟨i,t,rfl,rfl⟩ | ⟨x,t,rfl,rfl⟩
  ·rcases eT hb with ⟨j,u,rfl,e⟩ | ⟨y,u,rfl,e⟩
   ·injection e with e1 _; rw [e1]
   ·exact nomatch e
  ·rcases eT hb with ⟨j,u,rfl,e⟩ | ⟨y,u,rfl,e⟩
   ·exact nomatch e
   ·injection e with e1 _; rw [e1]
 byValue:=λ k v h=>by
  rcases eT h with ⟨i,t,rfl,rfl⟩ | ⟨x,t,rfl,rfl⟩ <;> rfl
 pyHash:=λ hv h=>by
  rcases eT hv with ⟨i,t,rfl,rfl⟩ | ⟨x,t,rfl,rfl⟩
  ·exact wpAny_pyHash_int h
  ·exact wpAny_pyHash_str h
 eqBool:=λ hu hv h=>by
  rcases eT hu with ⟨i,t,rfl,rfl⟩ | ⟨x,t,rfl,rfl⟩
  ·rcases eT hv with ⟨j,u,rfl,rfl⟩ | ⟨y,u,rfl,rfl⟩
   ·rw [KG] at h; exact wpAny_eqBool_int h
   ·rw [KF] at h; exact SeqAt.EqAt.int_str i t y u _ _ _ _ h
  ·rcases eT hv with ⟨j,u,rfl,rfl⟩ | ⟨y,u,rfl,rfl⟩
   ·rw [KC] at h; exact SeqAt.EqAt.str_int x t j u _ _ _ _ h
   ·rw [KB] at h; exact wpAny_eqBool_str h
 «strs»:=λ k x t v h=>by
  rcases eT h with ⟨i,u,rfl,e⟩ | ⟨y,u,rfl,e⟩
  ·exact nomatch e
  ·injection e with e1 _
   subst e1;cases v <;> rfl
theorem BO (prog:NT) (w:World) (i:Int) (t:Tok):(dk prog w).is (.inl i) (.int i t)=true:=EV i t
theorem BN (prog:NT) (w:World) (x:Str) (t:Tok):(dk prog w).is (.inr x) (.str x t)=true:=EU x t
inductive V where
 | non | bl (b:Bool) | int (i:Int) | str (x:Str) | byt (b:Array UInt8) | flt (b:UInt64) | ref (a:NI) | ty (n:String)
 deriving DecidableEq
noncomputable def RelV:V->Nq->Prop
 | .non,u=>u=Value.none
 | .bl b,u=>u=Value.bool b
 | .int i,u=>∃ t,u=Value.int i t
 | .str x,u=>∃ t,u=Value.str x t
 | .byt b,u=>∃ t,u=Value.bytes b t
 | .flt b,u=>∃ t,u=Value.float b t
 | .ref a,u=>u=Value.ref a
 | .ty n,u=>u=Value.type n
noncomputable abbrev Vals:List V->List Nq->Prop:=Paired RelV
theorem Vals.length {xs:List V} {us:List Nq} (r:Vals xs us):xs.length=us.length:=Paired.length r
theorem Vals.get:∀ {xs:List V} {us:List Nq} {i:Nat} {x:V},Vals xs us->xs[i]?=some x->∃ u,us[i]?=some u/\RelV x u
 | _,_,_,_,.nil,e=>by simp at e
 | _,_,0,_,.cons r _,e=>by simp at e; subst e; exact ⟨_,rfl,r⟩
 | _,_,i+1,x,.cons _ t,e=>by
  obtain ⟨u,h1,h2⟩:=Vals.get (i:=i) (x:=x) t (by simpa using e);exact ⟨u,by simpa using h1,h2⟩
theorem Vals.append:∀ {xs ys:List V} {us ws:List Nq},Vals xs us->Vals ys ws->Vals (xs++ys) (us++ws)
 | _,_,_,_,.nil,s=>s
 | _,_,_,_,.cons r t,s=>.cons r (Vals.append t s)
theorem Vals.take:∀ {xs:List V} {us:List Nq} (n:Nat),Vals xs us->Vals (xs.take n) (us.take n)
 | _,_,0,_=>.nil
 | _,_,_+1,.nil=>.nil
 | _,_,n+1,.cons r t=>.cons r (Vals.take n t)
theorem Vals.drop:∀ {xs:List V} {us:List Nq} (n:Nat),Vals xs us->Vals (xs.drop n) (us.drop n)
 | _,_,0,r=>r
 | _,_,_+1,.nil=>.nil
 | _,_,n+1,.cons _ t=>Vals.drop n t
noncomputable def RelO:Option V->Option Nq->Prop
 | some v,some u=>RelV v u
 | none,none=>True
 | _,_=>False
noncomputable def KV {κ:Type}:List (κ×V)->List (κ×Nq)->Prop:=Paired λ (p:κ×V) (q:κ×Nq)=>p.1=q.1/\RelV p.2 q.2
noncomputable def kV:Key->V
 | .inl i=>.int i
 | .inr x=>.str x
inductive HO where
 | lst (xs:List V)
 | tup (xs:List V)
 | dK (kvs:List (Key×V)) | dT (kvs:List (List Key×V))
 | set (S:Int->Bool) (n:Nat)
 | ins (C dx:NI) (fs:List (Str×V))
 | own (x:NI)
 | xd (fs:List (Str×V))
 | met (f x:NI)
 | rng (lo hi:Int)
 | frz (o:Obj) (u:HO)
 | tbl (ps:Array Nq)
 | ext (φ:Heap->Prop)
noncomputable abbrev Hp:=NI->Option HO
noncomputable def upd (H:Hp) (a:NI) (o:HO):Hp:=λ b=>if b=a then some o else H b
theorem au {H:Hp} {a:NI} {o:HO}:upd H a o a=some o:=by unfold upd; rw [if_pos rfl]
theorem aq {H:Hp} {a b:NI} {o:HO} (h:b≠a):upd H a o b=H b:=by unfold upd; rw [if_neg h]
theorem LX {H:Hp} {a b:NI} {o u:HO} (h:H a=some o) (h':H b=some u) (d:o≠u):a≠b:=by
 intro e; subst e; rw [h] at h'; exact d (Option.some.inj h')
theorem aF {H:Hp} {a b:NI} {o:HO} (h:H a=some o) (h':H b=none):a≠b:=by
 intro e; subst e; rw [h] at h'; cases h'
section
variable (P:NT) (w:World)
noncomputable def ObjOk (H:Hp) (h:Heap) (a:NI):HO->Prop
 | .lst xs=>xs.length<=No/\∃ (its:List Nq) (n:Nat),Vals xs its/\h.get? a=some { cls:=.type "list", data:=.seq its.toArray n }
 | .tup xs=>xs.length<=No/\∃ its:List Nq,Vals xs its/\IsTup h a its.toArray
 | .dK kvs=>kvs.length<=No/\(a==sysModules)=false/\∃ vs,KV kvs vs/\h.DictOf (dk P w) a vs
 | .dT kvs=>kvs.length<=No/\(a==sysModules)=false/\∃ xs:List (List Key×NI×Nq),Paired (λ (p:List Key×V) (q:List Key×NI×Nq)=>p.1=q.1/\H q.2.1=some (.tup (p.1.map kV))/\RelV p.2 q.2.2) kvs xs /\
   ∃ o es ep,h.get? a=some o/\o.ExactDict/\o.data=.dict es ep/\es.toList=xs.map (entryOfKey (tupleKind (dk P w)))/\(xs.map (·.1)).Nodup
 | .set S n=>h.SetOf (intKind P w) a S n
 | .ins C dx fs=>H dx=some (.own a)/\fs.length<=1000/\dx≠a/\h.get? a=some (OG C dx) /\
   ∃ mA,h.Ns1 dx mA/\(∀ f,RelO (fs.lookup f) (mA f))/\PySem.Within mA (fs.map (·.1))
 | .own _=>∃ o,h.get? a=some o
 | .xd fs=>∃ mA,h.Ns1 a mA/\∀ f,RelO (fs.lookup f) (mA f)
 | .rng lo hi=>∃ t u v,h.get? a=some { cls:=.type "range", data:=.fields #[.int lo t,.int hi u,.int 1 v] }
 | .frz o u=>h.get? a=some o/\ObjOk H h a u
 | .tbl ps=>h.get? a=some { cls:=.none,data:=.fields ps }
 | .met f x=>h.get? a=some (PySem.W.methodObj (.ref f) (.ref x))
 | .ext φ=>φ h/\(∃ o,h.get? a=some o)/\∀ h1 h2:Heap,φ h1->(∀ o,h1.get? a=some o->h2.get? a=some o)->φ h2
noncomputable def HOk (H:Hp) (h:Heap):Prop:=∀ a o,H a=some o->ObjOk P w H h a o
end
section
variable {P:NT} {w:World} {H H':Hp} {h h':Heap} {a:NI} {o:HO}
theorem ObjOk.lt (x:ObjOk P w H h a o):a < h.objs.size:=by
 cases o with
 | lst xs=>obtain ⟨_,_,_,_,e⟩:=x; exact NM e
 | tup xs=>obtain ⟨_,_,_,p⟩:=x; exact p.lt
 | dK kvs=>obtain ⟨_,_,_,_,o,_,_,e,_⟩:=x; exact NM e
 | dT kvs=>obtain ⟨_,_,_,_,o,_,_,e,_⟩:=x; exact NM e
 | set S n=>obtain ⟨o,_,_,_,e,_⟩:=x; exact NM e
 | ins C dx fs=>obtain ⟨_,_,_,e,_⟩:=x; exact NM e
 | own y=>obtain ⟨_,e⟩:=x; exact NM e
 | xd fs=>obtain ⟨_,⟨_,_,_,e,_⟩,_⟩:=x; exact NM e
 | rng lo hi=>obtain ⟨_,_,_,e⟩:=x; exact NM e
 | frz ob u=>obtain ⟨e,_⟩:=x; exact NM e
 | tbl ps=>exact NM (show h.get? a=some _ from x)
 | met f y=>exact NM (show h.get? a=some _ from x)
 | ext φ=>obtain ⟨_,⟨_,e⟩,_⟩:=x; exact NM e
theorem Paired.mapP {α β:Type} {F G:α->β->Prop}:∀ {l₁:List α} {l₂:List β},Paired F l₁ l₂->(∀ a b,F a b->G a b)->Paired G l₁ l₂
 | _,_,.nil,_=>.nil
 | _,_,.cons r t,f=>.cons (f _ _ r) (Paired.mapP t f)
theorem ObjOk.stay (x:ObjOk P w H h a o) (k:∀ b u,(b=a\/H b=some (.own a))->h.get? b=some u->h'.get? b=some u)
  (ho:∀ b,H b=some (.own a)->H' b=some (.own a)) (ht:∀ b xs,H b=some (.tup xs)->H' b=some (.tup xs)):ObjOk P w H' h' a o:=by
 induction o with
 | lst xs=>obtain ⟨z,its,n,r,e⟩:=x; exact ⟨z,its,n,r,k _ _ (.inl rfl) e⟩
 | tup xs=>obtain ⟨z,its,r,ob,e,c⟩:=x; exact ⟨z,its,r,ob,k _ _ (.inl rfl) e,c⟩
 | dK kvs=>obtain ⟨z,y,vs,r,ob,es,ep,e,c⟩:=x; exact ⟨z,y,vs,r,ob,es,ep,k _ _ (.inl rfl) e,c⟩
 | dT kvs =>
  obtain ⟨z,y,xs,r,ob,es,ep,e,c⟩:=x;exact ⟨z,y,xs,Paired.mapP r λ p q z=>⟨z.1,ht _ _ z.2.1,z.2.2⟩,ob,es,ep,k _ _ (.inl rfl) e,c⟩
 | set S n=>obtain ⟨ob,es,ep,t,e,c⟩:=x; exact ⟨ob,es,ep,t,k _ _ (.inl rfl) e,c⟩
 | ins C dx fs =>
  obtain ⟨d,z,ne,e,mA,⟨od,es,ep,e2,c⟩,r⟩:=x;exact ⟨ho _ d,z,ne,k _ _ (.inl rfl) e,mA,⟨od,es,ep,k _ _ (.inr d) e2,c⟩,r⟩
 | own y=>obtain ⟨ob,e⟩:=x; exact ⟨ob,k _ _ (.inl rfl) e⟩
 | xd fs=>obtain ⟨mA,⟨od,es,ep,e,c⟩,r⟩:=x; exact ⟨mA,⟨od,es,ep,k _ _ (.inl rfl) e,c⟩,r⟩
 | rng lo hi=>obtain ⟨t,u,v,e⟩:=x; exact ⟨t,u,v,k _ _ (.inl rfl) e⟩
 | frz ob u ih=>obtain ⟨e,q⟩:=x; exact ⟨k _ _ (.inl rfl) e,ih q⟩
 | tbl ps =>
  have e:h.get? a=some { cls:=.none,data:=.fields ps }:=x;show h'.get? a=some { cls:=.none,data:=.fields ps };exact k a _ (.inl rfl) e
 | met f y =>
  have e:h.get? a=some (PySem.W.methodObj (.ref f) (.ref y)):=x;show h'.get? a=some (PySem.W.methodObj (.ref f) (.ref y));exact k a _ (.inl rfl) e
 | ext φ=>obtain ⟨p,⟨o,e⟩,st⟩:=x; exact ⟨st _ _ p λ o q=>k _ _ (.inl rfl) q,⟨o,k _ _ (.inl rfl) e⟩,st⟩
theorem HOk.lt (x:HOk P w H h) (e:H a=some o):a < h.objs.size:=(x a o e).lt
theorem HOk.fresh (x:HOk P w H h) (e:h.objs.size<=a):H a=none:=by
 cases q:H a with
 | none=>rfl
 | some u=>exact absurd (NK (x.lt q) e) (OT _)
theorem HOk.kept (x:HOk P w H h) (k:∀ b u,h.get? b=some u->h'.get? b=some u):HOk P w H h':=λ a o e =>
 (x a o e).stay (λ b u _ q=>k b u q) (λ _ q=>q) λ _ _ q=>q
theorem HOk.laid (x:HOk P w H h) (k:∀ b u,h.get? b=some u->h'.get? b=some u) (hp:h.objs.size<=a) (new:ObjOk P w (upd H a o) h' a o):HOk P w (upd H a o) h':=λ b u e=>by
 have hn:=x.fresh hp;by_cases hb:b=a
 ·subst hb; rw [au] at e; cases e; exact new
 ·rw [aq hb] at e;exact (x b u e).stay (λ c v _ q=>k c v q) (λ c q=>by rw [aq (aF q hn)]; exact q) λ c xs q=>by rw [aq (aF q hn)]; exact q
end
noncomputable def Rd (H:Hp) (a:NI) (u:HO):Prop:=H a=some u\/∃ o,H a=some (.frz o u)
theorem Rd.ok {P:NT} {w:World} {H:Hp} {h:Heap} {a:NI} {u:HO} (r:Rd H a u) (x:HOk P w H h):ObjOk P w H h a u:=by
 rcases r with r | ⟨o,r⟩
 ·exact x a u r
 ·obtain ⟨_,q⟩:=x a _ r;exact q
noncomputable def Mut:Option HO->Prop
 | some (.lst _)=>True
 | some (.dK _)=>True
 | some (.dT _)=>True
 | some (.set _ _)=>True
 | some (.ins _ _ _)=>True
 | some (.ext _)=>True
 | _=>False
section
variable {P:NT} {w:World} {H:Hp} {h h':Heap} {x e:NI} {o':HO}
theorem HOk.write (ok:HOk P w H h) (mu:Mut (H x)) (he:e=x\/H e=some (.own x)) (k:∀ b u,b≠e->h.get? b=some u->h'.get? b=some u) (heo:∃ u,h'.get? e=some u)
  (new:ObjOk P w (upd H x o') h' x o'):HOk P w (upd H x o') h':=λ b u q=>by
 have nown:∀ c y,H c=some (.own y)->c≠x:=λ c y r z=>by subst z; rw [r] at mu; exact mu
 have ntup:∀ c xs,H c=some (.tup xs)->c≠x:=λ c xs r z=>by subst z; rw [r] at mu; exact mu
 by_cases hb:b=x
 ·subst hb; rw [au] at q; cases q; exact new
 ·rw [aq hb] at q;by_cases hbe:b=e
  ·have q':H b=some (.own x):=by
    rcases he with z | z
    ·exact absurd (hbe.trans z) hb
    ·rw [hbe]; exact z
   rw [q] at q'; cases q';obtain ⟨v,hv⟩:=heo;exact ⟨v,by rw [hbe]; exact hv⟩
  ·refine (ok b u q).stay (λ c v hc r=>k c v ?_ r) (λ c r=>by rw [aq (nown c b r)]; exact r) λ c xs r=>by rw [aq (ntup c xs r)]; exact r
   rcases hc with rfl | hc
   ·exact hbe
   ·rintro rfl
    rcases he with z | z
    ·exact nown c b hc z
    ·rw [hc] at z; cases z; exact hb rfl
end
structure Un (fs ex:List NI) (H H':Hp) (h h':Heap):Prop where
 keep:∀ b o,h.get? b=some o->H b=none->b∉fs->b∉ex->h'.get? b=some o
 slot:∀ b o,h.get? b=some o->H b=none->b∈fs->b∉ex->∃ sl,h'.get? b=some { o with slots:=sl }
 free:∀ b o,h.get? b=some o->H b=none->b∉ex->H' b=none
 there:∀ b o,h.get? b=some o->b∉ex->∃ o',h'.get? b=some o'
 tups:∀ b xs,H b=some (.tup xs)->H' b=some (.tup xs)
 frzs:∀ b o u,H b=some (.frz o u)->H' b=some (.frz o u)
 tbls:∀ b ps,H b=some (.tbl ps)->∃ more,H' b=some (.tbl (ps++more))
section
variable {fs fs' ex ex':List NI} {H H1 H2:Hp} {h h1 h2 h':Heap} {a x e:NI} {o:HO}
theorem Un.any (u:Un fs ex H H1 h h1) {b:NI} {ob:Obj} (q:h.get? b=some ob) (n:H b=none) (hx:b∉ex):∃ sl,h1.get? b=some { ob with slots:=sl }:=by
 by_cases hb:b∈fs
 ·exact u.slot b ob q n hb hx
 ·exact ⟨ob.slots,u.keep b ob q n hb hx⟩
theorem Un.kept (k:∀ b u,h.get? b=some u->h'.get? b=some u):Un fs ex H H h h' :=
 ⟨λ b ob q _ _ _=>k b ob q,λ b ob q _ _ _=>⟨ob.slots,k b ob q⟩,λ _ _ _ n _=>n,λ b ob q _=>⟨ob,k b ob q⟩,λ _ _ q=>q,λ _ _ _ q=>q,λ _ ps q=>⟨#[],by rw [q]; simp⟩⟩
theorem Un.refl:Un fs ex H H h h:=Un.kept λ _ _ q=>q
theorem Un.laid (k:∀ b u,h.get? b=some u->h'.get? b=some u) (hp:h.objs.size<=a) (hn:H a=none):Un fs ex H (upd H a o) h h' where
 keep:=λ b u q _ _ _=>k b u q
 slot:=λ b u q _ _ _=>⟨u.slots,k b u q⟩
 free:=λ b u q n _=>by rw [aq (NZ (NK (NM q) hp))]; exact n
 there:=λ b u q _=>⟨u,k b u q⟩
 tups:=λ b xs q=>by rw [aq (aF q hn)]; exact q
 frzs:=λ b u xs q=>by rw [aq (aF q hn)]; exact q
 tbls:=λ b ps q=>⟨#[],by rw [aq (aF q hn),q]; simp⟩
theorem Un.write (mu:Mut (H x)) (he:e=x\/H e=some (.own x)) (k:∀ b u,b≠e->h.get? b=some u->h'.get? b=some u) (heo:∃ u,h'.get? e=some u):Un fs ex H (upd H x o) h h':=by
 have hx:∀ b,H b=none->b≠x:=λ b n z=>by subst z; rw [n] at mu; exact mu
 have hb:∀ b,H b=none->b≠e:=λ b n z=>by
  subst z;rcases he with r | r
  ·exact hx b n r
  ·rw [n] at r; cases r
 have hm:∀ b u,H b=some u->¬ Mut (some u)->b≠x:=λ b u q nm z=>by subst z; rw [q] at mu; exact nm mu
 refine ⟨λ b u q n _ _=>k b u (hb b n) q,λ b u q n _ _=>⟨u.slots,k b u (hb b n) q⟩,λ b u q n _=>by rw [aq (hx b n)]; exact n,λ b u q _=>?_,λ b xs q=>by rw [aq (hm b _ q λ z=>z)]; exact q,λ b u xs q=>by rw [aq (hm b _ q λ z=>z)]; exact q,λ b ps q=>⟨#[],by rw [aq (hm b _ q λ z=>z),q]; simp⟩⟩;by_cases hbe:b=e
 ·subst hbe; exact heo
 ·exact ⟨u,k b u hbe q⟩
end
noncomputable def trk (h:Heap) (H:Hp):List NI:=(List.range h.objs.size).filter λ a=>(H a).isSome
noncomputable def AV (h:Heap) (H:Hp):Heap:=PySem.W.hideAll h (trk h H)
theorem EZ (h:Heap) (H:Hp):(AV h H).objs.size=h.objs.size:=PySem.W.hideAll_size _ _
theorem GD {h:Heap} {H:Hp} {b:NI} {o:Obj} (e:h.get? b=some o) (n:H b=none):(AV h H).get? b=some o :=
 PySem.W.hideAll_get _ e λ hm=>by
  have q:(H b).isSome=true:=(NU.mp hm).2;rw [n] at q; simp at q
theorem Iq {h:Heap} {H:Hp} {b:NI} {o:Obj} (e:(AV h H).get? b=some o):h.get? b=some o/\H b=none:=by
 have e':h.get? b=some o:=PySem.W.of_hideAll (trk h H) e;refine ⟨e',?_⟩;cases q:H b with
 | none=>rfl
 | some x =>
  have hm:b∈trk h H:=NU.mpr ⟨OO.mpr (NM e'),by simp [q]⟩;have z:(AV h H).get? b=none:=PySem.W.hideAll_none (trk h H) hm;rw [z] at e; cases e
noncomputable def Jb (g h:Heap) (L:NI):List (NI×Obj):=(List.range h.objs.size).filterMap λ a=>if a=L\/(g.get? a).isSome=true then none else (h.get? a).map λ o=>(a,o)
noncomputable def rest (g h:Heap) (L d:NI):List (NI×Obj):=(Jb g h L).filter λ p=>decide (p.1≠d)
structure Mod (K:Ni) (mg:Str->Option Nq) (base:Heap):Prop where
 kin:K.In base
 glob:base.Ns mainGlobals mg
 blt:∃ mb,base.Ns builtinsNs mb/\∀ x:Str,x ≠ "__name__" -> mb x=bootBuiltins x
 nolimit:base.NoLimit
structure Cx where
 prog:NT
 w:World
 K:Ni
 mg:Str->Option Nq
 base:Heap
 A:Oh
 N:List Str
 s₀:Nu
 H₀:Hp
 env:Env
 outer:List Env
 stack:List Env
 ex:List NI
 fn:Str->Bool
 calm:Bool
 pn:List (NI×Obj)
 xe:Nq->Nu->Prop
noncomputable def frs (l:List Env):List NI:=l.filterMap (·.frame)
noncomputable abbrev Cx.fs (X:Cx):List NI:=frs X.outer
noncomputable def Vis (sc:Scope) (x:Str):Prop:=sc.names.lookup x=some .local\/sc.names.lookup x=some .cell\/sc.names.lookup x=some .free
noncomputable def Loc (sc:Scope) (x:Str):Prop:=sc.names.lookup x=some .local\/sc.names.lookup x=some .cell
noncomputable def Look (env:Env) (h:Heap) (m:Str->Option Nq) (x:Str) (u:Nq):Prop :=
 (env.kindOf x=some .local/\m x=some u)\/((env.kindOf x=some .cell\/env.kindOf x=some .free)/\∃ c,env.cells.lookup x=some c/\h.IsCell c (some u))
structure Cx.Ok (X:Cx):Prop where
 mod:Mod X.K X.mg X.base
 kind:X.env.scope.kind=.function
 glob:X.env.globals=mainGlobals
 blt:X.env.builtins=builtinsNs
 above:X.s₀.heap.objs.size<=X.env.locals
 inj:∀ x y c,X.env.cells.lookup x=some c->X.env.cells.lookup y=some c->x=y
 has:∀ x,(X.env.kindOf x=some .cell\/X.env.kindOf x=some .free)->∃ c,X.env.cells.lookup x=some c
 cab:∀ x c,X.fn x=true->X.env.cells.lookup x=some c->X.s₀.heap.objs.size<=c
 hd:X.calm=true->X.A.handled=none
 frames:X.A.frames=some X.stack
 stk:X.stack=X.outer\/(X.stack=X.env::X.outer/\X.env.frame=some X.env.locals)
 exf:∀ b∈X.ex,b≠X.env.locals/\∀ x c,X.env.cells.lookup x=some c->c≠b
 bs:∀ b o,X.base.get? b=some o->X.s₀.heap.get? b=some o/\X.H₀ b=none
 bsz:X.base.objs.size<=X.s₀.heap.objs.size
 noex:∀ b o,X.base.get? b=some o->b∉X.ex
 exfs:∀ b∈X.ex,b∉X.fs
 funs:X.s₀.heap.FunFrames X.base X.outer
 frf:∀ b∈X.fs,X.H₀ b=none
structure Inv (X:Cx) (pins:List (NI×Obj)) (σ:List (Option V)) (H:Hp) (s:Nu):Prop where
 ok:X.Ok
 os:s.os=X.s₀.os
 bare:AllBare s.gens
 base:Un X.fs X.ex X.H₀ H X.s₀.heap s.heap
 loc:∃ m,s.heap.Ns X.env.locals m/\∀ (i:Nat) (x:Str) (v:V),X.N[i]?=some x->σ[i]?=some (some v)->Vis X.env.scope x->∃ u,RelV v u/\Look X.env s.heap m x u
 cell:∀ x c,X.env.cells.lookup x=some c->∃ v,s.heap.IsCell c v
 free:H X.env.locals=none
 freeC:∀ x c,X.env.cells.lookup x=some c->H c=none
 pin:∀ p∈X.pn++pins,s.heap.get? p.1=some p.2/\H p.1=none/\p.1≠X.env.locals/\p.1∉X.fs/\∀ v,p.2.data≠.cell v
 hok:HOk X.prog X.w H s.heap
 len:σ.length=X.N.length
section
variable {X:Cx} {pins:List (NI×Obj)} {σ:List (Option V)} {H H':Hp} {s:Nu} {h':Heap}
theorem Cx.Ok.nofr (ok:X.Ok) {b:NI} {o:Obj} (e:X.base.get? b=some o):b∉X.fs:=λ hb=>by
 have:=(ok.funs.mem hb).1
 rw [e] at this; cases this
theorem Inv.bs (I:Inv X pins σ H s):∀ b o,X.base.get? b=some o->s.heap.get? b=some o/\H b=none:=λ b o e =>
 ⟨I.base.keep b o (I.ok.bs b o e).1 (I.ok.bs b o e).2 (I.ok.nofr e) (I.ok.noex b o e),I.base.free b o (I.ok.bs b o e).1 (I.ok.bs b o e).2 (I.ok.noex b o e)⟩
theorem Inv.bk (I:Inv X pins σ H s):∀ b o,X.base.get? b=some o->s.heap.get? b=some o:=λ b o e=>(I.bs b o e).1
theorem Inv.mod (I:Inv X pins σ H s):Mod X.K X.mg X.base:=I.ok.mod
theorem Inv.kIn (I:Inv X pins σ H s):X.K.In s.heap:=I.ok.mod.kin.keeps I.bk
theorem Inv.lt (I:Inv X pins σ H s):X.env.locals < s.heap.objs.size:=let ⟨_,hn,_⟩:=I.loc; hn.lt
theorem Inv.sz (I:Inv X pins σ H s):X.s₀.heap.objs.size<=s.heap.objs.size:=NL I.ok.above (Po I.lt)
theorem Inv.nofs (I:Inv X pins σ H s) {a:NI} (h:s.heap.objs.size<=a):a∉X.fs:=λ hb=>by
 obtain ⟨_,o,ho,_⟩:=I.ok.funs.mem hb;exact absurd (NK (NM ho) (NL I.sz h)) (OT _)
theorem Inv.cne (I:Inv X pins σ H s):∀ x c,X.env.cells.lookup x=some c->c≠X.env.locals:=λ x c e z=>by
 obtain ⟨v,o,ho,hd⟩:=I.cell x c e;obtain ⟨m,⟨o',es,ep,ho',hd',_⟩,_⟩:=I.loc;rw [z,ho'] at ho; cases ho; rw [hd'] at hd; cases hd
theorem Inv.funs (I:Inv X pins σ H s):s.heap.FunFrames X.base X.outer:=by
 have all:∀ (l:List Env),(∀ b∈frs l,b∈X.fs)->X.s₀.heap.FunFrames X.base l->s.heap.FunFrames X.base l:=by
  intro l
  induction l with
  | nil=>intro _ _; trivial
  | cons env r ih =>
   intro hs hl;obtain ⟨hk,⟨L,o,hf,hn,ho,hd⟩,hr⟩:=hl;have hL:L∈X.fs:=hs L (by unfold frs; rw [Pz,hf]; exact NJ);obtain ⟨sl,e⟩:=I.base.slot L o ho (I.ok.frf L hL) hL λ z=>I.ok.exfs L z hL;exact ⟨hk,⟨L,_,hf,hn,e,hd⟩,ih (λ b hb=>hs b (by unfold frs; rw [Pz,hf]; exact NA _ hb)) hr⟩
 exact all X.outer (λ _ hb=>hb) I.ok.funs
theorem Inv.stack (I:Inv X pins σ H s):s.heap.FunFrames X.base X.stack:=by
 rcases I.ok.stk with e | ⟨e,hf⟩
 ·rw [e]; exact I.funs
 ·rw [e];obtain ⟨m,hn,_⟩:=I.loc;refine .cons (by rw [I.ok.kind]; decide) hf hn ?_ I.funs;exact Heap.get?_none_of_le (NL I.ok.bsz I.ok.above)
theorem Inv.stkSub (I:Inv X pins σ H s):∀ b∈frs X.stack,b∈X.env.locals::X.fs:=λ b hb=>by
 rcases I.ok.stk with e | ⟨e,hf⟩
 ·rw [e] at hb; exact NA _ hb
 ·rw [e] at hb;unfold frs at hb;rw [Pz,hf] at hb;exact hb
theorem Inv.stkFree (I:Inv X pins σ H s):∀ b∈frs X.stack,H b=none:=λ b hb=>by
 rcases NO.mp (I.stkSub b hb) with e | hb
 ·rw [e]; exact I.free
 ·obtain ⟨_,o,ho,_⟩:=I.ok.funs.mem hb;exact I.base.free b o ho (I.ok.frf b hb) λ z=>I.ok.exfs b z hb
theorem Inv.step {g':Array GenState} {t':Nat} {d':Drawn} {ch:List NI} (I:Inv X pins σ H s)
  (hch:∀ b∈ch,(b∈X.ex\/X.s₀.heap.objs.size<=b)/\b≠X.env.locals/\(∀ x c,X.env.cells.lookup x=some c->c≠b)/\∀ p∈X.pn++pins,p.1≠b)
  (keep:∀ b o,b≠X.env.locals->b∉X.fs->b∉ch->s.heap.get? b=some o->H b=none->h'.get? b=some o)
  (slot:∀ b o,b≠X.env.locals->b∈X.fs->b∉ch->s.heap.get? b=some o->H b=none->∃ sl,h'.get? b=some { o with slots:=sl }) (free:∀ b o,b∉ch->s.heap.get? b=some o->H b=none->H' b=none)
  (there:∀ b o,b∉ch->s.heap.get? b=some o->∃ o',h'.get? b=some o')
  (tups:∀ b xs,H b=some (.tup xs)->H' b=some (.tup xs)) (frzs:∀ b o u,H b=some (.frz o u)->H' b=some (.frz o u)) (tbls:∀ b ps,H b=some (.tbl ps)->∃ more,H' b=some (.tbl (ps++more)))
  (ns:∀ m,s.heap.Ns X.env.locals m->h'.Ns X.env.locals m) (hok:HOk X.prog X.w H' h') (hg:AllBare g') :
  Inv X pins σ H' { s with heap:=h',gens:=g',drawn:=d',toks:=t' }:=by
 have neL:∀ b o,X.s₀.heap.get? b=some o->b≠X.env.locals:=λ b o e=>NZ (NK (NM e) I.ok.above);have neC:∀ b o,X.s₀.heap.get? b=some o->b∉X.ex->b∉ch:=λ b o e hx hb=>by
  rcases (hch b hb).1 with z | z
  ·exact hx z
  ·exact absurd (NK (NM e) z) (OT _)
 have cellK:∀ x c,X.env.cells.lookup x=some c->∀ v,s.heap.IsCell c v->h'.IsCell c v:=λ x c e v ⟨o,ho,hd⟩=>by
  have nch:c∉ch:=λ z=>(hch c z).2.2.1 x c e rfl;by_cases hc:c∈X.fs
  ·obtain ⟨sl,q⟩:=slot c o (I.cne x c e) hc nch ho (I.freeC x c e);exact ⟨_,q,hd⟩
  ·exact ⟨o,keep c o (I.cne x c e) hc nch ho (I.freeC x c e),hd⟩
 refine ⟨I.ok,I.os,hg,⟨λ b o e n hb hx=>?_,λ b o e n hb hx=>?_,λ b o e n hx=>?_,λ b o e hx=>?_,λ b xs e=>tups b xs (I.base.tups b xs e),λ b o xs e=>frzs b o xs (I.base.frzs b o xs e),λ b ps e=>?_⟩,?_,λ x c e=>?_,?_,λ x c e=>?_,λ p hp=>?_,hok,I.len⟩
 ·exact keep b o (neL b o e) hb (neC b o e hx) (I.base.keep b o e n hb hx) (I.base.free b o e n hx)
 ·obtain ⟨sl,e1⟩:=I.base.slot b o e n hb hx;obtain ⟨sl',e2⟩:=slot b _ (neL b o e) hb (neC b o e hx) e1 (I.base.free b o e n hx);exact ⟨sl',e2⟩
 ·obtain ⟨o',e1⟩:=I.base.there b o e hx;exact free b o' (neC b o e hx) e1 (I.base.free b o e n hx)
 ·obtain ⟨o',e1⟩:=I.base.there b o e hx;exact there b o' (neC b o e hx) e1
 ·obtain ⟨m1,e1⟩:=I.base.tbls b ps e;obtain ⟨m2,e2⟩:=tbls b _ e1;exact ⟨m1++m2,by rw [e2,Array.append_assoc]⟩
 ·obtain ⟨m,hn,hl⟩:=I.loc;refine ⟨m,ns m hn,λ i x v e1 e2 e3=>?_⟩;obtain ⟨u,r,l⟩:=hl i x v e1 e2 e3;refine ⟨u,r,?_⟩;rcases l with l | ⟨k,c,e,z⟩
  ·exact .inl l
  ·exact .inr ⟨k,c,e,cellK x c e _ z⟩
 ·obtain ⟨v,z⟩:=I.cell x c e;exact ⟨v,cellK x c e v z⟩
 ·obtain ⟨m,⟨o,_,_,ho,_⟩,_⟩:=I.loc;exact free _ o (λ z=>(hch _ z).2.1 rfl) ho I.free
 ·obtain ⟨v,o,ho,hd⟩:=I.cell x c e;exact free c o (λ z=>(hch c z).2.2.1 x c e rfl) ho (I.freeC x c e)
 ·obtain ⟨e,n,ne,nf,d⟩:=I.pin p hp;have nch:p.1∉ch:=λ z=>(hch p.1 z).2.2.2 p hp rfl;exact ⟨keep p.1 p.2 ne nf nch e n,free p.1 p.2 nch e n,ne,nf,d⟩
theorem Inv.un {t':Nat} (I:Inv X pins σ H s) (u:Un X.fs [] H H' s.heap h') (hok:HOk X.prog X.w H' h'):Inv X pins σ H' { s with heap:=h',toks:=t' }:=by
 obtain ⟨m,⟨o,es,ep,ho,r⟩,_⟩:=id I.loc;obtain ⟨sl,hL⟩:=u.any ho I.free (by simp);exact I.step (g':=s.gens) (d':=s.drawn) (ch:=[]) (λ _ z=>nomatch z) (λ b o _ hb _ e n=>u.keep b o e n hb (by simp)) (λ b o _ hb _ e n=>u.slot b o e n hb (by simp)) (λ b o _ e n=>u.free b o e n (by simp)) (λ b o _ e=>u.there b o e (by simp)) u.tups u.frzs u.tbls (λ m' hm=>by
  obtain ⟨o',es',ep',ho',r'⟩:=hm;rw [ho] at ho'; cases ho';exact ⟨_,es',ep',hL,r'⟩) hok I.bare
theorem Inv.call {g':Array GenState} {t':Nat} {d':Drawn} {ch:List NI} (I:Inv X pins σ H s) (u:Un (frs X.stack) ch H H' s.heap h') (hok:HOk X.prog X.w H' h') (hg:AllBare g')
  (hch:∀ b∈ch,(b∈X.ex\/X.s₀.heap.objs.size<=b)/\b≠X.env.locals/\(∀ x c,X.env.cells.lookup x=some c->c≠b)/\∀ p∈X.pn++pins,p.1≠b) :
  Inv X pins σ H' { s with heap:=h',gens:=g',drawn:=d',toks:=t' }:=by
 obtain ⟨m,⟨o,es,ep,ho,r⟩,_⟩:=id I.loc;obtain ⟨sl,hL⟩:=u.any ho I.free λ z=>(hch _ z).2.1 rfl;exact I.step (ch:=ch) hch (λ b o hL hb hc e n=>u.keep b o e n (λ z=>(NO.mp (I.stkSub b z)).elim hL hb) hc) (λ b o _ _ hc e n=>u.any e n hc) (λ b o hc e n=>u.free b o e n hc) (λ b o hc e=>u.there b o e hc) u.tups u.frzs u.tbls (λ m' hm=>by
  obtain ⟨o',es',ep',ho',r'⟩:=hm;rw [ho] at ho'; cases ho';exact ⟨_,es',ep',hL,r'⟩) hok hg
theorem Inv.turned {t':Nat} {it:NI} (I:Inv X pins σ H s) (k:∀ b o,b≠it->s.heap.get? b=some o->h'.get? b=some o) (hn:H it=none) (hL:it≠X.env.locals)
  (h1:it∈X.ex\/X.s₀.heap.objs.size<=it) (h2:∀ x c,X.env.cells.lookup x=some c->c≠it) (h3:∀ p∈X.pn++pins,p.1≠it):Inv X pins σ H { s with heap:=h',toks:=t' }:=by
 have nit:∀ b u,H b=some u->b≠it:=λ b u e z=>by rw [z,hn] at e; cases e
 refine I.step (g':=s.gens) (d':=s.drawn) (ch:=[it]) (λ b hb=>?_) (λ b o _ _ hc e _=>k b o (λ z=>hc (by simp [z])) e) (λ b o _ _ hc e _=>⟨o.slots,k b o (λ z=>hc (by simp [z])) e⟩) (λ _ _ _ _ n=>n)
  (λ b o hc e=>⟨o,k b o (λ z=>hc (by simp [z])) e⟩) (λ _ _ e=>e) (λ _ _ _ e=>e) (λ b ps e=>⟨#[],by rw [e]; simp⟩) (λ m hm=>?_) (λ b u e=>?_) I.bare
 ·have e:b=it:=by simpa using hb
  subst e;exact ⟨h1,hL,h2,h3⟩
 ·obtain ⟨o,es,ep,ho,r⟩:=hm;exact ⟨o,es,ep,k _ o (Ne.symm hL) ho,r⟩
 ·refine (I.hok b u e).stay (λ c v hc q=>k c v ?_ q) (λ _ q=>q) λ _ _ q=>q;rcases hc with z | z
  ·rw [z]; exact nit b u e
  ·exact nit c _ z
theorem Inv.tok (I:Inv X pins σ H s) (t:Nat):Inv X pins σ H { s with toks:=t }:=I.un (h':=s.heap) (t':=t) Un.refl I.hok
theorem Inv.kept {t':Nat} (I:Inv X pins σ H s) (k:∀ b u,s.heap.get? b=some u->h'.get? b=some u):Inv X pins σ H { s with heap:=h',toks:=t' }:=I.un (Un.kept k) (I.hok.kept k)
theorem Inv.laid {a:NI} {o:HO} {t':Nat} (I:Inv X pins σ H s) (k:∀ b u,s.heap.get? b=some u->h'.get? b=some u) (hp:s.heap.objs.size<=a) (new:ObjOk X.prog X.w (upd H a o) h' a o) :
  Inv X pins σ (upd H a o) { s with heap:=h',toks:=t' }:=I.un (Un.laid k hp (I.hok.fresh hp)) (I.hok.laid k hp new)
theorem Inv.write {x e:NI} {o:HO} {t':Nat} (I:Inv X pins σ H s) (mu:Mut (H x)) (he:e=x\/H e=some (.own x)) (k:∀ b u,b≠e->s.heap.get? b=some u->h'.get? b=some u) (heo:∃ u,h'.get? e=some u)
  (new:ObjOk X.prog X.w (upd H x o) h' x o):Inv X pins σ (upd H x o) { s with heap:=h',toks:=t' }:=I.un (Un.write mu he k heo) (I.hok.write mu he k heo new)
theorem Inv.weak {σ':List (Option V)} (I:Inv X pins σ H s) (hl:σ'.length=σ.length) (w:∀ (i:Nat) v,σ'[i]?=some (some v)->σ[i]?=some (some v)):Inv X pins σ' H s :=
 ⟨I.ok,I.os,I.bare,I.base,let ⟨m,hn,hl'⟩:=I.loc; ⟨m,hn,λ i x v e1 e2 e3=>hl' i x v e1 (w i v e2) e3⟩,I.cell,I.free,I.freeC,I.pin,I.hok,hl.trans I.len⟩
theorem Inv.pins_of {pins':List (NI×Obj)} (I:Inv X pins σ H s) (h:∀ p∈pins',s.heap.get? p.1=some p.2/\H p.1=none/\p.1≠X.env.locals/\p.1∉X.fs/\∀ v,p.2.data≠.cell v):Inv X pins' σ H s :=
 ⟨I.ok,I.os,I.bare,I.base,I.loc,I.cell,I.free,I.freeC,λ p hp=>(N1.mp hp).elim (λ z=>I.pin p (Ob _ z)) (h p),I.hok,I.len⟩
theorem BM {N:List Str} (hN:N.Nodup) {i j:Nat} {x:Str} (a:N[i]?=some x) (b:N[j]?=some x):i=j:=by
 obtain ⟨h1,e1⟩:=Nr.mp a;obtain ⟨h2,e2⟩:=Nr.mp b;exact (List.getElem_inj hN).mp (e1.trans e2.symm)
theorem zE {M:Model} {A:Oh} {E:Nq->Nu->Prop} {i:Nat} {x:Str} {v:V} {u:Nq} {Q:Unit->Nu->Prop} (I:Inv X pins σ H s) (hN:X.N.Nodup) (hi:X.N[i]?=some x) (hx:Loc X.env.scope x) (r:RelV v u)
  (h:∀ s',Inv X pins (σ.set i (some v)) H s'->(∃ a,Heap.SameBut a s.heap s'.heap/\(a=X.env.locals\/X.env.cells.lookup x=some a))->Q () s') (hf:X.fn x=true\/X.env.scope.names.lookup x=some .local:=by first | exact .inl rfl | exact .inr rfl | assumption):N7 M A (storeName X.env x u) Q E s:=by
 obtain ⟨m,hn,hl⟩:=id I.loc;have hcls:(X.env.scope.kind==.class||(X.env.scope.kind==.module&&X.env.locals != X.env.globals))=false:=by rw [I.ok.kind]; rfl
 have hiσ:i < σ.length:=by rw [I.len]; exact (Nr.mp hi).1
 have cne:=I.cne;have tracked:∀ {a:NI} {h':Heap},(∃ o,s.heap.get? a=some o/\H a=none)->Heap.SameBut a s.heap h'->HOk X.prog X.w H h':=λ {a h'} ha hs b ob e=>by
  obtain ⟨_,_,hfree⟩:=ha;refine (I.hok b ob e).stay (λ c w' hc q=>(hs.2 c ?_).trans q) (λ _ q=>q) λ _ _ q=>q
  rintro rfl
  rcases hc with rfl | hc
  ·rw [hfree] at e; cases e
  ·rw [hfree] at hc; cases hc
 rcases hx with hk | hk
 ·refine wpAny_storeName_local hk hn (λ h' hn' hs=>?_) hcls;obtain ⟨oL,_,_,hoL,_⟩:=id hn;refine h _ ⟨I.ok,I.os,I.bare,⟨λ b o e n hb hx=>?_,λ b o e n hb hx=>?_,I.base.free,λ b o e hx=>?_,I.base.tups,I.base.frzs,I.base.tbls⟩,⟨_,hn',λ j y v' e1 e2 e3=>?_⟩,λ y c e=>?_,I.free,I.freeC,λ p hp=>?_,tracked ⟨oL,hoL,I.free⟩ hs,by simpa using I.len⟩ ⟨_,hs,.inl rfl⟩
  ·exact (hs.2 b (NZ (NK (NM e) I.ok.above))).trans (I.base.keep b o e n hb hx)
  ·obtain ⟨sl,e1⟩:=I.base.slot b o e n hb hx;exact ⟨sl,(hs.2 b (NZ (NK (NM e) I.ok.above))).trans e1⟩
  ·obtain ⟨o',e1⟩:=I.base.there b o e hx;exact ⟨o',(hs.2 b (NZ (NK (NM e) I.ok.above))).trans e1⟩
  ·by_cases hj:j=i
   ·subst hj;rw [hi] at e1; cases e1;rw [Nz hiσ] at e2;cases e2;exact ⟨u,r,.inl ⟨hk,by simp⟩⟩
   ·rw [Nj (Ne.symm hj)] at e2;obtain ⟨u',r',q⟩:=hl j y v' e1 e2 e3;refine ⟨u',r',?_⟩;rcases q with ⟨k,e⟩ | ⟨k,c,e,z⟩
    ·refine .inl ⟨k,?_⟩
     have:y≠x:=λ e=>hj (BM hN e1 (e ▸ hi))
     simp [this,e]
    ·exact .inr ⟨k,c,e,z.sameBut hs (cne y c e)⟩
  ·obtain ⟨w',z⟩:=I.cell y c e;exact ⟨w',z.sameBut hs (cne y c e)⟩
  ·obtain ⟨e,n,ne,nf,d⟩:=I.pin p hp;exact ⟨(hs.2 p.1 ne).trans e,n,ne,nf,d⟩
 ·have hfn:X.fn x=true:=by
   rcases hf with z | z
   ·exact z
   ·rw [z] at hk; cases hk
  obtain ⟨c,hc⟩:=I.ok.has x (.inl hk);obtain ⟨w',z⟩:=I.cell x c hc;refine wpAny_storeName_cell I.ok.kind hk hc z (λ h' hc' hs=>?_);obtain ⟨oc,hoc,hocd⟩:=id z;refine h { s with heap:=h' } ⟨I.ok,I.os,I.bare,⟨λ b o e n hb hx=>?_,λ b o e n hb hx=>?_,I.base.free,λ b o e hx=>?_,I.base.tups,I.base.frzs,I.base.tbls⟩,⟨m,hn.sameBut hs (Ne.symm (cne x c hc)),λ j y v' e1 e2 e3=>?_⟩,λ y c' e=>?_,I.free,I.freeC,λ p hp=>?_,tracked ⟨oc,hoc,I.freeC x c hc⟩ hs,by simpa using I.len⟩ ⟨c,hs,.inr hc⟩
  ·exact (hs.2 b (NZ (NK (NM e) (I.ok.cab x c hfn hc)))).trans (I.base.keep b o e n hb hx)
  ·obtain ⟨sl,e1⟩:=I.base.slot b o e n hb hx;exact ⟨sl,(hs.2 b (NZ (NK (NM e) (I.ok.cab x c hfn hc)))).trans e1⟩
  ·obtain ⟨o',e1⟩:=I.base.there b o e hx;exact ⟨o',(hs.2 b (NZ (NK (NM e) (I.ok.cab x c hfn hc)))).trans e1⟩
  ·by_cases hj:j=i
   ·subst hj;rw [hi] at e1; cases e1;rw [Nz hiσ] at e2;cases e2;exact ⟨u,r,.inr ⟨.inl hk,c,hc,hc'⟩⟩
   ·rw [Nj (Ne.symm hj)] at e2;obtain ⟨u',r',q⟩:=hl j y v' e1 e2 e3;refine ⟨u',r',?_⟩;rcases q with q | ⟨k,c',e,z'⟩
    ·exact .inl q
    ·refine .inr ⟨k,c',e,z'.sameBut hs ?_⟩
     rintro rfl
     exact hj (BM hN e1 (I.ok.inj _ _ _ e hc ▸ hi))
  ·by_cases hcc:c'=c
   ·subst hcc; exact ⟨_,hc'⟩
   ·obtain ⟨w2,z2⟩:=I.cell y c' e;exact ⟨w2,z2.sameBut hs hcc⟩
  ·obtain ⟨e,n,ne,nf,d⟩:=I.pin p hp;refine ⟨(hs.2 p.1 ?_).trans e,n,ne,nf,d⟩;intro q;rw [q,hoc] at e;have q':oc=p.2:=Option.some.inj e;exact d w' (by rw [<- q']; exact hocd)
theorem Bs {M:Model} {A:Oh} {E:Nq->Nu->Prop} {i:Nat} {x:Str} {v:V} {u:Nq} {Q:Unit->Nu->Prop} (I:Inv X pins σ H s) (hN:X.N.Nodup) (hi:X.N[i]?=some x) (hx:Loc X.env.scope x) (r:RelV v u)
  (h:∀ s',Inv X pins (σ.set i (some v)) H s'->Q () s') (hf:X.fn x=true\/X.env.scope.names.lookup x=some .local:=by first | exact .inl rfl | exact .inr rfl | assumption):N7 M A (storeName X.env x u) Q E s :=
 zE I hN hi hx r (λ s' I' _=>h s' I') hf
theorem Inv.call' {s':Nu} {ch:List NI} (I:Inv X pins σ H s) (ho:s'.os=s.os) (u:Un (frs X.stack) ch H H' s.heap s'.heap) (hok:HOk X.prog X.w H' s'.heap) (hg:AllBare s'.gens)
  (hch:∀ b∈ch,(b∈X.ex\/X.s₀.heap.objs.size<=b)/\b≠X.env.locals/\(∀ x c,X.env.cells.lookup x=some c->c≠b)/\∀ p∈X.pn++pins,p.1≠b):Inv X pins σ H' s':=by
 obtain ⟨h',g',d',t',o'⟩:=s';have e:o'=s.os:=ho;subst e;exact I.call (g':=g') (t':=t') (d':=d') u hok hg hch
end
noncomputable abbrev XK:=Nq->Option NI->Hp->Prop
noncomputable abbrev St:=List (Option V)
noncomputable abbrev VK:=V->Hp->Prop
noncomputable abbrev TE:=St->Hp->VK->Prop
noncomputable abbrev TT:=St->Hp->(Bool->Hp->Prop)->Prop
noncomputable abbrev TA:=St->Hp->(List V->Hp->Prop)->Prop
structure Ends where
 nx:St->Hp->Prop
 rt:VK
 bk:St->Hp->Prop:=λ _ _=>False
 ct:St->Hp->Prop:=λ _ _=>False
noncomputable abbrev TS:=Ends->St->Hp->Prop
noncomputable def EP (X:Cx) (pins:List (NI×Obj)) (σ:St) (Q:VK) (u:Nq) (s':Nu):Prop:=∃ v H',Inv X pins σ H' s'/\RelV v u/\Q v H'
noncomputable def TP (X:Cx) (pins:List (NI×Obj)) (σ:St) (Q:Bool->Hp->Prop) (b:Bool) (s':Nu):Prop:=∃ H',Inv X pins σ H' s'/\Q b H'
noncomputable def AP (X:Cx) (pins:List (NI×Obj)) (σ:St) (Q:List V->Hp->Prop) (us:List Nq) (s':Nu):Prop:=∃ vs H',Inv X pins σ H' s'/\Vals vs us/\Q vs H'
noncomputable def SP (X:Cx) (pins:List (NI×Obj)) (D:Ends) (f:Flow) (s':Nu):Prop :=
 match f with
 | .next=>∃ σ' H',Inv X pins σ' H' s'/\D.nx σ' H'
 | .brk=>∃ σ' H',Inv X pins σ' H' s'/\D.bk σ' H'
 | .cont=>∃ σ' H',Inv X pins σ' H' s'/\D.ct σ' H'
 | .ret u=>∃ v σ' H',Inv X pins σ' H' s'/\RelV v u/\D.rt v H'
noncomputable def PE (X:Cx) (e:Expr) (t:TE):Prop :=
 ∀ (pins:List (NI×Obj)) (s:Nu) (σ:St) (H:Hp) (Q:VK),Inv X pins σ H s->t σ H Q->N7 (N9 X.prog X.w) X.A (eval e X.env) (EP X pins σ Q) X.xe s
noncomputable def PT (X:Cx) (e:Expr) (t:TT):Prop :=
 ∀ (pins:List (NI×Obj)) (s:Nu) (σ:St) (H:Hp) (Q:Bool->Hp->Prop),Inv X pins σ H s->t σ H Q->N7 (N9 X.prog X.w) X.A (isTrue e X.env (eval e X.env)) (TP X pins σ Q) X.xe s
noncomputable def PW (X:Cx) (e:Expr) (t:TT):Prop :=
 ∀ (whole:Sem Nq) (pins:List (NI×Obj)) (s:Nu) (σ:St) (H:Hp) (Q:Bool->Hp->Prop),Inv X pins σ H s->t σ H Q->N7 (N9 X.prog X.w) X.A (isTrue e X.env whole) (TP X pins σ Q) X.xe s
theorem PW.pt {X:Cx} {e:Expr} {t:TT} (h:PW X e t):PT X e t:=h _
noncomputable def PA (X:Cx) (es:List Expr) (t:TA):Prop :=
 ∀ (pos:Pos) (pins:List (NI×Obj)) (s:Nu) (σ:St) (H:Hp) (Q:List V->Hp->Prop),Inv X pins σ H s->t σ H Q->N7 (N9 X.prog X.w) X.A (spliced (backTo pos (Nw es X.env))) (AP X pins σ Q) X.xe s
noncomputable def PS (X:Cx) (st:Stmt) (t:TS):Prop :=
 ∀ (pins:List (NI×Obj)) (s:Nu) (σ:St) (H:Hp) (D:Ends),Inv X pins σ H s->t D σ H->N7 (N9 X.prog X.w) X.A (exec st X.env) (SP X pins D) X.xe s
noncomputable def PSs (X:Cx) (st:List Stmt) (t:TS):Prop :=
 ∀ (pins:List (NI×Obj)) (s:Nu) (σ:St) (H:Hp) (D:Ends),Inv X pins σ H s->t D σ H->N7 (N9 X.prog X.w) X.A (execs st X.env) (SP X pins D) X.xe s
theorem thn {α:Type} {t:Sem α} {Q Q':α->Nu->Prop} {M:Model} {A:Oh} {E:Nq->Nu->Prop} {s:Nu} (h:N7 M A t Q E s) (hQ:∀ a s,Q a s->Q' a s):N7 M A t Q' E s:=wpAny_mono h hQ λ _ _ x=>x
section
variable {X:Cx}
noncomputable def MH (i:Nat):TE:=λ σ H Q=>∃ v,σ[i]?=some (some v)/\Q v H
noncomputable def tC (v:V):TE:=λ _ H Q=>Q v H
theorem rB {i:Nat} {x:Str} {pos:Pos} (hN:X.N[i]?=some x) (hv:Vis X.env.scope x) (hd:(x==("__debug__" : Str))=false:=by decide) (hcd:(x==("__classdict__" : Str))=false:=by decide):PE X (.Name x pos) (MH i):=by
 intro pins s σ H Q I h;obtain ⟨v,e,h⟩:=h;obtain ⟨m,hn,hl⟩:=I.loc;obtain ⟨u,r,l⟩:=hl i x v hN e hv;have fin:EP X pins σ Q u s:=⟨v,H,I,r,h⟩;rcases l with ⟨hk,hm⟩ | ⟨hk,c,hc,hcell⟩
 ·exact wpAny_Name (wpAny_loadName_local I.ok.kind hk hn hm fin) hd
 ·rcases hk with hk | hk
  ·exact wpAny_Name (wpAny_loadName_cell I.ok.kind hk hc hcell fin) hd
  ·exact wpAny_Name (wpAny_loadName_free I.ok.kind hk hc hcell fin hcd) hd
theorem CQ {i j pos}:PE X (.Constant (.int i) j pos) (tC (.int i)):=λ _ _ _ H _ I h=>wpAny_Constant_int ⟨.int i,H,I.tok _,⟨_,rfl⟩,h⟩
theorem LU {b j pos}:PE X (.Constant (.bool b) j pos) (tC (.bl b)):=λ _ _ _ H _ I h=>Constant_bool ⟨.bl b,H,I,rfl,h⟩
theorem Kf {j pos}:PE X (.Constant .none j pos) (tC .non):=λ _ _ _ H _ I h=>Constant_none ⟨.non,H,I,rfl,h⟩
theorem vZ {x j pos}:PE X (.Constant (.str x) j pos) (tC (.str x)):=λ _ _ _ H _ I h=>Calls.Constant_str ⟨.str x,H,I.tok _,⟨_,rfl⟩,h⟩
noncomputable def Gl (X:Cx) (x:Str):Prop:=X.env.kindOf x=some .globalImplicit
theorem xy {E:Nq->Nu->Prop} {pins:List (NI×Obj)} {s:Nu} {σ:St} {H:Hp} {x:Str} {u:Nq} {pos:Pos} {Q:Nq->Nu->Prop} (I:Inv X pins σ H s) (hg:Gl X x) (hm:X.mg x=some u) (h:Q u s)
  (hd:(x==("__debug__" : Str))=false:=by decide):N7 (N9 X.prog X.w) X.A (eval (.Name x pos) X.env) Q E s :=
 Calls.Name_function_global I.ok.kind hg (Calls.loadGlobal_global (by rw [I.ok.glob]; exact I.mod.glob.keeps I.bk) hm h) hd
theorem uK {E:Nq->Nu->Prop} {pins:List (NI×Obj)} {s:Nu} {σ:St} {H:Hp} {x:Str} {u:Nq} {pos:Pos} {Q:Nq->Nu->Prop} (I:Inv X pins σ H s) (hg:Gl X x) (hm:X.mg x=none) (hv:bootBuiltins x=some u) (h:Q u s)
  (hn:x ≠ "__name__" := by decide) (hd:(x==("__debug__" : Str))=false:=by decide):N7 (N9 X.prog X.w) X.A (eval (.Name x pos) X.env) Q E s:=by
 obtain ⟨mb,h1,h2⟩:=I.mod.blt;exact Calls.Name_function_global I.ok.kind hg (Calls.loadGlobal_builtin (by rw [I.ok.glob]; exact I.mod.glob.keeps I.bk) hm (by rw [I.ok.blt]; exact h1.keeps I.bk) ((h2 x hn).trans hv) h) hd
theorem Ig {x:Str} {v:V} {u:Nq} {pos:Pos} (hg:Gl X x) (hm:X.mg x=some u) (r:RelV v u) (hd:(x==("__debug__" : Str))=false:=by decide):PE X (.Name x pos) (tC v) :=
 λ _ _ _ H _ I h=>xy I hg hm ⟨v,H,I,r,h⟩ hd
variable {a b:Expr} {ta tb:TE} {pos:Pos}
noncomputable def PC (X:Cx) (op:CmpOp) (a b:Expr) (t:TE):Prop :=
 ∀ (pins:List (NI×Obj)) (s:Nu) (σ:St) (H:Hp) (Q:VK),Inv X pins σ H s->t σ H Q ->
  N7 (N9 X.prog X.w) X.A (eval a X.env) (λ v s₁=>N7 (N9 X.prog X.w) X.A (eval b X.env) (λ u s₂=>N7 (N9 X.prog X.w) X.A (On op v u) (EP X pins σ Q) X.xe s₂) X.xe s₁) X.xe s
noncomputable def tB (t:TE):TT:=λ σ H Q=>t σ H λ x H1=>∃ c,x=.bl c/\Q c H1
theorem FI {op:CmpOp} {t:TE} (h:PC X op a b t) (h1:Oa op b=false:=by first | exact nobehind _ (by decide) (by decide) | rfl):PT X (.Compare a [op] [b] pos) (tB t):=by
 intro pins s σ H Q I hw;refine wpAny_isTrue_Compare1 (thn (h pins s σ H _ I hw) λ v s1 h1=>thn h1 λ u s2 h2=>thn h2 λ c s3 ⟨x,H1,I1,r1,q1⟩=>?_) h1;obtain ⟨d,rfl,q⟩:=q1;cases r1;exact wpAny_truthy_bool ⟨H1,I1,q⟩
theorem FH {e:Expr} {t:TE} (h:PE X e t) (he:∀ whole,isTrue e X.env whole=(do let v <- whole; standAt e.pos; holding [v] (truthy v)):=by intro _; rfl):PT X e (tB t):=by
 intro pins s σ H Q I hw;refine isTrue_plain (thn (h pins s σ H _ I hw) λ v s1 ⟨x,H1,I1,r1,q1⟩=>?_) (he _);obtain ⟨d,rfl,q⟩:=q1;cases r1;exact wpAny_truthy_bool ⟨H1,I1,q⟩
variable {tA tB':TT} {rest:List Expr}
noncomputable def MX (t u:TT):TT:=λ σ H Q=>t σ H λ c H1=>if c=true then u σ H1 Q else Q false H1
noncomputable def MM (t:TT):TT:=λ σ H Q=>t σ H λ c H1=>Q (!c) H1
theorem pw_and1 (ha:PT X a tA):PW X (.BoolOp .And [a] pos) tA:=by
 intro wh pins s σ H Q I h;refine isTrue_and (thn (ha pins s σ H Q I h) λ c s1 e=>?_);cases c with
 | true=>exact isTrue_and_nil e
 | false=>exact e
theorem pw_and (ha:PT X a tA) (hb:PW X (.BoolOp .And (b::rest) pos) tB'):PW X (.BoolOp .And (a::b::rest) pos) (MX tA tB'):=by
 intro wh pins s σ H Q I h;refine isTrue_and (thn (ha pins s σ H _ I h) λ c s1 ⟨H1,I1,q1⟩=>?_);cases c with
 | true=>exact hb wh pins s1 σ H1 Q I1 q1
 | false=>exact ⟨H1,I1,q1⟩
theorem J9 (ha:PT X a tA):PT X (.UnaryOp .Not a pos) (MM tA):=by
 intro pins s σ H Q I h;exact isTrue_not (ha pins s σ H (λ c H1=>Q (!c) H1) I h)
noncomputable def LA (ta tb:TE):TE:=λ σ H Q=>ta σ H λ x H1=>∃ c,x=.bl c/\if c=true then tb σ H1 Q else Q (.bl false) H1
noncomputable def Lq (ta:TE):TE:=λ σ H Q=>ta σ H λ x H1=>∃ c,x=.bl c/\Q (.bl (!c)) H1
theorem FS {op} {t:TE} (h:PE X a t):PE X (.BoolOp op [a] pos) t:=λ pins s σ H Q I hw=>BoolOp_one (h pins s σ H Q I hw)
theorem FY (ha:PE X a ta) (hb:PE X (.BoolOp .And (b::rest) pos) tb):PE X (.BoolOp .And (a::b::rest) pos) (LA ta tb):=by
 intro pins s σ H Q I h;refine BoolOp_and (thn (ha pins s σ H _ I h) λ v s1 ⟨x,H1,I1,r1,q1⟩=>?_);obtain ⟨c,rfl,q1⟩:=q1;cases r1;refine wpAny_truthy_bool ?_;cases c with
 | true=>exact hb pins s1 σ H1 Q I1 q1
 | false=>exact ⟨.bl false,H1,I1,rfl,q1⟩
theorem Ke (ha:PE X a ta):PE X (.UnaryOp .Not a pos) (Lq ta):=by
 intro pins s σ H Q I h;refine UnaryOp_ (thn (ha pins s σ H _ I h) λ v s1 ⟨x,H1,I1,r1,q1⟩=>?_);obtain ⟨c,rfl,q1⟩:=q1;cases r1;exact not_of (wpAny_truthy_bool ⟨.bl (!c),H1,I1,rfl,q1⟩)
noncomputable def tIf (t:TT) (ta tb:TE):TE:=λ σ H Q=>t σ H λ c H1=>if c=true then ta σ H1 Q else tb σ H1 Q
theorem BD {c:Expr} (hc:PT X c tA) (ha:PE X a ta) (hb:PE X b tb):PE X (.IfExp c a b pos) (tIf tA ta tb):=by
 intro pins s σ H Q I h;refine wpAny_IfExp (thn (hc pins s σ H _ I h) λ d s1 ⟨H1,I1,q1⟩=>?_);cases d with
 | true=>exact ha pins s1 σ H1 Q I1 q1
 | false=>exact hb pins s1 σ H1 Q I1 q1
end
noncomputable def SqL (K:Ni) (H:Hp) (a:NI) (xs:List V):Prop :=
 Rd H a (.lst xs) \/
  ∃ (o:Obj) (its:Array Nq) (n:Nat),K.lookup a=some o/\o.cls=.type "list" /\ o.dict=none/\o.data=.seq its n/\its.size<=No/\Vals xs its.toList
noncomputable def SqT (K:Ni) (H:Hp) (a:NI) (xs:List V):Prop :=
 Rd H a (.tup xs) \/
  ∃ (o:Obj) (its:Array Nq) (n:Nat),K.lookup a=some o/\o.cls=.type "tuple" /\ o.data=.seq its n/\its.size<=No/\Vals xs its.toList
noncomputable def M9:Nq->Option V
 | .none=>some .non
 | .bool b=>some (.bl b)
 | .int i _=>some (.int i)
 | .str x _=>some (.str x)
 | .bytes b _=>some (.byt b)
 | .float b _=>some (.flt b)
 | .ref a=>some (.ref a)
 | .type n=>some (.ty n)
 | _=>none
theorem RelV.abs {x:V} {u:Nq} (r:RelV x u):M9 u=some x:=by
 cases x with
 | non=>cases r; rfl
 | bl _=>cases r; rfl
 | int _=>obtain ⟨t,rfl⟩:=r; rfl
 | str _=>obtain ⟨t,rfl⟩:=r; rfl
 | byt _=>obtain ⟨t,rfl⟩:=r; rfl
 | flt _=>obtain ⟨t,rfl⟩:=r; rfl
 | ref _=>cases r; rfl
 | ty _=>cases r; rfl
theorem RelV.inj {x y:V} {u:Nq} (r:RelV x u) (q:RelV y u):x=y:=Option.some.inj (r.abs.symm.trans q.abs)
theorem Vals.inj:∀ {xs ys:List V} {us:List Nq},Vals xs us->Vals ys us->xs=ys
 | _,_,_,.nil,.nil=>rfl
 | _,_,_,.cons r t,.cons r' t'=>by rw [r.inj r',Vals.inj t t']
section
variable {X:Cx} {pins:List (NI×Obj)} {σ:St} {H:Hp} {s:Nu} {a:NI} {xs ys:List V}
theorem SqL.of {K:Ni} (h:H a=some (.lst xs)):SqL K H a xs:=.inl (.inl h)
theorem SqT.of {K:Ni} (h:H a=some (.tup xs)):SqT K H a xs:=.inl (.inl h)
theorem Inv.list (I:Inv X pins σ H s) (h:SqL X.K H a xs):∃ its:List Nq,Vals xs its/\PlainL s.heap a its.toArray/\xs.length<=No:=by
 rcases h with h | ⟨o,its,n,hk,hc,hd,hs,hz,r⟩
 ·obtain ⟨z,its,n,r,e⟩:=h.ok I.hok;exact ⟨its,r,⟨_,n,e,rfl,rfl,rfl⟩,z⟩
 ·refine ⟨its.toList,r,⟨o,n,I.kIn a o hk,hc,hd,by simpa using hs⟩,?_⟩;have e:=r.length;simp only [Array.length_toList] at e;omega
theorem Inv.tuple (I:Inv X pins σ H s) (h:SqT X.K H a xs):∃ its:List Nq,Vals xs its/\IsTup s.heap a its.toArray/\xs.length<=No:=by
 rcases h with h | ⟨o,its,n,hk,hc,hs,hz,r⟩
 ·obtain ⟨z,its,r,p⟩:=h.ok I.hok;exact ⟨its,r,p,z⟩
 ·refine ⟨its.toList,r,⟨o,I.kIn a o hk,hc,n,by simpa using hs⟩,?_⟩;have e:=r.length;simp only [Array.length_toList] at e;omega
theorem Inv.list_inj (I:Inv X pins σ H s) (h:SqL X.K H a xs) (h':SqL X.K H a ys):xs=ys:=by
 obtain ⟨its,r,⟨o,n,e,_,_,d⟩,_⟩:=I.list h;obtain ⟨its',r',⟨o',n',e',_,_,d'⟩,_⟩:=I.list h';rw [e] at e'; cases e';rw [d] at d';injection d' with d1 _
 have:its=its':=by simpa using congrArg Array.toList d1
 subst this;exact r.inj r'
theorem Inv.tuple_inj (I:Inv X pins σ H s) (h:SqT X.K H a xs) (h':SqT X.K H a ys):xs=ys:=by
 obtain ⟨its,r,⟨o,e,_,n,d⟩,_⟩:=I.tuple h;obtain ⟨its',r',⟨o',e',_,n',d'⟩,_⟩:=I.tuple h';rw [e] at e'; cases e';rw [d] at d';injection d' with d1 _
 have:its=its':=by simpa using congrArg Array.toList d1
 subst this;exact r.inj r'
end
noncomputable abbrev Cx.wish (X:Cx) (E:Nq->Nu->Prop):Cx:={ X with xe:=E }
noncomputable abbrev Cx.nox (X:Cx):Cx:=X.wish λ _ _=>False
theorem Cx.Ok.wish {X:Cx} (ok:X.Ok) (E:Nq->Nu->Prop):(X.wish E).Ok :=
 ⟨ok.mod,ok.kind,ok.glob,ok.blt,ok.above,ok.inj,ok.has,ok.cab,ok.hd,ok.frames,ok.stk,ok.exf,ok.bs,ok.bsz,ok.noex,ok.exfs,ok.funs,ok.frf⟩
theorem Cx.Ok.unwish {X:Cx} {E:Nq->Nu->Prop} (ok:(X.wish E).Ok):X.Ok :=
 ⟨ok.mod,ok.kind,ok.glob,ok.blt,ok.above,ok.inj,ok.has,ok.cab,ok.hd,ok.frames,ok.stk,ok.exf,ok.bs,ok.bsz,ok.noex,ok.exfs,ok.funs,ok.frf⟩
section
variable {X:Cx} {pins:List (NI×Obj)} {σ:St} {H:Hp} {s:Nu} {E:Nq->Nu->Prop}
theorem Inv.wish (I:Inv X pins σ H s) (E:Nq->Nu->Prop):Inv (X.wish E) pins σ H s:=⟨I.ok.wish E,I.os,I.bare,I.base,I.loc,I.cell,I.free,I.freeC,I.pin,I.hok,I.len⟩
theorem Inv.unwish (I:Inv (X.wish E) pins σ H s):Inv X pins σ H s:=⟨I.ok.unwish,I.os,I.bare,I.base,I.loc,I.cell,I.free,I.freeC,I.pin,I.hok,I.len⟩
theorem SP.unwish {D:Ends} {f:Flow} {s':Nu} (h:SP (X.wish E) pins D f s'):SP X pins D f s':=by
 cases f with
 | next=>obtain ⟨σ',H',I,q⟩:=h; exact ⟨σ',H',I.unwish,q⟩
 | brk=>obtain ⟨σ',H',I,q⟩:=h; exact ⟨σ',H',I.unwish,q⟩
 | cont=>obtain ⟨σ',H',I,q⟩:=h; exact ⟨σ',H',I.unwish,q⟩
 | ret u=>obtain ⟨v,σ',H',I,r,q⟩:=h; exact ⟨v,σ',H',I.unwish,r,q⟩
theorem PSs.nox {st:List Stmt} {t:TS} (h:PSs X.nox st t):PSs X st t:=λ pins s σ H D I hw =>
 wpAny_mono (h pins s σ H D (I.wish _) hw) (λ _ _ q=>q.unwish) λ _ _ z=>False.elim z
end
section
variable {X:Cx} {st:Stmt} {rest:List Stmt} {t u:TS} {e:Expr} {te:TE} {pos:Pos}
noncomputable def Lr:TS:=λ D σ H=>D.nx σ H
noncomputable def MK (t u:TS):TS:=λ D σ H=>t { D with nx:=u D } σ H
theorem DM:PSs X [] Lr:=λ _ _ σ H _ I h=>wpAny_execs_nil ⟨σ,H,I,h⟩
theorem BA (h1:PS X st t) (h2:PSs X rest u):PSs X (st::rest) (MK t u):=by
 intro pins s σ H D I h;refine wpAny_execs_cons (thn (h1 pins s σ H { D with nx:=u D } I h) λ f s1 q=>?_);cases f with
 | next =>
  obtain ⟨σ',H',I',q⟩:=q;exact h2 pins s1 σ' H' D I' q
 | ret v=>exact q
 | brk=>exact q
 | cont=>exact q
theorem DL (h1:PS X st t):PSs X [st] t:=by
 intro pins s σ H D I h;refine wpAny_execs_cons (thn (h1 pins s σ H D I h) λ f s1 q=>?_);cases f with
 | next=>exact wpAny_execs_nil q
 | ret v=>exact q
 | brk=>exact q
 | cont=>exact q
noncomputable def J4:TS:=λ D σ H=>D.bk σ H
theorem FL:PS X (.Break pos) J4:=λ _ _ σ H _ I h=>wpAny_Break ⟨σ,H,I,h⟩
theorem Inv.quiet {pins:List (NI×Obj)} {σ:St} {H:Hp} {s:Nu} (I:Inv X pins σ H s):interactive X.env=false:=by simp [interactive,I.ok.kind]
noncomputable def Ls (te:TE):TS:=λ D σ H=>te σ H λ _ H1=>D.nx σ H1
theorem An (he:PE X e te) (hs:swapsWith e none pos.line X.env=pure false:=by rfl):PS X (.Expr e pos) (Ls te):=by
 intro pins s σ H D I h;exact wpAny_Expr_any (thn (he pins s σ H _ I h) λ v s1 ⟨x,H1,I1,r1,q1⟩=>⟨σ,H1,I1,q1⟩) I.quiet hs
noncomputable def ML (te:TE):TS:=λ D σ H=>te σ H D.rt
theorem CN (he:PE X e te):PS X (.Return (some e) pos) (ML te):=by
 intro pins s σ H D I h;exact wpAny_Return_some (thn (he pins s σ H _ I h) λ v s1 ⟨x,H1,I1,r1,q1⟩=>⟨x,σ,H1,I1,r1,q1⟩)
noncomputable def MO (c:TT) (t u:TS):TS:=λ D σ H=>c σ H λ b H1=>if b=true then t D σ H1 else u D σ H1
theorem Jx {c:Expr} {a b:List Stmt} {tc:TT} (hc:PT X c tc) (ha:PSs X a t) (hb:PSs X b u):PS X (.If c a b pos) (MO tc t u):=by
 intro pins s σ H D I h;refine wpAny_If (thn (hc pins s σ H _ I h) λ d s1 ⟨H1,I1,q1⟩=>?_);cases d with
 | true=>exact ha pins s1 σ H1 D I1 q1
 | false=>exact hb pins s1 σ H1 D I1 q1
noncomputable def J0:TS:=λ _ _ _=>False
theorem BB:PS X st J0:=λ _ _ _ _ _ _ h=>h.elim
end
noncomputable abbrev TG:=V->St->Hp->(St->Hp->Prop)->Prop
noncomputable abbrev TGs:=List V->St->Hp->(St->Hp->Prop)->Prop
noncomputable def PG (X:Cx) (target:Expr) (t:TG):Prop :=
 ∀ (pins:List (NI×Obj)) (s:Nu) (σ:St) (H:Hp) (v:V) (u:Nq) (Q:St->Hp->Prop),Inv X pins σ H s->RelV v u->t v σ H Q ->
  N7 (N9 X.prog X.w) X.A (assign target X.env u) (λ _ s'=>∃ σ' H',Inv X pins σ' H' s'/\Q σ' H') X.xe s
noncomputable def PGs (X:Cx) (ts:List Expr) (t:TGs):Prop :=
 ∀ (pins:List (NI×Obj)) (s:Nu) (σ:St) (H:Hp) (vs:List V) (us:List Nq) (Q:St->Hp->Prop),Inv X pins σ H s->Vals vs us->t vs σ H Q ->
  N7 (N9 X.prog X.w) X.A (assignInOrder ((assignEach ts X.env).map (·.2)) us) (λ _ s'=>∃ σ' H',Inv X pins σ' H' s'/\Q σ' H') X.xe s
section
variable {X:Cx} {pos:Pos}
noncomputable def zX (i:Nat):TG:=λ v σ H Q=>Q (σ.set i (some v)) H
theorem aJ {i:Nat} {x:Str} (hN:X.N.Nodup) (hi:X.N[i]?=some x) (hx:Loc X.env.scope x) (hf:X.fn x=true\/X.env.scope.names.lookup x=some .local:=by first | exact .inl rfl | exact .inr rfl | assumption):PG X (.Name x pos) (zX i):=by
 intro pins s σ H v u Q I r h;exact wpAny_assign_Name (Bs I hN hi hx r (λ s' I'=>⟨_,H,I',h⟩) hf)
noncomputable def Mi:TGs:=λ vs σ H Q=>vs=[]/\Q σ H
noncomputable def JI (t:TG) (u:TGs):TGs:=λ vs σ H Q=>∃ v r,vs=v::r/\t v σ H λ σ' H'=>u r σ' H' Q
theorem oR:PGs X [] Mi:=by
 intro pins s σ H vs us Q I r h;obtain ⟨e,h⟩:=h;subst e;cases r;exact assignInOrder_nil ⟨σ,H,I,h⟩
theorem eI {e:Expr} {es:List Expr} {t:TG} {u:TGs} (h1:PG X e t) (h2:PGs X es u)
  (hs:(assignEach (e::es) X.env).map (·.2)=assign e X.env::(assignEach es X.env).map (·.2):=by rfl):PGs X (e::es) (JI t u):=by
 intro pins s σ H vs us Q I r h;obtain ⟨v,vr,e1,h⟩:=h;subst e1;cases r with
 | cons r rr =>
  rw [hs];refine assignInOrder_cons (thn (h1 pins s σ H _ _ _ I r h) λ _ s1 ⟨σ1,H1,I1,q1⟩=>?_);exact h2 pins s1 σ1 H1 _ _ Q I1 rr q1
noncomputable def Mh (K:Ni) (n:Nat) (t:TGs):TG:=λ v σ H Q=>∃ a xs,v=.ref a/\SqT K H a xs/\xs.length=n/\t xs σ H Q
theorem rA {es:List Expr} {k:Nat} {t:TGs} {n:Nat} (hc:X.calm=true) (h:PGs X es t)
  (hn:(assignEach es X.env).length=n:=by rfl) (hst:(assignEach es X.env).findIdx? (·.1)=none:=by rfl):PG X (.Tuple es k pos) (Mh X.K n t):=by
 intro pins s σ H v u Q I r hw;obtain ⟨a,xs,e1,hq,hl,hw⟩:=hw;subst e1;cases r;obtain ⟨its,rv,ht,hz⟩:=I.tuple hq;refine assign_Tuple_tuple (I.ok.hd hc) ht (by simp [hn,<- hl,rv.length]) hst λ h' hx=>?_;have I1:Inv X pins σ H { s with heap:=h' }:=I.kept (t':=s.toks) λ b o e=>hx b o (NZ (NM e)) e;exact h pins _ σ H xs _ Q I1 (by simpa using rv) hw
noncomputable def Fw (te:TE) (g:TG):TS:=λ D σ H=>te σ H λ x H1=>g x σ H1 D.nx
theorem Kb {tg e:Expr} {te:TE} {g:TG} (he:PE X e te) (hg:PG X tg g) (hs:swapsWithSole [tg] e pos.line X.env=pure false:=by rfl) (hw:swappedStores [tg] e X.env=pure none:=by rfl)
  (h1:(assignEach [tg] X.env).map (·.2)=[assign tg X.env]:=by rfl):PS X (.Assign [tg] e pos) (Fw te g):=by
 intro pins s σ H D I h;refine wpAny_Assign_stores (thn (he pins s σ H _ I h) λ v s1 ⟨x,H1,I1,r1,q1⟩=>?_) hs hw;rw [h1];exact thn (hg pins s1 σ H1 x v _ I1 r1 q1) λ _ s2 q=>q
theorem CM {i:Nat} {x:Str} {e:Expr} {te:TE} {pos':Pos} (hN:X.N.Nodup) (hi:X.N[i]?=some x) (hx:Loc X.env.scope x) (he:PE X e te) (hs:swapsWith e (some (.Name x pos')) pos.line X.env=pure false:=by rfl) (hf:X.fn x=true\/X.env.scope.names.lookup x=some .local:=by first | exact .inl rfl | exact .inr rfl | assumption) :
  PS X (.Assign [.Name x pos'] e pos) (Fw te (zX i)):=by
 intro pins s σ H D I h;refine wpAny_Assign_Name (thn (he pins s σ H _ I h) λ v s1 ⟨y,H1,I1,r1,q1⟩=>?_) hs;exact Bs I1 hN hi hx r1 (λ s2 I2=>⟨_,H1,I2,q1⟩) hf
end
section
variable {X:Cx} {pos:Pos}
noncomputable def JY (c:TT) (tb:TS):TS:=λ D σ H=>∃ W:Nat->St->Hp->Prop,(∃ m,W m σ H)/\∀ m σ H,W m σ H ->
 c σ H λ b H1=>if b=true then ∃ N:St->Hp->Prop,(∀ σ' H',N σ' H'->∃ m',m' < m/\W m' σ' H')/\tb { D with nx:=N,ct:=N,bk:=D.nx } σ H1 else D.nx σ H1
theorem FJ {c:Expr} {body:List Stmt} {tc:TT} {tb:TS} (hp:PassesOwn (N9 X.prog X.w) X.A X.env X.xe) (hc:PT X c tc) (hb:PSs X body tb):PS X (.While c body [] pos) (JY tc tb):=by
 intro pins s σ H D I h;obtain ⟨W,⟨m0,w0⟩,turn⟩:=h;refine wpAny_While (codeAny_whileLoop (λ n s'=>∃ σ' H',Inv X pins σ' H' s'/\W n σ' H') ?_ m0 ⟨σ,H,I,w0⟩)
 rintro n s1 ⟨σ1,H1,I1,w1⟩
 refine wpAny_passesOwn hp (thn (hc pins s1 σ1 H1 _ I1 (turn n σ1 H1 w1)) λ b s2 ⟨H2,I2,q2⟩=>?_);cases b with
 | true =>
  obtain ⟨N,hN,q2⟩:=q2;rw [if_pos rfl];refine wpAny_passesOwn hp (thn (hb pins s2 σ1 H2 _ I2 q2) λ f s3 q3=>?_);cases f with
  | next =>
   obtain ⟨σ3,H3,I3,n3⟩:=q3;obtain ⟨m',hm,w3⟩:=hN σ3 H3 n3;exact ⟨m',hm,σ3,H3,I3,w3⟩
  | cont =>
   obtain ⟨σ3,H3,I3,n3⟩:=q3;obtain ⟨m',hm,w3⟩:=hN σ3 H3 n3;exact ⟨m',hm,σ3,H3,I3,w3⟩
  | brk=>exact q3
  | ret v=>exact q3
 | false =>
  rw [if_neg NE];exact wpAny_execs_nil ⟨σ1,H2,I2,q2⟩
end
structure It where
 go:Nat->Hp->Prop
 yld:Nat->Hp->V->Hp->Prop
 stop:Nat->Hp->Prop
noncomputable def sU (X:Cx) (pins:List (NI×Obj)) (H:Hp) (b:NI):Prop :=
 H b=none/\b≠X.env.locals/\b∉X.fs/\(b∈X.ex\/X.s₀.heap.objs.size<=b)/\(∀ x c,X.env.cells.lookup x=some c->c≠b)/\∀ p∈X.pn++pins,p.1≠b
theorem Inv.fpOk {X:Cx} {pins:List (NI×Obj)} {σ:St} {H H':Hp} {s:Nu} {b:NI} (I:Inv X pins σ H s) (hb:s.heap.objs.size<=b) (hn:H' b=none):sU X pins H' b:=by
 refine ⟨hn,Pp (NK I.lt hb),I.nofs hb,.inr (NL I.sz hb),λ x c e z=>?_,λ p hp z=>?_⟩
 ·obtain ⟨v,q⟩:=I.cell x c e;exact absurd (NK q.lt (by rw [z]; exact hb)) (OT _)
 ·exact absurd (NK (NM (I.pin p hp).1) (by rw [z]; exact hb)) (OT _)
structure Turn (P:NT) (w:World) (K:Ni) (tg:Expr) (J:It) (fp:List NI) (it:NI) (tn:Nat->Heap->Prop):Prop where
 mem:it∈fp
 obj:∀ i h,tn i h->∀ b∈fp,∃ o,h.get? b=some o/\∀ v,o.data≠.cell v
 keep:∀ i h h',tn i h->(∀ b∈fp,∀ o,h.get? b=some o->h'.get? b=some o)->tn i h'
 item:∀ (X:Cx),X.prog=P->X.w=w->X.K=K->X.calm=true->∀ (i:Nat) (pins:List (NI×Obj)) (s:Nu) (σ:St) (H:Hp) (E:Nq->Nu->Prop),Inv X pins σ H s->(∀ b∈fp,sU X pins H b)->tn i s.heap->J.go i H ->
  N7 (N9 P w) X.A (pyNext (.ref it)) (λ r s1=>∃ u,r=some u /\
   N7 (N9 P w) X.A (letOwnedTupleGo tg (.ref it) u) (λ _ s2=>∃ x H',Inv X pins σ H' s2/\RelV x u/\J.yld i H x H'/\tn (i+1) s2.heap/\∀ b∈fp,H' b=none) E s1) E s
 done:∀ (X:Cx),X.prog=P->X.w=w->X.K=K->X.calm=true->∀ (i:Nat) (pins:List (NI×Obj)) (s:Nu) (σ:St) (H:Hp) (E:Nq->Nu->Prop),Inv X pins σ H s->(∀ b∈fp,sU X pins H b)->tn i s.heap->J.stop i H ->
  N7 (N9 P w) X.A (pyNext (.ref it)) (λ r s1=>r=none/\Inv X pins σ H s1) E s
 self:∀ (A:Oh) (i:Nat) (s:Nu) (Q:Nq->Nu->Prop) (E:Nq->Nu->Prop),tn i s.heap->Q (.ref it) s->N7 (N9 P w) A (pyIter (.ref it)) Q E s
noncomputable abbrev TI:=St->Hp->(It->Hp->Prop)->Prop
noncomputable def PIE (X:Cx) (pins:List (NI×Obj)) (σ:St) (tg:Expr) (R:It->Hp->Prop) (itv:Nq) (s2:Nu):Prop :=
 ∃ (it:NI) (fp:List NI) (tn:Nat->Heap->Prop) (J:It) (H':Hp),itv=.ref it/\Inv X pins σ H' s2/\Turn X.prog X.w X.K tg J fp it tn/\tn 0 s2.heap/\(∀ b∈fp,sU X pins H' b)/\R J H'
noncomputable def PI (X:Cx) (tg iter:Expr) (wi:TI):Prop :=
 ∀ (pins:List (NI×Obj)) (s:Nu) (σ:St) (H:Hp) (R:It->Hp->Prop),Inv X pins σ H s->wi σ H R ->
  N7 (N9 X.prog X.w) X.A (eval iter X.env) (λ v s1=>N7 (N9 X.prog X.w) X.A (pyIter v) (PIE X pins σ tg R) X.xe s1) X.xe s
theorem Ec {M:Model} {A:Oh} {E:Nq->Nu->Prop} {s:Nu} {tg:Expr} {it:NI} {u:Nq} {o:Obj} {n:String} {vs:Array Nq} {Q:Unit->Nu->Prop} (ho:s.heap.get? it=some o) (hc:o.cls=.type n) (hd:o.data=.fields vs)
  (hn:["enumerate", "zip", "dict_itemiterator", "dict_reverseitemiterator", "odict_iterator", "itertools.zip_longest", "itertools.pairwise"].contains n=false) (hQ:Q () s):N7 M A (letOwnedTupleGo tg (.ref it) u) Q E s:=by
 unfold letOwnedTupleGo;cases tg <;> first
  | exact NR hQ
  | (cases u <;> first
    | exact NR hQ
    | (refine NH (wpAny_load ho ?_)
       rw [hc,hd];show N7 M A (if (["enumerate", "zip", "dict_itemiterator", "dict_reverseitemiterator", "odict_iterator", "itertools.zip_longest", "itertools.pairwise"].contains n&&vs[0]?==some (rawInt _))=true then _ else _) Q E s;rw [if_neg (by intro h; rw [hn,Bool.false_and] at h; cases h)];exact NR hQ))
noncomputable def Itl (K:Ni) (a:NI):It :=
 ⟨λ i H=>∃ xs x,SqL K H a xs/\xs[i]?=some x,λ i H x H'=>H'=H/\∀ xs,SqL K H a xs->xs[i]?=some x,λ i H=>∃ xs,SqL K H a xs/\xs.length<=i⟩
noncomputable def Itt (K:Ni) (a:NI):It :=
 ⟨λ i H=>∃ xs x,SqT K H a xs/\xs[i]?=some x,λ i H x H'=>H'=H/\∀ xs,SqT K H a xs->xs[i]?=some x,λ i H=>∃ xs,SqT K H a xs/\xs.length<=i⟩
noncomputable def Itr (lo:Int) (n:Nat):It:=⟨λ i _=>i < n,λ i H x H'=>H'=H/\x=.int (lo+i),λ i _=>n<=i⟩
theorem Ev {P:NT} {w:World} {K:Ni} {tg:Expr} (a it:NI):Turn P w K tg (Itl K a) [it] it (λ i h=>h.IsListIter it a i) where
 mem:=by simp
 obj:=λ i h st b hb=>by
  have e:b=it:=by simpa using hb
  subst e;obtain ⟨o,e,c,d⟩:=st;exact ⟨o,e,λ v z=>by rw [d] at z; cases z⟩
 keep:=λ i h h' st k=>st.at λ o e=>k it (by simp) o e
 item:=by
  intro X hP hw hK hc i pins s σ H E I hf st hg;subst hP hw hK;obtain ⟨xs,x,hq,hx⟩:=hg;obtain ⟨its,rv,p,hz⟩:=I.list hq;obtain ⟨u,hu,ru⟩:=rv.get hx;obtain ⟨f0,f1,f2,f3,f4,f5⟩:=hf it (by simp);refine wpAny_pyNext_list_item st p.isList (x:=u) (by simpa using hu) λ h' st' sb=>?_;have I1:Inv X pins σ H { s with heap:=h' }:=I.turned (t':=s.toks) (λ b o hb e=>(sb.2 b hb).trans e) f0 f1 f3 f4 f5;obtain ⟨o,e,c,d⟩:=id st';exact ⟨u,rfl,Ec (s:={ s with heap:=h' }) e c d (by decide) ⟨x,H,I1,ru,⟨rfl,λ ys hy=>by rw [I.list_inj hy hq]; exact hx⟩,st',λ b hb=>(hf b hb).1⟩⟩
 done:=by
  intro X hP hw hK hc i pins s σ H E I hf st hg;subst hP hw hK;obtain ⟨xs,hq,hx⟩:=hg;obtain ⟨its,rv,p,hz⟩:=I.list hq;obtain ⟨f0,f1,f2,f3,f4,f5⟩:=hf it (by simp);have hl:=rv.length;exact wpAny_pyNext_list_end (I.ok.hd hc) st p.isList (by simp; omega) λ h' eb=>⟨rfl,I.turned (t':=s.toks) (λ b o hb e=>eb b o hb e) f0 f1 f3 f4 f5⟩
 self:=λ _ _ _ _ _ st h=>wpAny_pyIter_listiter st h
theorem CB {P:NT} {w:World} {K:Ni} {tg:Expr} (a it:NI):Turn P w K tg (Itt K a) [it] it (λ i h=>h.IsTupleIter it a i) where
 mem:=by simp
 obj:=λ i h st b hb=>by
  have e:b=it:=by simpa using hb
  subst e;obtain ⟨o,e,c,d⟩:=st;exact ⟨o,e,λ v z=>by rw [d] at z; cases z⟩
 keep:=λ i h h' st k=>st.at λ o e=>k it (by simp) o e
 item:=by
  intro X hP hw hK hc i pins s σ H E I hf st hg;subst hP hw hK;obtain ⟨xs,x,hq,hx⟩:=hg;obtain ⟨its,rv,p,hz⟩:=I.tuple hq;obtain ⟨u,hu,ru⟩:=rv.get hx;obtain ⟨f0,f1,f2,f3,f4,f5⟩:=hf it (by simp);refine wpAny_pyNext_tuple_item st (show s.heap.IsTuple a its.toArray from p) (x:=u) (by simpa using hu) λ h' st' sb=>?_;have I1:Inv X pins σ H { s with heap:=h' }:=I.turned (t':=s.toks) (λ b o hb e=>(sb.2 b hb).trans e) f0 f1 f3 f4 f5;obtain ⟨o,e,c,d⟩:=id st';exact ⟨u,rfl,Ec (s:={ s with heap:=h' }) e c d (by decide) ⟨x,H,I1,ru,⟨rfl,λ ys hy=>by rw [I.tuple_inj hy hq]; exact hx⟩,st',λ b hb=>(hf b hb).1⟩⟩
 done:=by
  intro X hP hw hK hc i pins s σ H E I hf st hg;subst hP hw hK;obtain ⟨xs,hq,hx⟩:=hg;obtain ⟨its,rv,p,hz⟩:=I.tuple hq;obtain ⟨f0,f1,f2,f3,f4,f5⟩:=hf it (by simp);have hl:=rv.length;exact wpAny_pyNext_tuple_end (I.ok.hd hc) st (show s.heap.IsTuple a its.toArray from p) (by simp; omega) λ h' eb=>⟨rfl,I.turned (t':=s.toks) (λ b o hb e=>eb b o hb e) f0 f1 f3 f4 f5⟩
 self:=λ _ _ _ _ _ st h=>wpAny_pyIter_tupleiter st h
theorem CC {P:NT} {w:World} {K:Ni} {tg:Expr} (it:NI) (lo:Int) (n:Nat):Turn P w K tg (Itr lo n) [it] it (λ i h=>IsRangeIter h it (lo+(i:Nat)*1) ((n:Int) - (i:Nat)) 1) where
 mem:=by simp
 obj:=λ i h st b hb=>by
  have e:b=it:=by simpa using hb
  subst e;exact ⟨_,st,λ v z=>by
   have z':Data.fields _=Data.cell v:=z;cases z'⟩
 keep:=λ i h h' st k=>k it (by simp) _ st
 item:=by
  intro X hP hw hK hc i pins s σ H E I hf st hg;subst hP hw hK;obtain ⟨f0,f1,f2,f3,f4,f5⟩:=hf it (by simp);have W:=Walks.range (prog:=X.prog) (w:=X.w) (I.ok.hd hc) it lo 1 n;refine W.item i s _ _ hg st λ v h' tk hv st' kk=>?_;obtain ⟨t,rfl⟩:=hv;have I1:Inv X pins σ H { s with heap:=h',toks:=tk }:=I.turned (λ b o hb e=>kk b o (by simpa using hb) e) f0 f1 f3 f4 f5;refine ⟨_,rfl,Ec (s:={ s with heap:=h',toks:=tk }) (n := "range_iterator") st' rfl rfl (by decide) ⟨.int (lo+i),H,I1,⟨t,?_⟩,⟨rfl,rfl⟩,st',λ b hb=>(hf b hb).1⟩⟩;rw [Int.mul_one]
 done:=by
  intro X hP hw hK hc i pins s σ H E I hf st hg;subst hP hw hK;obtain ⟨f0,f1,f2,f3,f4,f5⟩:=hf it (by simp);exact wpAny_pyNext_range_end (I.ok.hd hc) st (by have:n<=i:=hg; omega) λ h' eb=>⟨rfl,I.turned (t':=s.toks) (λ b o hb e=>eb b o hb e) f0 f1 f3 f4 f5⟩
 self:=λ _ _ _ _ _ st h=>wpAny_pyIter_rangeiter st h
section
variable {X:Cx} {tg:Expr}
noncomputable def Me (K:Ni) (tl:TE):TI:=λ σ H R=>tl σ H λ x H1=>∃ a,x=.ref a/\(∃ xs,SqL K H1 a xs)/\R (Itl K a) H1
noncomputable def M6 (K:Ni) (tl:TE):TI:=λ σ H R=>tl σ H λ x H1=>∃ a,x=.ref a/\(∃ xs,SqT K H1 a xs)/\R (Itt K a) H1
theorem DN {l:Expr} {tl:TE} (hl:PE X l tl):PI X tg l (Me X.K tl):=by
 intro pins s σ H R I h;refine thn (hl pins s σ H _ I h) λ v s1 ⟨x,H1,I1,r1,q1⟩=>?_;obtain ⟨a,e,⟨xs,hq⟩,q⟩:=q1;subst e;cases r1;obtain ⟨its,rv,p,hz⟩:=I1.list hq;refine wpAny_pyIter_list p.isList ?_;refine ⟨s1.heap.objs.size,[s1.heap.objs.size],_,_,H1,rfl,I1.kept (t':=s1.toks) λ b o e=>Nv _ e,Ev a _,⟨_,NX _ rfl,rfl,rfl⟩,λ b hb=>?_,q⟩;have e:b=s1.heap.objs.size:=by simpa using hb
 subst e;exact I1.fpOk (Np _) (I1.hok.fresh (Np _))
theorem FO {l:Expr} {tl:TE} (hl:PE X l tl):PI X tg l (M6 X.K tl):=by
 intro pins s σ H R I h;refine thn (hl pins s σ H _ I h) λ v s1 ⟨x,H1,I1,r1,q1⟩=>?_;obtain ⟨a,e,⟨xs,hq⟩,q⟩:=q1;subst e;cases r1;obtain ⟨its,rv,p,hz⟩:=I1.tuple hq;refine wpAny_pyIter_tuple (show s1.heap.IsTuple a its.toArray from p) ?_;refine ⟨s1.heap.objs.size,[s1.heap.objs.size],_,_,H1,rfl,I1.kept (t':=s1.toks) λ b o e=>Nv _ e,CB a _,⟨_,NX _ rfl,rfl,rfl⟩,λ b hb=>?_,q⟩;have e:b=s1.heap.objs.size:=by simpa using hb
 subst e;exact I1.fpOk (Np _) (I1.hok.fresh (Np _))
theorem FC {pins:List (NI×Obj)} {σ:St} {H:Hp} {s:Nu} {R:It->Hp->Prop} {E:Nq->Nu->Prop} {lo hi:Int} {t u v:Tok} {tk:Nat} (I:Inv X pins σ H s) (h1:-(2 ^ 62)<=lo) (h2:lo < 2 ^ 62) (h3:-(2 ^ 62)<=hi) (h4:hi < 2 ^ 62)
  (q:R (Itr lo (hi - lo).toNat) H):N7 (N9 X.prog X.w) X.A (pyIter (.ref s.heap.objs.size)) (PIE X pins σ tg R) E { s with heap:=s.heap.push { cls:=.type "range", data:=.fields #[.int lo t,.int hi u,.int 1 v] },toks:=tk }:=by
 refine wpAny_pyIter_range (IsRange.new ..) (small_one h1 h2 h3 h4) ?_;have I1:Inv X pins σ H { s with heap:=s.heap.push { cls:=.type "range", data:=.fields #[.int lo t,.int hi u,.int 1 v] },toks:=tk }:=I.kept λ b o e=>Nv _ e;refine ⟨(s.heap.push { cls:=.type "range", data:=.fields #[.int lo t,.int hi u,.int 1 v] }).objs.size,[(s.heap.push { cls:=.type "range", data:=.fields #[.int lo t,.int hi u,.int 1 v] }).objs.size],_,_,H,rfl,I1.kept (t':=tk) λ b o e=>Nv _ e,CC _ lo (hi - lo).toNat,?_,λ b hb=>?_,q⟩
 ·have e1:lo+((0:Nat):Int)*1=lo:=by simp
  have e2:(((hi - lo).toNat:Nat):Int) - ((0:Nat):Int)=Builtin.Range.rangeSize lo hi 1:=by rw [rangeSize_one]; split <;> omega
  show IsRangeIter _ _ (lo+((0:Nat):Int)*1) ((((hi - lo).toNat:Nat):Int) - ((0:Nat):Int)) 1;rw [e1,e2];exact NX _ rfl
 ·have e:b=(s.heap.push { cls:=.type "range", data:=.fields #[.int lo t,.int hi u,.int 1 v] }).objs.size:=by simpa using hb
  subst e;exact I1.fpOk (Np _) (I1.hok.fresh (Np _))
noncomputable def Mc (ta:TA):TI:=λ σ H R=>ta σ H λ vs H1=>∃ j:Int,vs=[.int j]/\-(2 ^ 62)<=j/\j < 2 ^ 62/\R (Itr 0 j.toNat) H1
theorem EF {a:Expr} {ta:TA} {p pos:Pos} (hg:Gl X "range") (hm:X.mg "range" = none) (ha:PA X [a] ta) (hs:Nw [a] X.env=[(false,eval a X.env)]:=by rfl):PI X tg (.Call (.Name "range" p) [a] [] pos) (Mc ta):=by
 intro pins s σ H R I h;refine Call_ (uK I hg hm boot_range (PyProof.Rows.callWith_type1 (thn (ha pos pins s σ H _ I h) λ us s1 ⟨vs,H1,I1,r1,q1⟩=>?_) hs rfl));obtain ⟨j,e,q1,q2,q⟩:=q1;subst e;cases r1 with
 | cons r rr =>
  cases rr;obtain ⟨t,rfl⟩:=r;exact call_range_1 (FC I1 (by omega) (by omega) q1 q2 (by simpa using q))
noncomputable def MP (wi:TI) (g:TG) (tb:TS):TS:=λ D σ H=>wi σ H λ J H1=>∃ W:Nat->Nat->St->Hp->Prop,(∃ m,W 0 m σ H1)/\∀ i m σ H,W i m σ H ->
 (J.stop i H/\D.nx σ H)\/(J.go i H/\∃ N:St->Hp->Prop,(∀ σ' H',N σ' H'->∃ m',m' < m/\W (i+1) m' σ' H')/\∀ x H',J.yld i H x H'->g x σ H' λ σ2 H2=>tb { D with nx:=N,ct:=N,bk:=D.nx } σ2 H2)
noncomputable def xV (fp:List NI) (h:Heap):List (NI×Obj):=fp.filterMap λ b=>(h.get? b).map λ o=>(b,o)
theorem qe {fp:List NI} {h:Heap} {b:NI} {o:Obj} (hb:b∈fp) (e:h.get? b=some o):(b,o)∈xV fp h:=List.mem_filterMap.mpr ⟨b,hb,by rw [e]; rfl⟩
theorem EM {fp:List NI} {h:Heap} {p:NI×Obj} (hp:p∈xV fp h):p.1∈fp/\h.get? p.1=some p.2:=by
 obtain ⟨b,hb,e⟩:=List.mem_filterMap.mp hp;cases q:h.get? b with
 | none=>rw [q] at e; cases e
 | some o =>
  rw [q] at e;have e':(b,o)=p:=Option.some.inj e;subst e';exact ⟨hb,q⟩
theorem Inv.pinned {pins:List (NI×Obj)} {σ:St} {H:Hp} {s:Nu} {fp:List NI} (I:Inv X pins σ H s) (hf:∀ b∈fp,sU X pins H b) (ho:∀ b∈fp,∃ o,s.heap.get? b=some o/\∀ v,o.data≠.cell v):Inv X (pins++xV fp s.heap) σ H s :=
 I.pins_of λ p hp=>(N1.mp hp).elim (λ z=>I.pin p (Od _ z)) λ z=>by
  obtain ⟨hb,e⟩:=EM z;obtain ⟨f0,f1,f2,_⟩:=hf p.1 hb;obtain ⟨o,e',d⟩:=ho p.1 hb;rw [e] at e'; cases e';exact ⟨e,f0,f1,f2,d⟩
theorem Inv.unpinned {pins pl:List (NI×Obj)} {σ:St} {H:Hp} {s:Nu} (I:Inv X (pins++pl) σ H s):Inv X pins σ H s:=I.pins_of λ p hp=>I.pin p (Od _ (Ob _ hp))
theorem FK {iter:Expr} {body:List Stmt} {wi:TI} {g:TG} {tb:TS} {pos:Pos} (hp:PassesOwn (N9 X.prog X.w) X.A X.env X.xe) (hc:X.calm=true) (hi:PI X tg iter wi) (hg:PG X tg g) (hb:PSs X body tb)
  (hs:∀ x,foldedSetIterable iter X.env x=pure x:=by intro _; rfl):PS X (.For tg iter body [] pos) (MP wi g tb):=by
 intro pins s σ H D I h;refine wpAny_For (thn (hi pins s σ H _ I h) λ v s1 h1=>thn h1 λ itv s2 h2=>?_) hs;obtain ⟨it,fp,tn,J,H2,e,I2,T,st2,f2,W,⟨m0,w0⟩,turn⟩:=h2;subst e;have stat:∀ {H':Hp},(∀ b∈fp,H' b=none)->∀ b∈fp,sU X pins H' b:=λ hn b hb=>⟨hn b hb,(f2 b hb).2⟩;refine codeAny_forLoop_any (λ n s'=>∃ i σ' H',Inv X pins σ' H' s'/\tn i s'.heap/\(∀ b∈fp,H' b=none)/\W i n σ' H') ?_ m0 ⟨0,σ,H2,I2,st2,λ b hb=>(f2 b hb).1,w0⟩
 rintro n s3 ⟨i,σ3,H3,I3,st3,fr3,w3⟩
 rcases turn i n σ3 H3 w3 with ⟨stop,qn⟩ | ⟨go,N,hN,step⟩
 ·refine wpAny_passesOwn hp (thn (T.done X rfl rfl rfl hc i pins s3 σ3 H3 X.xe I3 (stat fr3) st3 stop) λ r s4 ⟨hr,I4⟩=>?_);subst hr;exact wpAny_execs_nil ⟨σ3,H3,I4,qn⟩
 ·refine wpAny_passesOwn hp (thn (T.item X rfl rfl rfl hc i pins s3 σ3 H3 X.xe I3 (stat fr3) st3 go) λ r s4 ⟨u,hr,h4⟩=>?_);subst hr;refine wpAny_passesOwn hp (thn h4 λ _ s5 ⟨x,H5,I5,r5,y5,st5,fr5⟩=>?_);have I5':=I5.pinned (stat fr5) (T.obj _ _ st5);refine wpAny_passesOwn hp (thn (hg _ s5 σ3 H5 x u _ I5' r5 (step x H5 y5)) λ _ s6 ⟨σ6,H6,I6,q6⟩=>?_);refine wpAny_passesOwn hp (thn (hb _ s6 σ6 H6 _ I6 q6) λ f s7 q7=>?_);have again:∀ {σ7:St} {H7:Hp},Inv X (pins++xV fp s5.heap) σ7 H7 s7->N σ7 H7->∃ m,m < n/\∃ i σ' H',Inv X pins σ' H' s7/\tn i s7.heap/\(∀ b∈fp,H' b=none)/\W i m σ' H':=λ {σ7 H7} I7 n7=>by
   obtain ⟨m',hm,w7⟩:=hN σ7 H7 n7;refine ⟨m',hm,i+1,σ7,H7,I7.unpinned,T.keep _ _ _ st5 λ b hb o e=>(I7.pin (b,o) (Od _ (Od _ (qe hb e)))).1,λ b hb=>?_,w7⟩;obtain ⟨o,e,d⟩:=T.obj _ _ st5 b hb;exact (I7.pin (b,o) (Od _ (Od _ (qe hb e)))).2.1
  cases f with
  | next=>obtain ⟨σ7,H7,I7,n7⟩:=q7; exact again I7 n7
  | cont=>obtain ⟨σ7,H7,I7,n7⟩:=q7; exact again I7 n7
  | brk=>obtain ⟨σ7,H7,I7,q7⟩:=q7; exact ⟨σ7,H7,I7.unpinned,q7⟩
  | ret v=>obtain ⟨x7,σ7,H7,I7,r7,q7⟩:=q7; exact ⟨x7,σ7,H7,I7.unpinned,r7,q7⟩
end
noncomputable abbrev R2:=V->V->Hp->VK->Prop
noncomputable def OpR (X:Cx) (f:Nq->Nq->Sem Nq) (r:R2):Prop :=
 ∀ (pins:List (NI×Obj)) (s:Nu) (σ:St) (H:Hp) (x y:V) (v u:Nq) (Q:VK),Inv X pins σ H s->RelV x v->RelV y u->r x y H Q ->
  N7 (N9 X.prog X.w) X.A (f v u) (EP X pins σ Q) X.xe s
noncomputable def UnR (X:Cx) (f:Nq->Sem Nq) (r:V->Hp->VK->Prop):Prop :=
 ∀ (pins:List (NI×Obj)) (s:Nu) (σ:St) (H:Hp) (x:V) (v:Nq) (Q:VK),Inv X pins σ H s->RelV x v->r x H Q ->
  N7 (N9 X.prog X.w) X.A (f v) (EP X pins σ Q) X.xe s
noncomputable def CallR (X:Cx) (f:Nq) (r:List V->Hp->VK->Prop):Prop :=
 ∀ (pins:List (NI×Obj)) (s:Nu) (σ:St) (H:Hp) (xs:List V) (us:List Nq) (Q:VK),Inv X pins σ H s->Vals xs us->r xs H Q ->
  N7 (N9 X.prog X.w) X.A (call f us) (EP X pins σ Q) X.xe s
noncomputable def tOp (r:R2) (ta tb:TE):TE:=λ σ H Q=>ta σ H λ x H1=>tb σ H1 λ y H2=>r x y H2 Q
noncomputable def tUn (r:V->Hp->VK->Prop) (ta:TE):TE:=λ σ H Q=>ta σ H λ x H1=>r x H1 Q
noncomputable def rI (C:Int->Int->Prop) (g:Int->Int->V):R2:=λ x y H Q=>∃ i j,x=.int i/\y=.int j/\C i j/\Q (g i j) H
noncomputable def rI0 (g:Int->Int->V):R2:=λ x y H Q=>∃ i j,x=.int i/\y=.int j/\Q (g i j) H
noncomputable def rU (g:Int->V):V->Hp->VK->Prop:=λ x H Q=>∃ i,x=.int i/\Q (g i) H
section
variable {X:Cx} {a b c:Expr} {ta tb tc:TE} {pos:Pos}
theorem KS (ha:PE X a ta) (hb:PE X b tb) {pins:List (NI×Obj)} {s:Nu} {σ:St} {H:Hp} {R:V->V->Hp->Prop} (I:Inv X pins σ H s)
  (h:ta σ H λ x H1=>tb σ H1 λ y H2=>R x y H2) {Q:Nq->Nu->Prop} {f:Nq->Nq->Sem Nq}
  (hf:∀ v u s2 x y H2,Inv X pins σ H2 s2->RelV x v->RelV y u->R x y H2->N7 (N9 X.prog X.w) X.A (f v u) Q X.xe s2) :
  N7 (N9 X.prog X.w) X.A (eval a X.env) (λ v s₁=>N7 (N9 X.prog X.w) X.A (eval b X.env) (λ u s₂=>N7 (N9 X.prog X.w) X.A (f v u) Q X.xe s₂) X.xe s₁) X.xe s:=by
 refine thn (ha pins s σ H _ I h) λ v s1 ⟨x,H1,I1,r1,q1⟩=>?_;refine thn (hb pins s1 σ H1 _ I1 q1) λ u s2 ⟨y,H2,I2,r2,q2⟩=>?_;exact hf v u s2 x y H2 I2 r1 r2 q2
theorem FR {op:Operator} {r:R2} (ho:OpR X (binaryOp op) r) (ha:PE X a ta) (hb:PE X b tb):PE X (.BinOp a op b pos) (tOp r ta tb):=by
 intro pins s σ H Q I h;exact wpAny_BinOp (KS ha hb I h λ v u s2 x y H2 I2 rx ry q=>ho pins s2 σ H2 x y v u Q I2 rx ry q)
theorem LS {op:UnaryOp} {r:V->Hp->VK->Prop} (ho:UnR X (unaryOp op) r) (ha:PE X a ta):PE X (.UnaryOp op a pos) (tUn r ta):=by
 intro pins s σ H Q I h;exact UnaryOp_ (thn (ha pins s σ H _ I h) λ v s1 ⟨x,H1,I1,r1,q1⟩=>ho pins s1 σ H1 x v Q I1 r1 q1)
theorem opI {f:Nq->Nq->Sem Nq} {C:Int->Int->Prop} {g:Int->Int->Int}
  (rule:∀ (i j:Int) (t u:Tok) (s:Nu) (Q:Nq->Nu->Prop) (E:Nq->Nu->Prop),C i j->Q (.int (g i j) s.toks) { s with toks:=s.toks+1 }->N7 (N9 X.prog X.w) X.A (f (.int i t) (.int j u)) Q E s) :
  OpR X f (rI C λ i j=>.int (g i j)):=by
 intro pins s σ H x y v u Q I rx ry h;obtain ⟨i,j,rfl,rfl,hc,q⟩:=h;obtain ⟨t,rfl⟩:=rx;obtain ⟨t',rfl⟩:=ry;exact rule i j t t' s _ _ hc ⟨.int (g i j),H,I.tok _,⟨_,rfl⟩,q⟩
theorem LV {f:Nq->Nq->Sem Nq} {g:Int->Int->Int}
  (rule:∀ (i j:Int) (t u:Tok) (s:Nu) (Q:Nq->Nu->Prop) (E:Nq->Nu->Prop),Q (.int (g i j) s.toks) { s with toks:=s.toks+1 }->N7 (N9 X.prog X.w) X.A (f (.int i t) (.int j u)) Q E s) :
  OpR X f (rI0 λ i j=>.int (g i j)):=by
 intro pins s σ H x y v u Q I rx ry h;obtain ⟨i,j,rfl,rfl,q⟩:=h;obtain ⟨t,rfl⟩:=rx;obtain ⟨t',rfl⟩:=ry;exact rule i j t t' s _ _ ⟨.int (g i j),H,I.tok _,⟨_,rfl⟩,q⟩
theorem LW {f:Nq->Nq->Sem Nq} {g:Int->Int->Bool}
  (rule:∀ (i j:Int) (t u:Tok) (s:Nu) (Q:Nq->Nu->Prop) (E:Nq->Nu->Prop),Q (.bool (g i j)) s->N7 (N9 X.prog X.w) X.A (f (.int i t) (.int j u)) Q E s) :
  OpR X f (rI0 λ i j=>.bl (g i j)):=by
 intro pins s σ H x y v u Q I rx ry h;obtain ⟨i,j,rfl,rfl,q⟩:=h;obtain ⟨t,rfl⟩:=rx;obtain ⟨t',rfl⟩:=ry;exact rule i j t t' s _ _ ⟨.bl (g i j),H,I,rfl,q⟩
noncomputable def CDiv (i j:Int):Prop:=0 < j/\j < 1073741824
noncomputable def CMul (i j:Int):Prop:=(-(2 ^ 64) < i/\i < 2 ^ 64)\/(-(2 ^ 64) < j/\j < 2 ^ 64)
theorem CMul.ok {i j:Int} (h:CMul i j):IntMulOk i j:=by
 rcases h with ⟨h1,h2⟩ | ⟨h1,h2⟩
 ·exact .of_left (intBits_le_64 h1 h2)
 ·exact .of_right (intBits_le_64 h1 h2)
theorem op_add:OpR X (binaryOp .Add) (rI0 λ i j=>.int (i+j)):=LV λ _ _ _ _ _ _ _ q=>add_int q
theorem F9:OpR X (binaryOp .Sub) (rI0 λ i j=>.int (i - j)):=LV λ _ _ _ _ _ _ _ q=>sub_int q
theorem Km:OpR X (binaryOp .Mult) (rI CMul λ i j=>.int (i*j)):=opI λ _ _ _ _ _ _ _ hc q=>mul_int q hc.ok
theorem Ip:OpR X (binaryOp .FloorDiv) (rI CDiv λ i j=>.int (i / j)):=opI λ i j _ _ _ _ _ hc q=>by
 have h1:(0:Int) < j:=hc.1;have h2:j < 1073741824:=hc.2;exact floordiv_int (by omega) (by rw [Int.fdiv_eq_ediv_of_nonneg i (by omega)]; exact q) (.inl (PyProof.noPylong_small (by omega)))
theorem Kn:OpR X (binaryOp .Mod) (rI (λ _ j=>0 < j) λ i j=>.int (i % j)):=opI λ i j _ _ _ _ _ hc q=>by
 have h1:(0:Int) < j:=hc;exact mod_int' (by omega) (by rw [Int.fmod_eq_emod_of_nonneg i (by omega)]; exact q)
theorem unI {f:Nq->Sem Nq} {g:Int->Int}
  (rule:∀ (i:Int) (t:Tok) (s:Nu) (Q:Nq->Nu->Prop) (E:Nq->Nu->Prop),Q (.int (g i) s.toks) { s with toks:=s.toks+1 }->N7 (N9 X.prog X.w) X.A (f (.int i t)) Q E s) :
  UnR X f (rU λ i=>.int (g i)):=by
 intro pins s σ H x v Q I rx h;obtain ⟨i,rfl,q⟩:=h;obtain ⟨t,rfl⟩:=rx;exact rule i t s _ _ ⟨.int (g i),H,I.tok _,⟨_,rfl⟩,q⟩
theorem JT:UnR X (unaryOp .USub) (rU λ i=>.int (-i)):=unI λ _ _ _ _ _ q=>neg_int q
end
section
variable {X:Cx} {a b c:Expr} {ta tb tc:TE} {pos:Pos}
theorem Da {pins:List (NI×Obj)} {σ:St} {H:Hp} {s:Nu} {Q:VK} {k k':Bool} (I:Inv X pins σ H s) (q:Q (.bl k) H) (e:k=k'):EP X pins σ Q (.bool k') s:=by
 subst e;exact ⟨.bl k,H,I,rfl,q⟩
theorem BJ:OpR X (On .Lt) (rI0 λ i j=>.bl (decide (i < j))):=LW λ _ _ _ _ _ _ _ q=>lt_int q
theorem JB:OpR X (On .LtE) (rI0 λ i j=>.bl (decide (i<=j))):=LW λ _ _ _ _ _ _ _ q=>le_int q
theorem EI:OpR X (On .In) (λ x y H Q=>∃ i j,x=.str i/\y=.str j/\Q (.bl (!(Builtin.Str.occurrences j i 0 j.length 1).isEmpty)) H):=by
 intro pins s σ H x y v u Q I rx ry h;obtain ⟨i,j,rfl,rfl,q⟩:=h;obtain ⟨t,rfl⟩:=rx;obtain ⟨t',rfl⟩:=ry;exact in_str (Da I q rfl)
theorem Ko:OpR X (On .Is) (λ x y H Q=>y=.non/\Q (.bl (decide (x=.non))) H):=by
 intro pins s σ H x y v u Q I rx ry h;obtain ⟨rfl,q⟩:=h;cases ry;refine is_none_gen (Da I q ?_);cases x <;> first
  | (cases rx; rfl)
  | (obtain ⟨t,rfl⟩:=rx; rfl)
theorem Io:OpR X (On .IsNot) (λ x y H Q=>y=.non/\Q (.bl (!decide (x=.non))) H):=by
 intro pins s σ H x y v u Q I rx ry h;obtain ⟨rfl,q⟩:=h;cases ry;refine isnot_none_gen (Da I q ?_);cases x <;> first
  | (cases rx; rfl)
  | (obtain ⟨t,rfl⟩:=rx; rfl)
theorem OpR.or {f:Nq->Nq->Sem Nq} {r r':R2} (h:OpR X f r) (h':OpR X f r'):OpR X f (λ x y H Q=>r x y H Q\/r' x y H Q):=by
 intro pins s σ H x y v u Q I rx ry q;rcases q with q | q
 ·exact h pins s σ H x y v u Q I rx ry q
 ·exact h' pins s σ H x y v u Q I rx ry q
theorem nomark (b:Expr) {op:CmpOp} (h:op≠.In:=by decide) (h2:op≠.NotIn:=by decide):Oa op b=false:=by
 have e1:(op==CmpOp.In)=false:=by cases op <;> first | rfl | exact absurd rfl h
 have e2:(op==CmpOp.NotIn)=false:=by cases op <;> first | rfl | exact absurd rfl h2
 cases b <;> simp [Oa,e1,e2]
theorem DO {op:CmpOp} {r:R2} (ho:OpR X (On op) r) (ha:PE X a ta) (hb:PE X b tb) (hm:Oa op b=false):PE X (.Compare a [op] [b] pos) (tOp r ta tb):=by
 intro pins s σ H Q I h;exact wpAny_Compare1 (KS ha hb I h λ v u s2 x y H2 I2 rx ry q=>ho pins s2 σ H2 x y v u Q I2 rx ry q) hm
noncomputable def Lo (t:TE):TT:=λ σ H Q=>t σ H λ x H'=>∃ k,x=.bl k/\Q k H'
theorem DK {op:CmpOp} {r:R2} (ho:OpR X (On op) r) (ha:PE X a ta) (hb:PE X b tb) (hm:Oa op b=false):PT X (.Compare a [op] [b] pos) (Lo (tOp r ta tb)):=by
 intro pins s σ H Q I h;refine wpAny_isTrue_Compare1 (thn (ha pins s σ H _ I h) λ v s1 ⟨x,H1,I1,r1,q1⟩=>thn (hb pins s1 σ H1 _ I1 q1) λ u s2 ⟨y,H2,I2,r2,q2⟩ =>
  thn (ho pins s2 σ H2 x y v u _ I2 r1 r2 q2) λ c s3 ⟨z,H3,I3,r3,k,e,q3⟩=>?_) hm
 subst e;cases r3;exact wpAny_truthy_bool ⟨H3,I3,q3⟩
noncomputable def J3 (r r':R2) (ta tb tc:TE):TE:=λ σ H Q=>ta σ H λ x H1=>tb σ H1 λ y H2=>r x y H2 λ z H3=>∃ k,z=.bl k /\
 (if k=true then tc σ H3 λ w' H4=>r' y w' H4 Q else Q (.bl false) H3)
theorem FX {op op':CmpOp} {r r':R2} (ho:OpR X (On op) r) (ho':OpR X (On op') r') (ha:PE X a ta) (hb:PE X b tb) (hc:PE X c tc)
  (hm:lastMarks [op,op'] [b,c]=false:=by with_unfolding_all rfl):PE X (.Compare a [op,op'] [b,c] pos) (J3 r r' ta tb tc):=by
 intro pins s σ H Q I h;refine Compare_chain (thn (ha pins s σ H _ I h) λ v s1 ⟨x,H1,I1,r1,q1⟩=>chain_link (thn (hb pins s1 σ H1 _ I1 q1) λ u s2 ⟨y,H2,I2,r2,q2⟩ =>
  thn (ho pins s2 σ H2 x y v u _ I2 r1 r2 q2) λ d s3 ⟨z,H3,I3,r3,k,e,q3⟩=>?_)) hm
 subst e;cases r3;refine wpAny_truthy_bool ?_;cases k with
 | false=>exact ite_ff ⟨.bl false,H3,I3,rfl,q3⟩
 | true=>exact ite_tt (chain_last (thn (hc pins s3 σ H3 _ I3 q3) λ w' s4 ⟨z',H4,I4,r4,q4⟩=>ho' pins s4 σ H4 y z' u w' Q I4 r2 r4 q4))
theorem yq:(No:Nat) < 2 ^ 63:=by rw [sizeLine_eq]; decide
theorem op_add_str:OpR X (binaryOp .Add) (λ x y H Q=>∃ i j,x=.str i/\y=.str j/\i.length+j.length<=No/\Q (.str (i++j)) H):=by
 intro pins s σ H x y v u Q I rx ry h;obtain ⟨i,j,rfl,rfl,hz,q⟩:=h;obtain ⟨t,rfl⟩:=rx;obtain ⟨t',rfl⟩:=ry;exact add_str (λ t' tk=>⟨.str (i++j),H,I.tok _,⟨_,rfl⟩,q⟩) hz
theorem qv {x:V} {us:List Nq} (r:Vals [x] us):∃ u,us=[u]/\RelV x u:=by
 cases r with
 | cons r1 r2=>cases r2; exact ⟨_,rfl,r1⟩
theorem Fi {x y:V} {us:List Nq} (r:Vals [x,y] us):∃ u w',us=[u,w']/\RelV x u/\RelV y w':=by
 cases r with
 | cons r1 r2 =>
  cases r2 with
  | cons r3 r4=>cases r4; exact ⟨_,_,rfl,r1,r3⟩
theorem E5 (hc:X.calm=true):CallR X (.builtin "max") (λ xs H Q=>∃ i j,xs=[.int i,.int j]/\Q (.int (if j > i then j else i)) H):=by
 intro pins s σ H xs us Q I r h;obtain ⟨i,j,rfl,q⟩:=h;obtain ⟨u,w',rfl,⟨t,rfl⟩,⟨t',rfl⟩⟩:=Fi r;refine max_two_ints (I.ok.hd hc) λ h' tk k=>⟨_,H,I.kept k,?_,q⟩;by_cases hj:j > i
 ·rw [if_pos hj,if_pos hj]; exact ⟨_,rfl⟩
 ·rw [if_neg hj,if_neg hj]; exact ⟨_,rfl⟩
theorem E4 (hc:X.calm=true):CallR X (.builtin "min") (λ xs H Q=>∃ i j,xs=[.int i,.int j]/\Q (.int (if j < i then j else i)) H):=by
 intro pins s σ H xs us Q I r h;obtain ⟨i,j,rfl,q⟩:=h;obtain ⟨u,w',rfl,⟨t,rfl⟩,⟨t',rfl⟩⟩:=Fi r;refine min_two_ints (I.ok.hd hc) λ h' tk k=>⟨_,H,I.kept k,?_,q⟩;by_cases hj:j < i
 ·rw [if_pos hj,if_pos hj]; exact ⟨_,rfl⟩
 ·rw [if_neg hj,if_neg hj]; exact ⟨_,rfl⟩
theorem E6:CallR X (.type "int") (λ xs H Q=>(∃ i,xs=[.int i]/\Q (.int i) H)\/∃ k,xs=[.bl k]/\Q (.int (if k then 1 else 0)) H):=by
 intro pins s σ H xs us Q I r h;rcases h with ⟨i,rfl,q⟩ | ⟨k,rfl,q⟩
 ·obtain ⟨u,rfl,t,rfl⟩:=qv r;exact call_int_int ⟨.int i,H,I,⟨_,rfl⟩,q⟩
 ·obtain ⟨u,rfl,r1⟩:=qv r;cases r1;exact call_int_bool ⟨.int (if k then 1 else 0),H,I.tok _,⟨_,rfl⟩,q⟩
end
structure ObjM (h:Heap) (x dx C:NI) (mA:Str->Option Nq):Prop where
 obj:h.get? x=some (OG C dx)
 ns:h.Ns1 dx mA
 ne:dx≠x
theorem ES {h:Heap} {dx:NI} {mA:Str->Option Nq} (n:h.Ns1 dx mA):∃ od,h.get? dx=some od/\∀ name,Pn name od=some (mA name):=by
 obtain ⟨o,es,ep,ho,hd,hk,_,hm⟩:=n;refine ⟨o,ho,λ name=>?_⟩;have e:=hm name;unfold nsFind findBy at e;rw [<- Array.find?_toList] at e;unfold Pn;rw [hd];dsimp only
 split
 ·rename_i y q;rw [q] at e;exact congrArg some e
 ·rename_i q;rw [q] at e;have a:es.toList.any (·.refKey)=false:=by
   rw [List.any_eq_false];intro y hy;obtain ⟨z,t,hkey⟩:=hk y (Array.mem_toList_iff.mp hy);simp [DictEntry.refKey,hkey]
  have a':¬ es.toList.any (·.refKey)=true:=by rw [a]; exact NE
  rw [if_neg a'];exact congrArg some e
theorem ObjM.look {h:Heap} {x dx C:NI} {mA:Str->Option Nq} (I:ObjM h x dx C mA):∃ od,PySem.W.InstAt h x (OG C dx) C (some od)/\∀ name,Pn name od=some (mA name) :=
 let ⟨od,ho,hl⟩:=ES I.ns
 ⟨od,⟨I.obj,rfl,rfl,ho⟩,hl⟩
section
variable {prog:NT} {w:World} {A:Oh} {E:Nq->Nu->Prop} {s:Nu} {K:Ni} {x dx C f:NI} {mA:Str->Option Nq} {name:Str} {v:Nq}
theorem IM {expr:Bool} {Q:Nq->Nu->Prop} (X:K.In s.heap) (I:ObjM s.heap x dx C mA) (hg:Pc K C name=true) (hh:PySem.W.hasDictIn K C=true)
  (ha:Op K (.ref C) name=some none) (hv:mA name=some v) (hv':PySem.W.handedIn v=true) (h:Q v { s with toks:=s.toks+1 }) :
  N7 (N9 prog w) A (getAttr (.ref x) name expr) Q E s:=by
 obtain ⟨od,J,hl⟩:=I.look;exact PySem.W.get_value X J (Pq hg).1 (PySem.W.findObj_own hh ha rfl (by rw [hl,hv])) hv' h
theorem GG {pl:Sem Bool} {Q:Nq×List Nq->Nu->Prop} (X:K.In s.heap) (I:ObjM s.heap x dx C mA) (hg:Pc K C name=true)
  (hf:Op K (.ref C) name=some (some (.ref f))) (ht:PySem.W.isFn K (.ref f)=true) (hv:mA name=none) (h:Q (.ref f,[.ref x]) s) :
  N7 (N9 prog w) A (getMethod (.ref x) name pl) Q E s:=by
 obtain ⟨od,J,hl⟩:=I.look;exact PySem.W.method_fn X J (Pq hg).1 (Pq hg).2 hf (beq_iff_eq.mp ht) (by show (Pn name od).map (·.isSome)=some false; rw [hl,hv]; rfl) h
theorem HI {ns:List Str} {Q:Unit->Nu->Prop} (X:K.In s.heap) (I:ObjM s.heap x dx C mA)
  (hs:Op K (.ref C) "__setattr__" = some (some (.builtin "object.__setattr__"))) (hp:PySem.W.plainOver K C=true) (ht:PySem.W.takerIn K C name=some none) (hh:PySem.W.hasDictIn K C=true)
  (hw:PySem.Within mA ns) (hsz:ns.length<=No)
  (h:∀ h',ObjM h' x dx C (λ y=>if y=name then some v else mA y)->Heap.SameBut dx s.heap h'->Q () { s with heap:=h',toks:=s.toks+2 }) :
  N7 (N9 prog w) A (setAttr (.ref x) name v) Q E s:=by
 obtain ⟨od,J,hl⟩:=I.look;refine PySem.W.set_plain X J hs (PySem.W.osa_open (s:={ s with toks:=s.toks+1 }) (r:=none) X J hp ht λ b=>?_);obtain ⟨cd,hc,hd'⟩:=PySem.W.any_some hh;have hx:s.heap.get? x=some ⟨.ref C,some dx,.plain,#[]⟩:=I.obj;refine NH (NR (NH (NH (wpAny_loadPart hx (NH (PySem.W.Looks.here (s:={ s with toks:=s.toks+1 }) (PySem.W.looks_clsIn X hc) ?_))))));rw [hd'];refine NR (a:=some dx) (NH (NR (NH ?_)));refine wpAny_nsSet1 (s:={ s with toks:=s.toks+1 }) I.ns λ h' hn2 hs2=>?_;obtain ⟨oD,esD,epD,hoD,hdD,hcD⟩:=hn2.count (PySem.Within.cons name v hw);refine NH (wpAny_lookBehind hoD (by rw [hdD]; exact pastItsLine_dict (NL hcD (by rw [NN]; omega))) ?_);exact NR (h _ ⟨(hs2.2 _ (Ne.symm I.ne)).trans I.obj,hn2,I.ne⟩ hs2)
theorem Gj {R:Result->Nu->Prop} {vs:List Nq} {kw:List (Str×Nq)} (X:K.In s.heap) (hm:PySem.W.makesIn K C=true)
  (hi:Op K (.ref C) "__init__" = some (some (.ref f))) (hf:PySem.W.typeIn K (.ref f)=some (.type "function"))
  (h:codeAny (N9 prog w) (A.under (.builtin "type.__call__" ⟨.ref C::vs,kw⟩)) (.call (.ref f) ⟨.ref (s.heap.objs.size+1)::vs,kw⟩) (PySem.W.InitBack (s.heap.objs.size+1) R)
   { s with heap:=(s.heap.push Ow).push (OG C s.heap.objs.size) }) :
  codeAny (N9 prog w) A (.call (.ref C) ⟨vs,kw⟩) R s:=by
 obtain ⟨hh,g,d,t,os⟩:=s;exact PySem.W.make_core (PySem.W.makes_of X hm) (PySem.W.looks_findIn X hi) (λ self=>PySem.W.bind_fn X self hf) (.inl rfl) h
end
noncomputable def qb (f:Str) (v:V):List (Str×V)->List (Str×V)
 | []=>[(f,v)]
 | (g,x)::r=>if g=f then (g,v)::r else (g,x)::qb f v r
theorem wz (f g:Str) (v:V):∀ fs:List (Str×V),(qb f v fs).lookup g=if g=f then some v else fs.lookup g
 | []=>by
  show O0 g [(f,v)]=_;by_cases h:g=f
  ·have hb:(g==f)=true:=beq_iff_eq.mpr h;simp only [O0,hb,if_pos h]
  ·have hb:(g==f)=false:=beq_eq_false_iff_ne.mpr h;simp only [O0,hb,if_neg h]
 | (k,x)::r=>by
  have ih:=wz f g v r;rw [show qb f v ((k,x)::r)=(if k=f then (k,v)::r else (k,x)::qb f v r) from rfl];by_cases hk:k=f
  ·rw [if_pos hk];by_cases h:g=k
   ·have hb:(g==k)=true:=beq_iff_eq.mpr h;simp only [O0,hb,if_pos (h.trans hk)]
   ·have hb:(g==k)=false:=beq_eq_false_iff_ne.mpr h;simp only [O0,hb,if_neg (λ e:g=f=>h (e.trans hk.symm))]
  ·rw [if_neg hk];by_cases h:g=k
   ·have hb:(g==k)=true:=beq_iff_eq.mpr h;simp only [O0,hb,if_neg (λ e:g=f=>hk (h.symm.trans e))]
   ·have hb:(g==k)=false:=beq_eq_false_iff_ne.mpr h;simp only [O0,hb];exact ih
theorem we (f:Str) (v:V):∀ fs:List (Str×V),f∈(qb f v fs).map (·.1)/\∀ g,g∈fs.map (·.1)->g∈(qb f v fs).map (·.1)
 | []=>⟨by simp [qb],λ g h=>by simp at h⟩
 | (k,x)::r=>by
  obtain ⟨i1,i2⟩:=we f v r;rw [show qb f v ((k,x)::r)=(if k=f then (k,v)::r else (k,x)::qb f v r) from rfl];by_cases hk:k=f
  ·rw [if_pos hk];subst hk;exact ⟨by simp,λ g h=>by simpa using h⟩
  ·rw [if_neg hk];refine ⟨?_,λ g h=>?_⟩
   ·rw [Ny];exact NA _ i1
   ·rw [Ny] at h ⊢;rcases NO.mp h with e | e
    ·exact NO.mpr (.inl e)
    ·exact NA _ (i2 g e)
theorem wB (f:Str) (v:V):∀ fs:List (Str×V),(qb f v fs).length<=fs.length+1
 | []=>by simp [qb]
 | (k,x)::r=>by
  have ih:=wB f v r;rw [show qb f v ((k,x)::r)=(if k=f then (k,v)::r else (k,x)::qb f v r) from rfl];by_cases hk:k=f
  ·rw [if_pos hk,NN,NN]; omega
  ·rw [if_neg hk,NN,NN]; omega
theorem RelO.some_of {v:V} {o:Option Nq} (r:RelO (some v) o):∃ u,o=some u/\RelV v u:=by
 cases o with
 | none=>exact (show False from r).elim
 | some u=>exact ⟨u,rfl,r⟩
theorem RelO.none_of {o:Option Nq} (r:RelO none o):o=none:=by
 cases o with
 | none=>rfl
 | some u=>exact (show False from r).elim
theorem E1 {v:V} {u:Nq} (r:RelV v u):PySem.W.handedIn u=true:=by
 cases v with
 | non=>cases (show u=Value.none from r); rfl
 | bl b=>cases (show u=Value.bool b from r); rfl
 | int i=>obtain ⟨t,e⟩:=(show ∃ t,u=Value.int i t from r); cases e; rfl
 | str x=>obtain ⟨t,e⟩:=(show ∃ t,u=Value.str x t from r); cases e; rfl
 | byt b=>obtain ⟨t,e⟩:=(show ∃ t,u=Value.bytes b t from r); cases e; rfl
 | flt b=>obtain ⟨t,e⟩:=(show ∃ t,u=Value.float b t from r); cases e; rfl
 | ref a=>cases (show u=Value.ref a from r); rfl
 | ty n=>cases (show u=Value.type n from r); rfl
section
variable {P:NT} {w:World} {H H':Hp} {h h':Heap} {a C dx:NI} {fs fs':List (Str×V)}
theorem AU (hok:HOk P w H h) (e:H a=some (.ins C dx fs)):∃ mA,ObjM h a dx C mA/\(∀ f,RelO (fs.lookup f) (mA f))/\PySem.Within mA (fs.map (·.1))/\fs.length<=1000/\H dx=some (.own a):=by
 obtain ⟨d,z,ne,ob,mA,n,r,q⟩:=(show ObjOk P w H h a (.ins C dx fs) from hok a _ e);exact ⟨mA,⟨ob,n,ne⟩,r,q,z,d⟩
end
structure Cls (K:Ni) (C:NI):Prop where
 pg:Pc K C Str.empty=true
 hd:PySem.W.hasDictIn K C=true
 po:PySem.W.plainOver K C=true
 sa:Op K (.ref C) "__setattr__" = some (some (.builtin "object.__setattr__"))
theorem Cls.get {K:Ni} {C:NI} (c:Cls K C) (f:Str):Pc K C f=true:=c.pg
noncomputable def NoAttr (K:Ni) (C:NI) (f:Str):Prop:=Op K (.ref C) f=some none
theorem NoAttr.taker {K:Ni} {C:NI} {f:Str} (n:NoAttr K C f):PySem.W.takerIn K C f=some none:=by
 unfold PySem.W.takerIn;rw [show Op K (.ref C) f=some none from n];rfl
structure Con (K:Ni) (C:NI) (f:Str) (v:V) (u:Nq):Prop where
 at_:Op K (.ref C) f=some (some u)
 rel:RelV v u
 get:PySem.W.specialIn K u "__get__" = some none
 cp:PySem.W.copiedNames.contains f=false
structure Meth (K:Ni) (C:NI) (m:Str) (f:NI):Prop where
 at_:Op K (.ref C) m=some (some (.ref f))
 fn:PySem.W.isFn K (.ref f)=true
 kp:OI K (.ref f)=true
section
variable {X:Cx} {pins:List (NI×Obj)} {σ:St} {H:Hp} {s:Nu} {a C dx:NI} {fs:List (Str×V)} {f:Str} {v:V} {A:Oh} {E:Nq->Nu->Prop}
theorem yz {b:Bool} {Q:Nq->Nu->Prop} (I:Inv X pins σ H s) (e:H a=some (.ins C dx fs)) (c:Cls X.K C) (n:NoAttr X.K C f) (l:fs.lookup f=some v)
  (h:∀ u s',Inv X pins σ H s'->RelV v u->Q u s'):N7 (N9 X.prog X.w) A (getAttr (.ref a) f b) Q E s:=by
 obtain ⟨mA,O,r,_,_,_⟩:=AU I.hok e;obtain ⟨u,hu,ru⟩:=RelO.some_of (v:=v) (o:=mA f) (by rw [<- l]; exact r f);exact IM I.kIn O (c.get f) c.hd n hu (E1 ru) (h u _ (I.tok _) ru)
theorem yy {m:Str} {g:NI} {pl:Sem Bool} {Q:Nq×List Nq->Nu->Prop} (I:Inv X pins σ H s) (e:H a=some (.ins C dx fs)) (c:Cls X.K C) (k:Meth X.K C m g) (l:fs.lookup m=none)
  (h:Q (.ref g,[.ref a]) s):N7 (N9 X.prog X.w) A (getMethod (.ref a) m pl) Q E s:=by
 obtain ⟨mA,O,r,_,_,_⟩:=AU I.hok e;have hn:mA m=none:=RelO.none_of (by rw [<- l]; exact r m);exact GG I.kIn O (c.get m) k.at_ k.fn hn h
theorem xK {y:V} {u:Nq} {Q:Unit->Nu->Prop} (I:Inv X pins σ H s) (e:H a=some (.ins C dx fs)) (c:Cls X.K C) (n:NoAttr X.K C f) (hl:fs.length < 1000) (ry:RelV y u)
  (h:∀ s',Inv X pins σ (upd H a (.ins C dx (qb f y fs))) s'->Q () s'):N7 (N9 X.prog X.w) A (setAttr (.ref a) f u) Q E s:=by
 obtain ⟨mA,O,r,wi,_,ho⟩:=AU I.hok e;have hz:(fs.map (·.1)).length<=No:=by rw [Nl,sizeLine_eq]; omega
 refine HI I.kIn O c.sa c.po n.taker c.hd wi hz λ h' O' sb=>h _ ?_;have hd:∃ o,h'.get? dx=some o:=let ⟨o,_,_,e',_⟩:=O'.ns; ⟨o,e'⟩;refine I.write (x:=a) (e:=dx) (by rw [e]; exact True.intro) (.inr ho) (λ b q hb z=>(sb.2 b hb).trans z) hd ?_;refine ⟨by rw [aq O.ne]; exact ho,?_,O.ne,O'.obj,_,O'.ns,λ g=>?_,λ g hg=>?_⟩
 ·have:=wB f y fs; omega
 ·show RelO ((qb f y fs).lookup g) (if g=f then some u else mA g);rw [wz];by_cases q:g=f
  ·rw [if_pos q,if_pos q]; exact ry
  ·rw [if_neg q,if_neg q]; exact r g
 ·by_cases q:g=f
  ·rw [q]; exact (we f y fs).1
  ·refine (we f y fs).2 g (wi g λ z=>hg ?_);show (if g=f then some u else mA g)=none;rw [if_neg q]; exact z
theorem Inv.made (I:Inv X pins σ H s):Inv X pins σ (upd (upd H s.heap.objs.size (.own (s.heap.objs.size+1))) (s.heap.objs.size+1) (.ins C s.heap.objs.size []))
  { s with heap:=(s.heap.push Ow).push (OG C s.heap.objs.size) }:=by
 have e1:(s.heap.push Ow).get? s.heap.objs.size=some Ow:=NX s.heap rfl;have e2:((s.heap.push Ow).push (OG C s.heap.objs.size)).get? (s.heap.objs.size+1)=some (OG C s.heap.objs.size):=by
  have:=NX (s.heap.push Ow) (o:=OG C s.heap.objs.size) rfl
  rwa [Heap.size_push] at this
 have e3:(s.heap.push Ow).Ns s.heap.objs.size (λ _=>none):=⟨Ow,#[],_,e1,rfl,(λ e he=>absurd he (by simp)),λ _=>rfl⟩;have I1:=I.laid (a:=s.heap.objs.size) (o:=.own (s.heap.objs.size+1)) (h':=s.heap.push Ow) (t':=s.toks) (λ b u q=>Nv _ q) (Np _) ⟨_,e1⟩;refine I1.laid (a:=s.heap.objs.size+1) (o:=.ins C s.heap.objs.size []) (t':=s.toks) (λ b u q=>Nv _ q) (Nat.le_of_eq (Heap.size_push _ _)) ?_;have ne:s.heap.objs.size≠s.heap.objs.size+1:=NZ (O7 _);refine ⟨by rw [aq ne,au],O5 _,ne,e2,λ _=>none,(Heap.Ns1.of_empty e3).at λ o q=>Nv _ q,λ _=>True.intro,λ y hy=>absurd rfl hy⟩
theorem Ja {prog:NT} {w:World} {env:Env} {e:Expr} {f:Str} {pos:Pos} {s:Nu} {Q:Nq->Nu->Prop} (hb:attributeBase e f env (eval e env)=eval e env)
  (h:N7 (N9 prog w) A (eval e env) (λ o s₁=>N7 (N9 prog w) A (getAttr o f true) Q E s₁) E s):N7 (N9 prog w) A (eval (.Attribute e f pos) env) Q E s :=
 Attribute_any_ h (by rw [arm_eval_Attribute,hb])
end
noncomputable def MQ (K:Ni) (ta:TE) (f:Str):TE:=λ σ H Q=>ta σ H λ x H1=>∃ a C dx fs v,x=.ref a/\H1 a=some (.ins C dx fs)/\Cls K C/\NoAttr K C f/\fs.lookup f=some v/\Q v H1
noncomputable def MY (K:Ni) (ta tv:TE) (f:Str):TS:=λ D σ H=>tv σ H λ y H1=>ta σ H1 λ x H2=>∃ a C dx fs,x=.ref a/\H2 a=some (.ins C dx fs)/\Cls K C/\NoAttr K C f/\fs.length < 1000 /\
 D.nx σ (upd H2 a (.ins C dx (qb f y fs)))
noncomputable def MC (X:Cx) (op:Operator) (rd:V->V->Hp->VK->Prop):Prop :=
 ∀ (pins:List (NI×Obj)) (s:Nu) (σ:St) (H:Hp) (x y:V) (u v:Nq) (Q:VK),Inv X pins σ H s->RelV x u->RelV y v->rd x y H Q->N7 (N9 X.prog X.w) X.A (inplaceOp op u v) (EP X pins σ Q) X.xe s
noncomputable def HN (K:Ni) (ta tv:TE) (rd:V->V->Hp->VK->Prop) (f:Str):TS:=λ D σ H=>ta σ H λ x H1=>∃ a C dx fs v,x=.ref a/\H1 a=some (.ins C dx fs)/\Cls K C/\NoAttr K C f/\fs.lookup f=some v /\
 tv σ H1 λ y H2=>rd v y H2 λ z H3=>∃ dx' fs',H3 a=some (.ins C dx' fs')/\fs'.length < 1000/\D.nx σ (upd H3 a (.ins C dx' (qb f z fs')))
section
variable {X:Cx} {o e value:Expr} {f:Str} {pos pos' tpos:Pos} {ta tv:TE}
theorem CS (he:PE X e ta) (hb:attributeBase e f X.env (eval e X.env)=eval e X.env):PE X (.Attribute e f pos) (MQ X.K ta f):=by
 intro pins s σ H Q I h;refine Ja hb (thn (he pins s σ H _ I h) λ u s1 ⟨x,H1,I1,rx,a,C,dx,fs,v,ex,ea,c,n,l,q⟩=>?_);subst ex;obtain rfl:u=Value.ref a:=rx;exact yz I1 ea c n l λ u' s2 I2 ru=>⟨v,H1,I2,ru,q⟩
theorem Ka (ha:PE X o ta) (hv:PE X value tv) (hs:swapsWith value (some (.Attribute o f pos')) pos.line X.env=pure false):PS X (.Assign [.Attribute o f pos'] value pos) (MY X.K ta tv f):=by
 intro pins s σ H D I h;refine plainObj_wpAny_Assign_Attribute (thn (hv pins s σ H _ I h) λ u s1 ⟨y,H1,I1,ry,q⟩=>thn (ha pins s1 σ H1 _ I1 q) λ ov s2 ⟨x,H2,I2,rx,a,C,dx,fs,ex,ea,c,n,l,q2⟩=>?_) hs;subst ex;obtain rfl:ov=Value.ref a:=rx;exact xK I2 ea c n l ry λ s3 I3=>⟨σ,_,I3,q2⟩
theorem ED {op:Operator} {rd:V->V->Hp->VK->Prop} (ha:PE X o ta) (hv:PE X value tv) (hop:MC X op rd):PS X (.AugAssign (.Attribute o f tpos) op value pos) (HN X.K ta tv rd f):=by
 intro pins s σ H D I h;refine wpAny_AugAssign_AttributeAny (thn (ha pins s σ H _ I h) λ ov s1 ⟨x,H1,I1,rx,a,C,dx,fs,v,ex,ea,c,n,l,q⟩=>?_);subst ex;obtain rfl:ov=Value.ref a:=rx;refine yz I1 ea c n l λ u s2 I2 ru=>thn (hv pins s2 σ H1 _ I2 q) λ w3 s3 ⟨y,H2,I3,ry,q3⟩=>thn (hop pins s3 σ H2 v y u w3 _ I3 ru ry q3) λ w4 s4 ⟨z,H3,I4,rz,dx',fs',ea',l',q4⟩=>?_;exact xK I4 ea' c n l' rz λ s5 I5=>⟨σ,_,I5,q4⟩
noncomputable def M0:V->V->Hp->VK->Prop:=λ x y H Q=>∃ i j,x=.int i/\y=.int j/\Q (.int (i+j)) H
theorem KJ:MC X .Add M0:=by
 rintro pins s σ H x y u v Q I rx ry ⟨i,j,rfl,rfl,q⟩
 obtain ⟨t,rfl⟩:=(show ∃ t,u=Value.int i t from rx);obtain ⟨t',rfl⟩:=(show ∃ t',v=Value.int j t' from ry);exact PyProof.Rows.iadd_int ⟨.int (i+j),H,I.tok _,⟨_,rfl⟩,q⟩
end
section
variable {X:Cx} {pins:List (NI×Obj)} {σ:St} {H:Hp} {s:Nu} {A:Oh} {E:Nq->Nu->Prop} {Q:Nq->Nu->Prop} {c:Nq} {b:Bool}
inductive yT (K:Ni) (H:Hp):V->Nq->Prop where
 | non:yT K H .non (.type "NoneType")
 | bl (x:Bool):yT K H (.bl x) (.type "bool")
 | int (i:Int):yT K H (.int i) (.type "int")
 | str (x:Str):yT K H (.str x) (.type "str")
 | flt (x:UInt64):yT K H (.flt x) (.type "float")
 | lst {a:NI} {xs:List V} (e:H a=some (.lst xs)):yT K H (.ref a) (.type "list")
 | frz {a:NI} {o:Obj} {xs:List V} (e:H a=some (.frz o (.lst xs))):yT K H (.ref a) (.type "list")
 | tup {a:NI} {xs:List V} (e:H a=some (.tup xs)):yT K H (.ref a) (.type "tuple")
 | dK {a:NI} {kvs:List (Key×V)} (e:H a=some (.dK kvs)):yT K H (.ref a) (.type "dict")
 | dT {a:NI} {kvs:List (List Key×V)} (e:H a=some (.dT kvs)):yT K H (.ref a) (.type "dict")
 | ins {a C dx:NI} {fs:List (Str×V)} (e:H a=some (.ins C dx fs)) (cl:Cls K C) (ha:Op K (.ref C) "__class__" = some (some (.builtin "object.__class__")))
   (hn:PySem.W.specialIn K (.builtin "object.__class__") "__get__" = some (some (.builtin "getset_descriptor.__get__"))) (htk:PySem.W.takesIn K (.builtin "object.__class__")=some true)
   (hm:PySem.W.mroIn K C (.type "object")=some true):yT K H (.ref a) (.ref C)
end
structure Room (k:Nat) (A:Oh):Prop where
 hd:A.handled=none
 dp:A.depth+3*k+5 < recursionLimit
 un:A.units+16*k+200 < cLine
theorem Room.mono {j k:Nat} {A:Oh} (r:Room k A) (h:j<=k):Room j A:=⟨r.hd,by have:=r.dp; omega,by have:=r.un; omega⟩
theorem Room.deeper {k:Nat} {A:Oh} (r:Room (k+1) A) (env:Env):Room k (A.deeper env) :=
 ⟨r.hd,by have:=r.dp; show A.depth+1+3*k+5 < _; omega,by have:=r.un; show A.units+3+16*k+200 < _; omega⟩
theorem C2 {A:Oh} {C:NI} {us:List Nq} {kw:List (Str×Nq)}:(A.under (.builtin "type.__call__" ⟨.ref C::us,kw⟩)).depth=A.depth+1:=by
 first | rfl | simp [Around.under,Code.weight,Code.isCreation,Code.isGuard,Code.isCaller,Code.frames,Code.isFrame,guardIds]
theorem C1 {A:Oh} {C:NI} {us:List Nq} {kw:List (Str×Nq)}:(A.under (.builtin "type.__call__" ⟨.ref C::us,kw⟩)).units=A.units+1:=by
 first | rfl | simp [Around.under,Code.cUnits,Code.frames,Code.isFrame]
theorem Room.make {k:Nat} {A:Oh} (r:Room (k+1) A) (C:NI) (us:List Nq) (kw:List (Str×Nq)):Room k (A.under (.builtin "type.__call__" ⟨.ref C::us,kw⟩)) :=
 ⟨r.hd,by have:=r.dp; rw [C2]; omega,by have:=r.un; rw [C1]; omega⟩
theorem Room.depth {k:Nat} {A:Oh} (r:Room k A):A.depth < recursionLimit:=by have:=r.dp; omega
theorem Room.units {k:Nat} {A:Oh} (r:Room k A):A.units+64 < cLine:=by have:=r.un; omega
noncomputable def JZ:TA:=λ _ H Q=>Q [] H
noncomputable def Ly (ta:TE) (tr:TA):TA:=λ σ H Q=>ta σ H λ x H1=>tr σ H1 λ xs H2=>Q (x::xs) H2
section
variable {X:Cx} {e:Expr} {es:List Expr} {te:TE} {t:TA} {pos:Pos}
theorem CV:PA X [] JZ:=λ _ _ _ _ H Q I h=>Calls.spliced_nil ⟨[],H,I,.nil,h⟩
theorem DT (ha:PE X e te) (hr:PA X es t) (hs:Nw (e::es) X.env=(false,eval e X.env)::Nw es X.env:=by rfl):PA X (e::es) (Ly te t):=by
 intro pos pins s σ H Q I h;rw [hs];show N7 _ _ (spliced ((false,eval e X.env)::backTo pos (Nw es X.env))) _ _ s;refine Calls.spliced_cons (thn (ha pins s σ H _ I h) λ u s1 ⟨x,H1,I1,r1,q1⟩=>?_);exact thn (hr pos pins s1 σ H1 _ I1 q1) λ us s2 ⟨xs,H2,I2,r2,q2⟩=>⟨x::xs,H2,I2,.cons r1 r2,q2⟩
noncomputable def MJ (t:TA):TE:=λ σ H Q=>t σ H λ xs H1=>xs.length<=No/\∀ p,H1 p=none->Q (.ref p) (upd H1 p (.tup xs))
noncomputable def MN (t:TA):TE:=λ σ H Q=>t σ H λ xs H1=>xs.length<=No/\∀ p,H1 p=none->Q (.ref p) (upd H1 p (.lst xs))
theorem FQ {x1} (h:PA X es t):PE X (.Tuple es x1 pos) (MJ t):=by
 intro pins s σ H Q I hq;refine wpAny_Tuple_spliced (thn (h pos pins s σ H _ I hq) λ us s1 ⟨xs,H1,I1,r,z,q⟩=>⟨by rw [<- r.length]; exact z,?_⟩);have hf:H1 s1.heap.objs.size=none:=I1.hok.fresh (Np _);refine ⟨.ref s1.heap.objs.size,upd H1 s1.heap.objs.size (.tup xs),I1.laid (t':=s1.toks) (λ b u e=>Nv _ e) (Np _) ?_,rfl,q _ hf⟩;exact ⟨z,us,r,⟨_,NX _ rfl,rfl,_,rfl⟩⟩
theorem FV (h:PA X es t):PE X (.List es pos) (MN t):=by
 intro pins s σ H Q I hq;refine wpAny_List_spliced (thn (h pos pins s σ H _ I hq) λ us s1 ⟨xs,H1,I1,r,z,q⟩=>⟨by rw [<- r.length]; exact z,?_⟩);have hf:H1 s1.heap.objs.size=none:=I1.hok.fresh (Np _);refine ⟨.ref s1.heap.objs.size,upd H1 s1.heap.objs.size (.lst xs),I1.laid (t':=s1.toks) (λ b u e=>Nv _ e) (Np _) ?_,rfl,q _ hf⟩;exact ⟨z,us,0,r,NX _ rfl⟩
end
noncomputable abbrev Sp:=List V->Hp->VK->XK->Prop
noncomputable abbrev CXT:=List Env->Hp->Nu->XK->Nq->Nu->Prop
structure Env0 (P:NT) (w:World) (K:Ni) (mg:Str->Option Nq) (base:Heap) (A:Oh) (outer:List Env) (s:Nu) (H:Hp):Prop where
 frames:A.frames=some outer
 mod:Mod K mg base
 bs:∀ b o,base.get? b=some o->s.heap.get? b=some o/\H b=none
 bsz:base.objs.size<=s.heap.objs.size
 funs:s.heap.FunFrames base outer
 frf:∀ b∈frs outer,H b=none
 hok:HOk P w H s.heap
 bare:AllBare s.gens
noncomputable def CE (outer:List Env) (P:NT) (w:World) (H:Hp) (s:Nu) (Q:VK) (u:Nq) (s':Nu):Prop :=
 ∃ v H',s'.os=s.os/\AllBare s'.gens/\Un (frs outer) [] H H' s.heap s'.heap/\HOk P w H' s'.heap/\RelV v u/\Q v H'
noncomputable def CR (CX:CXT) (outer:List Env) (P:NT) (w:World) (H:Hp) (s:Nu) (Q:VK) (E:XK) (r:Result) (s':Nu):Prop :=
 match r with
 | .ok (.ret u)=>CE outer P w H s Q u s'
 | .ok _=>False
 | .error e=>CX outer H s E e s'
structure FnOk (P:NT) (w:World) (K:Ni) (mg:Str->Option Nq) (base:Heap) (CX:CXT) (k:Nat) (f:NI) (fd:Oo) (ps:List Str) (sp:Sp):Prop where
 len:∀ vs H Q E,sp vs H Q E->vs.length=ps.length
 run:∀ (A:Oh) (outer:List Env) (s:Nu) (H:Hp) (args:Args) (us:List Nq) (vs:List V) (Q:VK) (E:XK),Room k A->Env0 P w K mg base A outer s H->BindsTo s fd args (ps.zip us)->Vals vs us->sp vs H Q E ->
  codeAny (N9 P w) A (.call (.ref f) args) (CR CX outer P w H s Q E) s
theorem FnOk.mono {P:NT} {w:World} {K:Ni} {mg:Str->Option Nq} {base:Heap} {CX:CXT} {j k:Nat} {f:NI} {fd:Oo} {ps:List Str} {sp:Sp} (F:FnOk P w K mg base CX j f fd ps sp) (h:j<=k) :
  FnOk P w K mg base CX k f fd ps sp:=⟨F.len,λ A outer s H args us vs Q E hr=>F.run A outer s H args us vs Q E (hr.mono h)⟩
theorem FnOk.imp {P:NT} {w:World} {K:Ni} {mg:Str->Option Nq} {base:Heap} {CX:CXT} {k:Nat} {f:NI} {fd:Oo} {ps:List Str} {sp sp':Sp} (F:FnOk P w K mg base CX k f fd ps sp)
  (h:∀ vs H Q E,sp' vs H Q E->sp vs H Q E):FnOk P w K mg base CX k f fd ps sp' :=
 ⟨λ vs H Q E q=>F.len vs H Q E (h _ _ _ _ q),λ A outer s H args us vs Q E hr he hb hv hs=>F.run A outer s H args us vs Q E hr he hb hv (h _ _ _ _ hs)⟩
theorem Env0.make {P:NT} {w:World} {K:Ni} {mg:Str->Option Nq} {base:Heap} {A:Oh} {outer:List Env} {s:Nu} {H:Hp} (e:Env0 P w K mg base A outer s H) (C:NI) (us:List Nq) (kw:List (Str×Nq)) :
  Env0 P w K mg base (A.under (.builtin "type.__call__" ⟨.ref C::us,kw⟩)) outer s H:=⟨by first | exact e.frames | (simpa [Around.under,Code.envs,Code.isFrame,pushEnvs] using e.frames),e.mod,e.bs,e.bsz,e.funs,e.frf,e.hok,e.bare⟩
section
variable {X:Cx} {pins:List (NI×Obj)} {σ:St} {H:Hp} {s s':Nu}
theorem Inv.env0 (I:Inv X pins σ H s):Env0 X.prog X.w X.K X.mg X.base X.A X.stack s H :=
 ⟨I.ok.frames,I.ok.mod,I.bs,NL I.ok.bsz I.sz,I.stack,I.stkFree,I.hok,I.bare⟩
theorem Inv.after {Q:VK} {u:Nq} (I:Inv X pins σ H s) (h:CE X.stack X.prog X.w H s Q u s'):EP X pins σ Q u s':=by
 obtain ⟨v,H',os,bare,un,hok,r,q⟩:=h;obtain ⟨hh,g,d,t,os'⟩:=s';obtain rfl:os'=s.os:=os;exact ⟨v,H',I.call (h':=hh) (g':=g) (d':=d) (t':=t) (ch:=[]) un hok bare (λ b z=>absurd z (by simp)),r,q⟩
end
noncomputable def Lz (sp:Sp) (dvs:List V) (E:XK) (t:TA):TE:=λ σ H Q=>t σ H λ vs H1=>sp (vs++dvs) H1 Q E
noncomputable def Ft (C:NI) (m:Str) (sp:Sp) (dvs:List V) (E:XK) (ta:TE) (t:TA):TE:=λ σ H Q=>ta σ H λ x H1=>∃ a dx fs,x=.ref a/\H1 a=some (.ins C dx fs)/\fs.lookup m=none /\
 t σ H1 λ vs H2=>sp (x::(vs++dvs)) H2 Q E
noncomputable def Jt (C:NI) (sp:Sp) (dvs:List V) (E:XK) (t:TA):TE:=λ σ H Q=>t σ H λ vs H1=>∀ x dx,H1 x=none->H1 dx=none->dx≠x ->
 sp (.ref x::(vs++dvs)) (upd (upd H1 dx (.own x)) x (.ins C dx [])) (λ v H2=>v=.non/\Q (.ref x) H2) E
noncomputable def Binds (K:Ni) (fd:Oo) (ps:List Str) (ds:List Nq):Prop :=
 ∀ (s:Nu) (us:List Nq),K.In s.heap->(us++ds).length=ps.length->BindsTo s fd ⟨us,[]⟩ (ps.zip (us++ds))
theorem Binds.all {K:Ni} {fd:Oo} {ps:List Str} (h:∀ us:List Nq,us.length=ps.length->bindArgs fd ⟨us,[]⟩=pure (ps.zip us)):Binds K fd ps []:=λ s us _ hl=>by
 rw [Oi] at hl ⊢;exact .of_eq (h us hl)
noncomputable def Passes (CX:CXT) (X:Cx) (E:XK):Prop:=∀ (pins:List (NI×Obj)) (σ:St) (H:Hp) (s:Nu) (e:Nq) (s':Nu),Inv X pins σ H s->CX X.stack H s E e s'->X.xe e s'
section
variable {X:Cx} {CX:CXT} {k:Nat} {f C:NI} {fd:Oo} {ps:List Str} {sp:Sp} {dvs:List V} {ds:List Nq} {E:XK} {x m:Str} {p pos apos:Pos} {e o:Expr} {es:List Expr} {ta:TE} {t:TA}
theorem CJ {pins:List (NI×Obj)} {σ:St} {H:Hp} {s:Nu} {Q:VK} {us:List Nq} {vs:List V} (F:FnOk X.prog X.w X.K X.mg X.base CX k f fd ps sp) (hr:Room k X.A) (hb:Binds X.K fd ps ds) (hd:Vals dvs ds) (hx:Passes CX X E)
  (I:Inv X pins σ H s) (r:Vals vs us) (h:sp (vs++dvs) H Q E):N7 (N9 X.prog X.w) X.A (call (.ref f) us) (EP X pins σ Q) X.xe s:=by
 have r2:Vals (vs++dvs) (us++ds):=r.append hd;have hl:(us++ds).length=ps.length:=by rw [<- r2.length]; exact F.len _ _ _ _ h
 refine wpAny_call (codeAny_mono (F.run X.A X.stack s H ⟨us,[]⟩ (us++ds) (vs++dvs) Q E hr I.env0 (hb s us I.kIn hl) r2 h) λ r s' hq=>?_);cases r with
 | error e=>exact hx pins σ H s e s' I hq
 | ok fl =>
  cases fl with
  | ret u=>exact I.after hq
  | next=>exact False.elim hq
  | brk=>exact False.elim hq
  | cont=>exact False.elim hq
theorem Ap (F:FnOk X.prog X.w X.K X.mg X.base CX k f fd ps sp) (hr:Room k X.A) (hg:Gl X x) (hm:X.mg x=some (.ref f)) (hk:OI X.K (.ref f)=true) (hb:Binds X.K fd ps ds) (hd:Vals dvs ds) (hx:Passes CX X E)
  (ha:PA X (e::es) t) (hdb:(x==("__debug__" : Str))=false:=by decide) (he:Nw (e::es) X.env=(false,eval e X.env)::Nw es X.env:=by rfl) (hpl:(backTo pos (Nw es X.env)).any (·.1)=false:=by rfl) :
  PE X (.Call (.Name x p) (e::es) [] pos) (Lz sp dvs E t):=by
 intro pins s σ H Q I h;refine wpAny_Call_Name_kw (xy I hg hm ?_ hdb);refine Pv (h₀:=X.base) I.ok.mod.kin hk (thn (ha pos pins s σ H _ I h) λ us s1 ⟨vs,H1,I1,r,q⟩=>⟨I1.kIn,?_⟩) he hpl;exact CJ F hr hb hd hx I1 r q
theorem Ib {pl:Sem Bool} (he:PE X o ta) (c:Cls X.K C) (hm:Meth X.K C m f) (F:FnOk X.prog X.w X.K X.mg X.base CX k f fd ps sp) (hr:Room k X.A) (hb:Binds X.K fd ps ds) (hd:Vals dvs ds) (hx:Passes CX X E) (ha:PA X (e::es) t)
  (hst:Nw (e::es) X.env=(false,eval e X.env)::Nw es X.env:=by rfl) (hpl:(backTo pos (Nw es X.env)).any (·.1)=false:=by rfl)
  (ht:eval (.Call (.Attribute o m apos) (e::es) [] pos) X.env=(do
   let ov <- eval o X.env
   standAt apos.atName
   let (f,first) <- holding [ov] (getMethod ov m pl)
   callWith pos f first (backTo pos (Nw (e::es) X.env)) (backToKw pos (keywordEach [] X.env))):=by rfl) :
  PE X (.Call (.Attribute o m apos) (e::es) [] pos) (Ft C m sp dvs E ta t):=by
 intro pins s σ H Q I h;refine PySem.W.methodCall_KW (pl:=pl) (thn (he pins s σ H _ I h) λ u s1 ⟨x,H1,I1,rx,a,dx,fs,ex,ea,l,q⟩=>?_) ht;subst ex;obtain rfl:u=Value.ref a:=rx;refine yy I1 ea c hm l ?_;refine Pv (first:=[.ref a]) (h₀:=X.base) I.ok.mod.kin hm.kp (thn (ha pos pins s1 σ H1 _ I1 q) λ us s2 ⟨vs,H2,I2,r,q2⟩=>⟨I2.kIn,?_⟩) hst hpl;exact CJ (us:=.ref a::us) (vs:=.ref a::vs) F hr hb hd hx I2 (.cons rfl r) q2
theorem FT {pl:Sem Bool} (he:PE X o ta) (c:Cls X.K C) (hm:Meth X.K C m f) (F:FnOk X.prog X.w X.K X.mg X.base CX k f fd ps sp) (hr:Room k X.A) (hb:Binds X.K fd ps ds) (hd:Vals dvs ds) (hx:Passes CX X E)
  (ht:eval (.Call (.Attribute o m apos) [] [] pos) X.env=(do
   let ov <- eval o X.env
   standAt apos.atName
   let (f,first) <- holding [ov] (getMethod ov m pl)
   callWith pos f first (backTo pos (Nw [] X.env)) (backToKw pos (keywordEach [] X.env))):=by rfl) :
  PE X (.Call (.Attribute o m apos) [] [] pos) (Ft C m sp dvs E ta JZ):=by
 intro pins s σ H Q I h;refine PySem.W.methodCall_KW (pl:=pl) (thn (he pins s σ H _ I h) λ u s1 ⟨x,H1,I1,rx,a,dx,fs,ex,ea,l,q⟩=>?_) ht;subst ex;obtain rfl:u=Value.ref a:=rx;refine yy I1 ea c hm l ?_;exact PySem.W.callWith_K0 (first:=[.ref a]) I1.kIn hm.kp (CJ (us:=[.ref a]) (vs:=[.ref a]) F hr hb hd hx I1 (.cons rfl .nil) q)
structure Mk (K:Ni) (C f:NI):Prop where
 makes:PySem.W.makesIn K C=true
 init:Op K (.ref C) "__init__" = some (some (.ref f))
 fn:PySem.W.isFn K (.ref f)=true
 kp:OI K (.ref C)=true
theorem Bz {pins:List (NI×Obj)} {σ:St} {H:Hp} {s:Nu} {Q:VK} {us:List Nq} {vs:List V} (M:Mk X.K C f) (F:FnOk X.prog X.w X.K X.mg X.base CX k f fd ps sp) (hr:Room (k+1) X.A) (hb:Binds X.K fd ps ds) (hd:Vals dvs ds)
  (hx:Passes CX X E) (I:Inv X pins σ H s) (r:Vals vs us)
  (h:∀ x dx,H x=none->H dx=none->dx≠x->sp (.ref x::(vs++dvs)) (upd (upd H dx (.own x)) x (.ins C dx [])) (λ v H2=>v=.non/\Q (.ref x) H2) E) :
  N7 (N9 X.prog X.w) X.A (call (.ref C) us) (EP X pins σ Q) X.xe s:=by
 have hq:=h (s.heap.objs.size+1) s.heap.objs.size (I.hok.fresh (Nat.le_succ _)) (I.hok.fresh (Np _)) (NZ (O7 _));have I2:=Inv.made (C:=C) I;have r2:Vals (V.ref (s.heap.objs.size+1)::(vs++dvs)) (Value.ref (s.heap.objs.size+1)::(us++ds)):=.cons rfl (r.append hd);have hl:(Value.ref (s.heap.objs.size+1)::us++ds).length=ps.length:=by
  have e:=r2.length;rw [F.len _ _ _ _ hq] at e;exact e.symm
 refine wpAny_call (Gj (f:=f) I.kIn M.makes M.init (beq_iff_eq.mp M.fn) (codeAny_mono (F.run _ X.stack _ _ ⟨Value.ref (s.heap.objs.size+1)::us,[]⟩ (Value.ref (s.heap.objs.size+1)::(us++ds)) _ _ E (hr.make C us [])
  (I2.env0.make C us []) (hb _ (Value.ref (s.heap.objs.size+1)::us) I2.kIn hl) r2 hq) λ r s' hq'=>?_))
 cases r with
 | error e=>exact hx pins σ _ _ e s' I2 hq'
 | ok fl =>
  cases fl with
  | ret u =>
   obtain ⟨v,H',I3,rv,ev,q3⟩:=I2.after hq';subst ev;exact ⟨rv,⟨V.ref (s.heap.objs.size+1),H',I3,rfl,q3⟩⟩
  | next=>exact False.elim hq'
  | brk=>exact False.elim hq'
  | cont=>exact False.elim hq'
theorem Ie (M:Mk X.K C f) (F:FnOk X.prog X.w X.K X.mg X.base CX k f fd ps sp) (hr:Room (k+1) X.A) (hg:Gl X x) (hm:X.mg x=some (.ref C)) (hb:Binds X.K fd ps ds) (hd:Vals dvs ds) (hx:Passes CX X E)
  (ha:PA X (e::es) t) (hdb:(x==("__debug__" : Str))=false:=by decide) (he:Nw (e::es) X.env=(false,eval e X.env)::Nw es X.env:=by rfl) (hpl:(backTo pos (Nw es X.env)).any (·.1)=false:=by rfl) :
  PE X (.Call (.Name x p) (e::es) [] pos) (Jt C sp dvs E t):=by
 intro pins s σ H Q I h;refine wpAny_Call_Name_kw (xy I hg hm ?_ hdb);refine Pv (h₀:=X.base) I.ok.mod.kin M.kp (thn (ha pos pins s σ H _ I h) λ us s1 ⟨vs,H1,I1,r,q⟩=>⟨I1.kIn,?_⟩) he hpl;exact Bz M F hr hb hd hx I1 r q
theorem FU (M:Mk X.K C f) (F:FnOk X.prog X.w X.K X.mg X.base CX k f fd ps sp) (hr:Room (k+1) X.A) (hg:Gl X x) (hm:X.mg x=some (.ref C)) (hb:Binds X.K fd ps ds) (hd:Vals dvs ds) (hx:Passes CX X E)
  (hdb:(x==("__debug__" : Str))=false:=by decide):PE X (.Call (.Name x p) [] [] pos) (Jt C sp dvs E JZ):=by
 intro pins s σ H Q I h;refine wpAny_Call_Name_kw (xy I hg hm ?_ hdb);exact PySem.W.callWith_K0 I.kIn M.kp (Bz (us:=[]) M F hr hb hd hx I .nil h)
end
section
variable {X:Cx} {CX:CXT} {k:Nat} {f C:NI} {fd:Oo} {ps ks:List Str} {sp:Sp} {E:XK} {x m:Str} {p pos apos kpos:Pos} {e o:Expr} {es:List Expr} {kws:List Keyword} {te ta:TE} {t tk:TA} {nm:Option Str}
structure KBinds (K:Ni) (fd:Oo) (ps ks:List Str) (g:List Nq->List Nq->List Nq) (gV:List V->List V->List V):Prop where
 to:∀ (s:Nu) (us ws:List Nq),K.In s.heap->(g us ws).length=ps.length->BindsTo s fd ⟨us,ks.zip ws⟩ (ps.zip (g us ws))
 rel:∀ {vs:List V} {us:List Nq} {zs:List V} {ws:List Nq},Vals vs us->Vals zs ws->Vals (gV vs zs) (g us ws)
variable {g:List Nq->List Nq->List Nq} {gV:List V->List V->List V}
end
structure aE (N P:List Str) (sc:Scope):Prop where
 kind:sc.kind=.function
 co:sc.isCoroutine=false
 gen:sc.isGenerator=false
 nd:N.Nodup
 pre:N.take P.length=P
 par:∀ x∈P,sc.names.lookup x=some .local\/sc.names.lookup x=some .cell
 nofree:∀ y∈sc.names,y.2≠.free
theorem z7 {kindOf:Str->Option NameKind} {x:Str}:∀ {binds:List (Str×Nq)} {m:Str->Option Nq},(∀ v,(x,v)∉binds)->bindL kindOf binds m x=m x
 | [],_,_=>rfl
 | (n,v)::r,m,h=>by
  unfold bindL;rw [z7 λ w hw=>h w (NA _ hw)]
  split
  ·have:x≠n:=by rintro rfl; exact h v NJ
   simp [this]
  ·rfl
theorem z9 {kindOf:Str->Option NameKind} {x:Str}:∀ {binds:List (Str×Nq)} {m:Str->Option Nq},(∀ v,(x,v)∉binds)->bindC kindOf binds m x=m x
 | [],_,_=>rfl
 | (n,v)::r,m,h=>by
  unfold bindC;rw [z9 λ w hw=>h w (NA _ hw)]
  split
  ·rfl
  ·have:x≠n:=by rintro rfl; exact h v NJ
   simp [this]
theorem z8 {kindOf:Str->Option NameKind} {x:Str} {v:Nq}:∀ {P:List Str} {vs:List Nq} {i:Nat} {m:Str->Option Nq},P.Nodup->P[i]?=some x->vs[i]?=some v->kindOf x=some .local ->
  bindL kindOf (P.zip vs) m x=some v
 | [],_,_,_,_,h,_,_=>by simp at h
 | _::_,[],_,_,_,_,h,_=>by simp at h
 | p::P,w::vs,0,m,nd,h1,h2,hk=>by
  simp at h1 h2; subst h1; subst h2;show bindL kindOf ((p,w)::P.zip vs) m p=_;unfold bindL;rw [z7 λ v hv=>(OY.mp nd).1 (List.of_mem_zip hv).1,if_pos hk]
  simp
 | p::P,w::vs,i+1,m,nd,h1,h2,hk=>by
  show bindL kindOf ((p,w)::P.zip vs) m x=_;unfold bindL;exact z8 (i:=i) (OY.mp nd).2 (by simpa using h1) (by simpa using h2) hk
theorem Aa {kindOf:Str->Option NameKind} {x:Str} {v:Nq}:∀ {P:List Str} {vs:List Nq} {i:Nat} {m:Str->Option Nq},P.Nodup->P[i]?=some x->vs[i]?=some v->kindOf x≠some .local ->
  bindC kindOf (P.zip vs) m x=some v
 | [],_,_,_,_,h,_,_=>by simp at h
 | _::_,[],_,_,_,_,h,_=>by simp at h
 | p::P,w::vs,0,m,nd,h1,h2,hk=>by
  simp at h1 h2; subst h1; subst h2;show bindC kindOf ((p,w)::P.zip vs) m p=_;unfold bindC;rw [z9 λ v hv=>(OY.mp nd).1 (List.of_mem_zip hv).1,if_neg hk]
  simp
 | p::P,w::vs,i+1,m,nd,h1,h2,hk=>by
  show bindC kindOf ((p,w)::P.zip vs) m x=_;unfold bindC;exact Aa (i:=i) (OY.mp nd).2 (by simpa using h1) (by simpa using h2) hk
noncomputable def start (N:List Str) (vs:List V):St:=vs.map some++NV (N.length - vs.length) none
noncomputable def Cf (CX:CXT) (P:NT) (w:World) (K:Ni) (mg:Str->Option Nq) (base:Heap) (N:List Str) (qual:Str) (scope:Scope) (f:NI) (cd:Nq) (A:Oh) (outer:List Env) (s:Nu) (H:Hp) (E:XK):Cx where
 prog:=P
 w:=w
 K:=K
 mg:=mg
 base:=base
 A:=A.deeper (envOfC qual scope s.heap.objs.size f cd)
 N:=N
 s₀:=s
 H₀:=H
 env:=envOfC qual scope s.heap.objs.size f cd
 outer:=outer
 stack:=envOfC qual scope s.heap.objs.size f cd::outer
 ex:=[]
 calm:=true
 fn:=λ _=>true
 pn:=[]
 xe:=λ e s'=>N7 (N9 P w) (A.deeper (envOfC qual scope s.heap.objs.size f cd)) (leaving (envOfC qual scope s.heap.objs.size f cd) e) (λ _ s''=>CX outer H s E e s'') (λ e' s''=>CX outer H s E e' s'') s'
theorem Cl {sc:Scope} {n:Nat} {x:Str} (h:sc.names.lookup x=some .cell):∃ c,(cellsFrom n sc.names []).lookup x=some c:=by
 have q:=PySem.W.cellsFrom_some sc.names n [] (.inl h);exact Option.isSome_iff_exists.mp q
theorem EY {CX:CXT} {P:NT} {w:World} {K:Ni} {mg:Str->Option Nq} {base:Heap} {N ps:List Str} {qual:Str} {scope:Scope} {f:NI} {cd:Nq} {A:Oh} {outer:List Env} {s s1:Nu} {H:Hp} {E:XK} {us:List Nq} {vs:List V}
  (S:aE N ps scope) (hd:A.handled=none) (e0:Env0 P w K mg base A outer s H) (hl:vs.length=ps.length) (r:Vals vs us)
  (x:InCallC s s.heap.objs.size (bindL (envOfC qual scope s.heap.objs.size f cd).kindOf (ps.zip us) λ _=>none) (cellsFrom (s.heap.objs.size+1) scope.names []) (bindC (envOfC qual scope s.heap.objs.size f cd).kindOf (ps.zip us) λ _=>none) s1) :
  Inv (Cf CX P w K mg base N qual scope f cd A outer s H E) [] (start N vs) H s1:=by
 have hpl:ps.length<=N.length:=by have:=congrArg List.length S.pre; rw [Pg] at this; omega
 obtain ⟨h1,tk,rfl,hk⟩:=x.done;have noA:∀ b:NI,b∉(Cf CX P w K mg base N qual scope f cd A outer s H E).ex:=λ b z=>absurd (show b∈([]:List NI) from z) (by simp);refine ⟨⟨e0.mod,S.kind,rfl,rfl,Np _,λ y z c h1 h2=>?_,λ y hy=>?_,λ y c _ h=>?_,λ _=>hd,Around.frames_deeper e0.frames,.inr ⟨rfl,rfl⟩,λ b z=>absurd z (noA b),e0.bs,e0.bsz,λ b _ _=>noA b,λ b z=>absurd z (noA b),e0.funs,e0.frf⟩,rfl,e0.bare,Un.kept hk,⟨_,x.toInCall.ns,λ i y v h1 h2 h3=>?_⟩,λ y c h=>⟨_,x.cell y c h⟩,e0.hok.fresh (Np _),λ y c h=>?_,λ p hp=>absurd (show p∈([]:List (NI×Obj)) from hp) (by simp),e0.hok.kept hk,?_⟩
 ·exact name_of_addr x.apart (PySem.mem_of_lookup h1) (PySem.mem_of_lookup h2)
 ·have hy:scope.names.lookup y=some .cell\/scope.names.lookup y=some .free:=hy;rcases hy with hy | hy
  ·exact Cl hy
  ·exact absurd rfl (S.nofree _ (PySem.mem_of_lookup hy))
 ·exact Po (x.above y c (PySem.mem_of_lookup h))
 ·have hi:i < vs.length:=by
   unfold start at h2;by_cases hi:i < vs.length
   ·exact hi
   ·rw [Nt (by simpa using hi)] at h2;rw [OJ] at h2;split at h2 <;> cases h2
  have ha:vs[i]?=some v:=by
   unfold start at h2;rw [Nm (by simpa using hi),NG] at h2;cases e:vs[i]? with
   | none=>rw [e] at h2; cases h2
   | some a=>rw [e] at h2; cases h2; rfl
  obtain ⟨u,hu,rv⟩:=r.get ha;have hp:ps[i]?=some y:=by
   rw [<- S.pre,List.getElem?_take_of_lt (by omega)]; exact h1
  have ndP:ps.Nodup:=by rw [<- S.pre]; exact S.nd.sublist (List.take_sublist _ _)
  refine ⟨u,rv,?_⟩;rcases S.par y (OV hp) with k | k
  ·exact .inl ⟨k,z8 ndP hp hu k⟩
  ·obtain ⟨c,e⟩:=Cl (n:=s.heap.objs.size+1) k;refine .inr ⟨.inl k,c,e,?_⟩;have q:=x.cell y c e;rw [Aa ndP hp hu (by show scope.names.lookup y≠_; rw [k]; decide)] at q;exact q
 ·exact e0.hok.fresh (Po (x.above y c (PySem.mem_of_lookup h)))
 ·unfold start;show _=N.length;rw [Nn,Nl,OQ];omega
theorem Ml {CX:CXT} {P:NT} {w:World} {K:Ni} {mg:Str->Option Nq} {base:Heap} {k:Nat} {f:NI} {name qual:Str} {params:Arguments} {body:List Stmt} {scope:Scope} {dV kV doc pm cdv ct oc:Nq} {an od:Option NI}
  {osl:Array (Option Nq)} {N ps:List Str} {sp:Sp} (lk:K.lookup f=some ⟨oc,od,.func (O8 name qual params body scope dV kV doc pm an cdv ct),osl⟩) (hcd:PySem.W.codeIn K cdv qual=true) (S:aE N ps scope)
  (len:∀ vs H Q E,sp vs H Q E->vs.length=ps.length)
  (hbody:∀ (A:Oh) (outer:List Env) (s:Nu) (H:Hp) (vs:List V) (Q:VK) (E:XK),Room k (A.deeper (envOfC qual scope s.heap.objs.size f cdv))->sp vs H Q E ->
   ∃ t,PSs (Cf CX P w K mg base N qual scope f cdv A outer s H E) body t/\t { nx:=λ _ H'=>Q .non H',rt:=Q } (start N vs) H) :
  FnOk P w K mg base CX (k+1) f (O8 name qual params body scope dV kV doc pm an cdv ct) ps sp:=by
 refine ⟨len,λ A outer s H args us vs Q E hr e0 hb r hsp=>?_⟩;have hl:=len _ _ _ _ hsp;have KX:K.In s.heap:=e0.mod.kin.keeps λ b o e=>(e0.bs b o e).1;have lim:s.heap.NoLimit:=e0.mod.nolimit.keeps λ b o e=>(e0.bs b o e).1;have hkind:∀ y∈ps.zip us,scope.names.lookup y.1=some .local\/(scope.names.lookup y.1=some .cell/\((cellsFrom (s.heap.objs.size+1) scope.names []).lookup y.1).isSome=true):=λ ⟨n,v⟩ hy=>by
  rcases S.par n (List.of_mem_zip hy).1 with q | q
  ·exact .inl q
  ·exact .inr ⟨q,PySem.W.cellsFrom_some _ _ _ (.inl q)⟩
 refine codeAny_call_function hr.depth (KX _ _ lk) rfl S.co S.gen rfl (PySem.W.codeRec_of KX hcd) (hb _ _ _ _ ?_);refine wpAny_newFunctionEnv_cells S.kind hkind λ env he s1 x=>?_;subst he;refine ⟨lim.keeps x.toInCall.keep,codeAny_func ?_⟩;obtain ⟨t,ht,hq⟩:=hbody A outer s H vs Q E (hr.deeper _) hsp;have I:Inv (Cf CX P w K mg base N qual scope f cdv A outer s H E) [] (start N vs) H s1:=EY S hr.hd e0 hl r x;refine wpAny_mono (ht [] s1 (start N vs) H _ I hq) (λ fl s' hs=>?_) λ e s' hs=>hs;have fin:∀ {σ':St} {H':Hp} {v:V} {u:Nq},Inv (Cf CX P w K mg base N qual scope f cdv A outer s H E) [] σ' H' s'->RelV v u->Q v H'->CE outer P w H s Q u s' :=
  λ {σ' H' v u} J rv q=>⟨v,H',J.os,J.bare,J.base,J.hok,rv,q⟩
 cases fl with
 | ret u =>
  obtain ⟨v,σ',H',J,rv,q⟩:=hs;exact fin J rv q
 | next =>
  obtain ⟨σ',H',J,q⟩:=hs;exact fin (v:=V.non) (u:=Value.none) J rfl q
 | brk =>
  obtain ⟨_,_,_,q⟩:=hs;exact False.elim q
 | cont =>
  obtain ⟨_,_,_,q⟩:=hs;exact False.elim q
section
variable {X:Cx} {x:Str} {p pos:Pos} {e:Expr} {es:List Expr} {t:TA} {id T:String} {r:List V->Hp->VK->Prop}
noncomputable def tCB (r:List V->Hp->VK->Prop) (t:TA):TE:=λ σ H Q=>t σ H λ vs H1=>r vs H1 Q
theorem BF (hc:CallR X (.builtin id) r) (hg:Gl X x) (hm:X.mg x=none) (hv:bootBuiltins x=some (.builtin id)) (ha:PA X (e::es) t) (hn:x ≠ "__name__" := by decide) (hdb:(x==("__debug__" : Str))=false:=by decide)
  (he:Nw (e::es) X.env=(false,eval e X.env)::Nw es X.env:=by rfl) (hpl:(backTo pos (Nw es X.env)).any (·.1)=false:=by rfl):PE X (.Call (.Name x p) (e::es) [] pos) (tCB r t):=by
 intro pins s σ H Q I h;refine wpAny_Call_Name_kw (uK I hg hm hv ?_ hn hdb);exact PyProof.Rows.callWith_builtin1 (thn (ha pos pins s σ H _ I h) λ us s1 ⟨vs,H1,I1,r1,q1⟩=>hc pins s1 σ H1 vs us Q I1 r1 q1) he hpl
theorem zJ (hc:CallR X (.type T) r) (hg:Gl X x) (hm:X.mg x=none) (hv:bootBuiltins x=some (.type T)) (ha:PA X (e::es) t) (hn:x ≠ "__name__" := by decide) (hdb:(x==("__debug__" : Str))=false:=by decide)
  (he:Nw (e::es) X.env=(false,eval e X.env)::Nw es X.env:=by rfl) (hpl:(backTo pos (Nw es X.env)).any (·.1)=false:=by rfl):PE X (.Call (.Name x p) (e::es) [] pos) (tCB r t):=by
 intro pins s σ H Q I h;refine wpAny_Call_Name_kw (uK I hg hm hv ?_ hn hdb);exact PyProof.Rows.callWith_type1 (thn (ha pos pins s σ H _ I h) λ us s1 ⟨vs,H1,I1,r1,q1⟩=>hc pins s1 σ H1 vs us Q I1 r1 q1) he hpl
end
end L2
namespace HT
open PySem PyProof.Rows
section
open PySem.SeqAt
open PySem.AutoSeq1 (wpAny_loadPart')
open PySem.MeetsSeq PySem.MeetsSeq2 PySem.MeetsSeq3
end
section
variable {prog:NT} {w:World} {A:Oh} {E:Nq->Nu->Prop} {s:Nu}
theorem cat_tup {t b:NI} {vs ws:List Nq} {Q:Nq->Nu->Prop} (ht:IsTup s.heap t vs.toArray) (hb:IsTup s.heap b ws.toArray) (hv:vs≠[])
  (h1:ws=[]->Q (.ref t) s) (h2:ws≠[]->Q (.ref s.heap.objs.size) { s with heap:=s.heap.push { cls:=.type "tuple", data:=.seq (vs++ws).toArray } })
  (hsz:vs.length+ws.length<=No):N7 (N9 prog w) A (binaryOp .Add (.ref t) (.ref b)) Q E s:=by
 obtain ⟨⟨cls,dd,data,sl⟩,ho,hc,n,hd⟩:=id ht;obtain ⟨⟨cls2,dd2,data2,sl2⟩,ho2,hc2,n2,hd2⟩:=id hb;simp only at hc hd hc2 hd2;subst hc hd hc2 hd2;have e:vs.toArray++ws.toArray=(vs++ws).toArray:=by simp
 by_cases hw:ws=[]
 ·exact concat_meets ⟨_,ho,rfl⟩ ⟨_,ho2,rfl⟩ noFill_tuple_add seq_tuple_add PySem.F.slot_tuple_add PySem.F.entry_tuple_add (PySem.F.args_tuple_add_2 _ _)
   (tuple_addW1 t b vs.toArray ws.toArray n n2 dd dd2 sl sl2 (by simpa using hv) (by simp [hw])) ⟨ho,ho2,h1 hw⟩
 ·refine concat_meets ⟨_,ho,rfl⟩ ⟨_,ho2,rfl⟩ noFill_tuple_add seq_tuple_add PySem.F.slot_tuple_add PySem.F.entry_tuple_add (PySem.F.args_tuple_add_2 _ _)
   (tuple_addW2 t b vs.toArray ws.toArray n n2 dd dd2 sl sl2 (by simpa using hv) (by simpa using hw) (by rw [ND,ND]; exact hsz)) ⟨ho,ho2,?_⟩
  rw [e];exact h2 hw
noncomputable def sIx (n d:Nat):Option Int->Nat
 | none=>d
 | some v=>if v < 0 then (v+(n:Int)).toNat else min v.toNat n
theorem sIx_none (n d:Nat):sIx n d none=d:=rfl
theorem sIx_nat (n d k:Nat):sIx n d (some (k:Int))=min k n:=by
 show (if (k:Int) < 0 then ((k:Int)+(n:Int)).toNat else min (k:Int).toNat n)=min k n;rw [if_neg (by omega),Int.toNat_natCast]
theorem J7 (n d:Nat) (hd:d<=n) (o:Option Int):sIx n d o<=n:=by
 cases o with
 | none=>exact hd
 | some v =>
  show (if v < 0 then (v+(n:Int)).toNat else min v.toNat n)<=n;by_cases hv:v < 0
  ·rw [if_pos hv]; omega
  ·rw [if_neg hv]; exact Nat.min_le_right _ _
theorem Ej (v:Int) (n d:Nat):(if v < 0 then max (v+(n:Int)) 0 else min v (n:Int))=((sIx n d (some v):Nat):Int):=by
 show (if v < 0 then max (v+(n:Int)) 0 else min v (n:Int))=(((if v < 0 then (v+(n:Int)).toNat else min v.toNat n):Nat):Int);by_cases hv:v < 0
 ·simp only [if_pos hv]; omega
 ·simp only [if_neg hv]; omega
theorem Dn (lo hi:Option Int) (n:Nat):Builtin.Slice.sliceAdjust lo hi 1 (n:Int)=(((sIx n 0 lo:Nat):Int),((sIx n n hi:Nat):Int)):=by
 have h1:¬ ((1:Int) < 0):=by omega
 unfold Builtin.Slice.sliceAdjust;simp only [h1,if_false];refine Prod.ext ?_ ?_
 ·cases lo with
  | none=>rfl
  | some v=>exact Ej v n 0
 ·cases hi with
  | none=>rfl
  | some v=>exact Ej v n n
theorem CP (i j:Nat):Builtin.Slice.slicePlaces (i:Int) (j:Int) 1=j - i:=by
 unfold Builtin.Slice.slicePlaces;have h1:(1:Int) > 0:=by omega
 simp only [h1,if_true,Int.ediv_one]
 split <;> omega
theorem xI {v:Nq} {o:Option Int} {Q:Option Int->Nu->Prop} (p:IsPart v o) (h:Q o s):N7 (N9 prog w) A (Builtin.Slice.slicePartIndex v) Q E s:=by
 cases p with
 | none=>exact slicePart_none h
 | int i t=>exact slicePart_int h
theorem sliceApplied_gen {sl:NI} {vl vu:Nq} {lo hi:Option Int} {n:Nat} {Q:Int×Int×Nat->Nu->Prop} (hs:s.heap.IsSliceOf sl vl vu .none) (pl:IsPart vl lo) (pu:IsPart vu hi)
  (h:Q (((sIx n 0 lo:Nat):Int),1,sIx n n hi - sIx n 0 lo) s):N7 (N9 prog w) A (Builtin.Slice.sliceApplied (.ref sl) (pure (n:Int))) Q E s:=by
 obtain ⟨os,hos,hcs,hds⟩:=id hs;unfold Builtin.Slice.sliceApplied Builtin.Slice.sliceFields;refine NH (NH (wpAny_field hos hds (x:=vl) rfl (NH (wpAny_field hos hds (x:=vu) rfl (NH (wpAny_field hos hds (x:=.none) rfl (NR ?_)))))));refine NH (slicePart_none ?_);show N7 _ _ (if ((1:Int)==0)=true then _ else _) _ _ s;rw [if_neg (by decide)];refine NH (xI pl (NH (xI pu (NH (NR ?_)))));show N7 _ _ (match Builtin.Slice.sliceAdjust lo hi 1 (n:Int) with | (lo,hi)=>pure (lo,(1:Int),Builtin.Slice.slicePlaces lo hi 1)) _ _ s;rw [Dn lo hi n];show N7 _ _ (pure (((sIx n 0 lo:Nat):Int),(1:Int),Builtin.Slice.slicePlaces ((sIx n 0 lo:Nat):Int) ((sIx n n hi:Nat):Int) 1)) _ _ s;rw [CP];exact NR h
theorem FN (xs:Array Nq) (i k:Nat):((List.range k).filterMap λ (m:Nat)=>xs[((i:Int)+(m:Int)*1).toNat]?).toArray=((xs.toList.drop i).take k).toArray:=by
 have e:(λ (m:Nat)=>xs[((i:Int)+(m:Int)*1).toNat]?)=λ m=>xs[i+m]?:=by
  funext m
  have:((i:Int)+(m:Int)*1).toNat=i+m:=by omega
  rw [this]
 rw [e]
 have:=pick_run xs i k
 rw [List.filterMap_map] at this;have e2:((λ x=>xs[x]?)∘λ x=>i+x)=λ m=>xs[i+m]?:=rfl;rw [e2] at this;rw [this]
theorem getItem_tuple_cut {t sl:NI} {items:Array Nq} {vl vu:Nq} {lo hi:Option Int} {Q:Nq->Nu->Prop} (ht:IsTup s.heap t items) (hs:s.heap.IsSliceOf sl vl vu .none) (pl:IsPart vl lo) (pu:IsPart vu hi)
  (hw:¬ (sIx items.size 0 lo=0/\sIx items.size items.size hi=items.size))
  (h:Q (.ref s.heap.objs.size) { s with heap:=s.heap.push { cls:=.type "tuple", data:=.seq ((items.toList.drop (sIx items.size 0 lo)).take (sIx items.size items.size hi - sIx items.size 0 lo)).toArray } })
  (hsz:items.size<=No):N7 (N9 prog w) A (getItem (.ref t) (.ref sl)) Q E s:=by
 have htake:sizeOk (.seq ((items.toList.drop (sIx items.size 0 lo)).take (sIx items.size items.size hi - sIx items.size 0 lo)).toArray):=by
  show ((items.toList.drop (sIx items.size 0 lo)).take (sIx items.size items.size hi - sIx items.size 0 lo)).toArray.size<=No;rw [ND,Pg,Oj,Array.length_toList];omega
 have hj:sIx items.size items.size hi<=items.size:=J7 _ _ (Np _) hi;obtain ⟨os,hos,hcs,hds⟩:=id hs;have hTs:s.TypeIs (.ref sl) "slice" := ⟨os,hos,hcs⟩;unfold getItem
 try with_reducible refine wpAny_holding ?_
 first | refine NH (NR ?_) | skip
 refine NH (wpAny_sequenceKey ht.typeIs (by decide) ?_);refine NH (wpAny_callSpecial?_slot (name:=Str.ofString "__getitem__") ht.typeIs PyProof.Rows.slot_tuple_getitem
  (wpAny_call_entry PyProof.Rows.slot_tuple_getitem ht.typeIs entry_tuple_getitem ?_ (args_tuple_getitem _ _)))
 show N7 _ _ (Builtin.Tuple.tupleItemsOf (.ref t) >>= _) _ _ s;refine NH (tupleItemsOf_ ht ?_);refine NH (wpAny_typeOf hTs ?_);rw [if_pos (by decide)];refine NH (sliceApplied_gen hs pl pu ?_);have hno:¬ ((((sIx items.size 0 lo:Nat):Int)==0&&(1:Int)==1&&(sIx items.size items.size hi - sIx items.size 0 lo)==items.size)=true):=by
  intro q;rw [Ol,Ol] at q;have q1:((sIx items.size 0 lo:Nat):Int)=0:=eq_of_beq q.1.1;have q2:sIx items.size items.size hi - sIx items.size 0 lo=items.size:=eq_of_beq q.2;exact hw ⟨by omega,by omega⟩
 show N7 _ _ (if (((sIx items.size 0 lo:Nat):Int)==0&&(1:Int)==1&&(sIx items.size items.size hi - sIx items.size 0 lo)==items.size)=true then _ else _) _ _ s;rw [if_neg hno,FN]
 first
  | exact NH (m:=Builtin.Tuple.tupleExact _) (wpAny_newObj_type (NR ⟨_,rfl,NR h⟩) htake)
  | exact NH (m:=Builtin.Tuple.tupleExact _) (wpAny_newObj_type (NH (NR (NR ⟨_,rfl,NR h⟩))) htake)
  | exact NH (NH (m:=Builtin.Tuple.tupleExact _) (wpAny_newObj_type (NR (NR ⟨_,rfl,NR h⟩)) htake))
  | exact NH (NH (m:=Builtin.Tuple.tupleExact _) (wpAny_newObj_type (NR ⟨_,rfl,NR h⟩) htake))
end
end HT
namespace L2
open PySem PySem.Spec PyProof.Rows
noncomputable abbrev TO:=St->Hp->(Option Int->Hp->Prop)->Prop
noncomputable def PO (X:Cx) (e:Option Expr) (t:TO):Prop :=
 ∀ (pins:List (NI×Obj)) (s:Nu) (σ:St) (H:Hp) (Q:Option Int->Hp->Prop),Inv X pins σ H s->t σ H Q ->
  N7 (N9 X.prog X.w) X.A (evalPart e X.env) (λ u s'=>∃ o H',Inv X pins σ H' s'/\IsPart u o/\Q o H') X.xe s
noncomputable def Hz:TO:=λ _ H Q=>Q none H
noncomputable def Lp (t:TE):TO:=λ σ H Q=>t σ H λ x H1=>∃ i,x=.int i/\Q (some i) H1
theorem C6 {ns:List Int}:∀ {us:List Nq},Vals (ns.map V.int) us->IntsAre us ns:=by
 induction ns with
 | nil=>intro us r; rw [List.map_nil] at r; cases r; exact .nil
 | cons n ns ih =>
  intro us r;rw [Ny] at r;cases r with
  | cons r1 r2 =>
   obtain ⟨t,e⟩:=r1;subst e;exact .cons n t (ih r2)
section
variable {X:Cx} {e:Expr} {te:TE} {lo hi:Option Expr} {tl th:TO} {pos p2:Pos}
theorem HZ:PO X none Hz:=by
 intro pins s σ H Q I h;rw [evalPart_none];exact NR ⟨none,H,I,.none,h⟩
theorem HY (h:PE X e te):PO X (some e) (Lp te):=by
 intro pins s σ H Q I hw;rw [evalPart_some];refine thn (h pins s σ H _ I hw) λ u s1 ⟨x,H1,I1,r1,q1⟩=>?_;obtain ⟨i,rfl,q⟩:=q1;obtain ⟨t,rfl⟩:=r1;exact ⟨some i,H1,I1,.int i t,q⟩
noncomputable def SlR (X:Cx) (r:V->Option Int->Option Int->Hp->VK->Prop):Prop :=
 ∀ (pins:List (NI×Obj)) (s:Nu) (σ:St) (H:Hp) (x:V) (v vl vu:Nq) (lo hi:Option Int) (sl:NI) (Q:VK),Inv X pins σ H s->RelV x v->s.heap.IsSliceOf sl vl vu .none->IsPart vl lo->IsPart vu hi->r x lo hi H Q ->
  ∃ T id,typeLookup (.type T) "__getitem__" = pure (some (.builtin id))/\s.TypeIs v T/\N7 (N9 X.prog X.w) X.A (getItem v (.ref sl)) (EP X pins σ Q) X.xe s
theorem SlR.or {r r':V->Option Int->Option Int->Hp->VK->Prop} (h:SlR X r) (h':SlR X r'):SlR X (λ x lo hi H Q=>r x lo hi H Q\/r' x lo hi H Q):=by
 intro pins s σ H x v vl vu lo hi sl Q I rx hs pl pu q;rcases q with q | q
 ·exact h pins s σ H x v vl vu lo hi sl Q I rx hs pl pu q
 ·exact h' pins s σ H x v vl vu lo hi sl Q I rx hs pl pu q
noncomputable def tSl (r:V->Option Int->Option Int->Hp->VK->Prop) (te:TE) (tl th:TO):TE:=λ σ H Q=>te σ H λ x H1=>tl σ H1 λ l H2=>th σ H2 λ u H3=>r x l u H3 Q
theorem BC {r:V->Option Int->Option Int->Hp->VK->Prop} (hr:SlR X r) (he:PE X e te) (hl:PO X lo tl) (hu:PO X hi th):PE X (.Subscript e (.Slice lo hi none p2) pos) (tSl r te tl th):=by
 intro pins s σ H Q I h;refine Subscript_ (thn (he pins s σ H _ I h) λ v s1 ⟨x,H1,I1,r1,q1⟩=>?_);refine wpAny_Slice (thn (hl pins s1 σ H1 _ I1 q1) λ vl s2 ⟨l,H2,I2,pl,q2⟩=>thn (hu pins s2 σ H2 _ I2 q2) λ vu s3 ⟨u,H3,I3,pu,q3⟩=>?_);rw [evalPart_none];refine NR ?_;have I4:Inv X pins σ H3 { s3 with heap:=s3.heap.push { cls:=.type "slice", data:=.fields #[vl,vu,.none] } }:=I3.kept (t':=s3.toks) λ b ob q=>Nv _ q;obtain ⟨T,id,hT,ht,hg⟩:=hr pins { s3 with heap:=s3.heap.push { cls:=.type "slice", data:=.fields #[vl,vu,.none] } } σ H3 x v vl vu l u s3.heap.objs.size Q I4 r1 (Heap.IsSliceOf.new ..) pl pu q3;show N7 (N9 X.prog X.w) X.A (subscriptTail e (.Slice lo hi none p2) v (.ref s3.heap.objs.size)) (EP X pins σ Q) X.xe { s3 with heap:=s3.heap.push { cls:=.type "slice", data:=.fields #[vl,vu,.none] } };exact tail_any (ops:=[.ref s3.heap.objs.size,v]) ht hT hg (by with_unfolding_all rfl)
noncomputable def xk (xs:List V) (lo hi:Option Int):List V:=(xs.drop (HT.sIx xs.length 0 lo)).take (HT.sIx xs.length xs.length hi - HT.sIx xs.length 0 lo)
theorem wI (xs:List V) (lo hi:Option Int):(xk xs lo hi).length<=xs.length:=by
 unfold xk;rw [Pg,Oj];omega
noncomputable def LI (K:Ni):V->Option Int->Option Int->Hp->VK->Prop:=λ x lo hi H Q=>∃ a xs,x=.ref a/\SqT K H a xs /\
 ¬ (HT.sIx xs.length 0 lo=0/\HT.sIx xs.length xs.length hi=xs.length)/\∀ p,H p=none->Q (.ref p) (upd H p (.tup (xk xs lo hi)))
theorem sl_tup:SlR X (LI X.K):=by
 intro pins s σ H x v vl vu lo hi sl Q I rx hs pl pu h;obtain ⟨a,xs,rfl,hx,hw,q⟩:=h;cases rx;obtain ⟨its,r,ht,hz⟩:=I.tuple hx;have hlen:its.toArray.size=xs.length:=by rw [ND]; exact r.length.symm
 refine ⟨"tuple", _,PyProof.Rows.slot_tuple_getitem.lookup,ht.typeIs,?_⟩;refine HT.getItem_tuple_cut ht hs pl pu (by rw [hlen]; exact hw) ?_ (by rw [hlen]; exact hz);rw [hlen];refine ⟨.ref s.heap.objs.size,_,I.laid (t':=s.toks) (o:=.tup (xk xs lo hi)) (λ b ob q=>Nv _ q) (Np _) ?_,rfl,q _ (I.hok.fresh (Np _))⟩;exact ⟨NL (wI xs lo hi) hz,_,(r.drop (HT.sIx xs.length 0 lo)).take (HT.sIx xs.length xs.length hi - HT.sIx xs.length 0 lo),IsTup.new _ _⟩
theorem Vals.nil_iff {xs:List V} {us:List Nq} (r:Vals xs us):us=[]↔xs=[]:=by
 cases r with
 | nil=>simp
 | cons _ _=>simp
end
noncomputable def ixN (n:Nat) (i:Int):Option Nat:=if 0<=i then (if i < n then some i.toNat else none) else if -(n:Int)<=i then some (i+n).toNat else none
noncomputable def atI {α:Type} (xs:List α) (i:Int):Option α:=(ixN xs.length i).bind λ j=>xs[j]?
theorem IH {n:Nat} {i:Int} {j:Nat} (h:ixN n i=some j):seqIndex? i n=some j/\j < n/\-(n:Int)<=i/\i < n:=by
 unfold ixN at h;by_cases h0:0<=i
 ·rw [if_pos h0] at h;by_cases h1:i < n
  ·rw [if_pos h1] at h;have e:i.toNat=j:=Option.some.inj h;exact ⟨by rw [seqIndex_of h0 h1,e],by omega,by omega,h1⟩
  ·rw [if_neg h1] at h; cases h
 ·rw [if_neg h0] at h;by_cases h1:-(n:Int)<=i
  ·rw [if_pos h1] at h;have e:(i+n).toNat=j:=Option.some.inj h;exact ⟨by rw [seqIndex_neg (by omega) h1,e],by omega,h1,by omega⟩
  ·rw [if_neg h1] at h; cases h
theorem Bg {α:Type} {xs:List α} {i:Int} {v:α} (h:atI xs i=some v):∃ j,seqIndex? i xs.length=some j/\xs[j]?=some v/\j < xs.length/\-(xs.length:Int)<=i/\i < xs.length:=by
 unfold atI at h;cases e:ixN xs.length i with
 | none=>rw [e] at h; cases h
 | some j =>
  rw [e] at h;obtain ⟨h1,h2,h3,h4⟩:=IH e;exact ⟨j,h1,h,h2,h3,h4⟩
theorem qr {α:Type} {xs:List α} {j:Nat} {v:α} (h:xs[j]?=some v):atI xs (j:Int)=some v:=by
 have hj:j < xs.length:=(Nr.mp h).1;have e:ixN xs.length (j:Int)=some j:=by
  unfold ixN;rw [if_pos (by omega),if_pos (by omega)]; simp
 unfold atI; rw [e]; exact h
noncomputable def vO (b:Expr):Prop:=∀ o i,subscripted b false o i=operate [o,i] (getItem o i)
noncomputable def IxR (X:Cx) (r:R2):Prop :=
 ∀ (value slice:Expr) (pins:List (NI×Obj)) (s:Nu) (σ:St) (H:Hp) (x y:V) (v u:Nq) (Q:VK),Inv X pins σ H s->RelV x v->RelV y u->r x y H Q ->
  subscripted slice false v u=operate [v,u] (getItem v u)->N7 (N9 X.prog X.w) X.A (subscriptTail value slice v u) (EP X pins σ Q) X.xe s
noncomputable def MtR (X:Cx) (id:String) (r:V->List V->Hp->VK->Prop):Prop :=
 ∀ (pins:List (NI×Obj)) (s:Nu) (σ:St) (H:Hp) (x:V) (xs:List V) (v:Nq) (us:List Nq) (Q:VK),Inv X pins σ H s->RelV x v->Vals xs us->r x xs H Q ->
  N7 (N9 X.prog X.w) X.A (call (.builtin id) (v::us)) (EP X pins σ Q) X.xe s
section
variable {X:Cx} {a b:Expr} {ta tb:TE} {pos:Pos}
theorem IxR.or {r r':R2} (h:IxR X r) (h':IxR X r'):IxR X (λ x y H Q=>r x y H Q\/r' x y H Q):=by
 intro value slice pins s σ H x y v u Q I rx ry q hs;rcases q with q | q
 ·exact h value slice pins s σ H x y v u Q I rx ry q hs
 ·exact h' value slice pins s σ H x y v u Q I rx ry q hs
theorem Jz {r:R2} (hr:IxR X r) (ha:PE X a ta) (hb:PE X b tb) (hs:vO b):PE X (.Subscript a b pos) (tOp r ta tb):=by
 intro pins s σ H Q I h;exact Subscript_ (KS ha hb I h λ v u s2 x y H2 I2 rx ry q=>hr a b pins s2 σ H2 x y v u Q I2 rx ry q (hs _ _))
noncomputable def LN (K:Ni):R2:=λ x y H Q=>∃ p xs i v,x=.ref p/\y=.int i/\SqL K H p xs/\atI xs i=some v/\Q v H
noncomputable def LL (K:Ni):R2:=λ x y H Q=>∃ p xs i v,x=.ref p/\y=.int i/\SqT K H p xs/\atI xs i=some v/\Q v H
noncomputable def LM:R2:=λ x y H Q=>∃ z i c,x=.str z/\y=.int i/\z.length<=No/\atI z.cps.toList i=some c/\Q (.str ⟨#[c]⟩) H
theorem ix_list:IxR X (LN X.K):=by
 intro value slice pins s σ H x y v u Q I rx ry h hs;obtain ⟨p,xs,i,z,rfl,rfl,hq,he,q⟩:=h;cases rx;obtain ⟨t,rfl⟩:=ry;obtain ⟨its,r,pl,hz⟩:=I.list hq;obtain ⟨j,h1,h2,h3,h4,h5⟩:=Bg he;obtain ⟨w,ew,rw'⟩:=r.get h2;have hl:=r.length;have hn:=yq;have fin:EP X pins σ Q w s:=⟨z,H,I,rw',q⟩;by_cases h0:0<=i
 ·have hj:i.toNat=j:=by
   rw [seqIndex_of h0 h5] at h1;exact Option.some.inj h1
  exact item_listR pl.isList h0 (by omega) (by rw [hj]; simpa using ew) fin hs
 ·have hj:(i+(its.toArray.size:Int)).toNat=j:=by
   rw [seqIndex_neg (by omega) h4] at h1;rw [ND,<- hl];exact Option.some.inj h1
  exact subscriptTail_builtinR (x:=w) pl.isList.typeIs slot_list_getitem.lookup
   (wpAny_getItem_list_neg (Q:=λ r s'=>r=w/\EP X pins σ Q r s') pl.isList (by omega) (by rw [ND] <;> omega) (by omega) (by rw [hj]; simpa using ew) ⟨rfl,fin⟩) hs
theorem ix_tup:IxR X (LL X.K):=by
 intro value slice pins s σ H x y v u Q I rx ry h hs;obtain ⟨p,xs,i,z,rfl,rfl,hq,he,q⟩:=h;cases rx;obtain ⟨t,rfl⟩:=ry;obtain ⟨its,r,pl,hz⟩:=I.tuple hq;obtain ⟨j,h1,h2,h3,h4,h5⟩:=Bg he;obtain ⟨w,ew,rw'⟩:=r.get h2;have hl:=r.length;have hn:=yq;have fin:EP X pins σ Q w s:=⟨z,H,I,rw',q⟩;exact subscriptTail_builtinR (x:=w) pl.typeIs slot_tuple_getitem.lookup
  (getItem_tuple (j:=j) (Q:=λ r s'=>r=w/\EP X pins σ Q r s') pl (by omega) (by omega) (by rw [ND,<- hl]; exact h1) (by simpa using ew) ⟨rfl,fin⟩) hs
theorem KH:IxR X LM:=by
 intro value slice pins s σ H x y v u Q I rx ry h hs;obtain ⟨z,i,c,rfl,rfl,hz,he,q⟩:=h;obtain ⟨t,rfl⟩:=rx;obtain ⟨t',rfl⟩:=ry;obtain ⟨j,h1,h2,h3,h4,h5⟩:=Bg he;have hl:z.cps.toList.length=z.length:=by simp [Str.length]
 rw [hl] at h1 h4 h5;have hn:=yq;exact tail_any (typeIs_str s z t) slot_str_getitem.lookup (getItem_str (c:=c) (by
  have e1:decide (i < -(2 ^ 63:Int))=false:=decide_eq_false (by omega);have e2:decide (i ≥ 2 ^ 63)=false:=decide_eq_false (by omega);rw [e1,e2,Bool.or_false]) (by rw [h1]; simpa using h2) ⟨.str ⟨#[c]⟩,H,I.tok _,⟨_,rfl⟩,q⟩) hs
noncomputable def rIx (K:Ni):R2:=λ x y H Q=>LN K x y H Q\/LL K x y H Q\/LM x y H Q
theorem GA:IxR X (rIx X.K):=ix_list.or (ix_tup.or KH)
theorem Ai (lo hi:Option Int) (n:Nat):(sliceBounds lo hi none n).1=((HT.sIx n 0 lo:Nat):Int)/\(sliceBounds lo hi none n).2.1=((HT.sIx n n hi:Nat):Int)/\(sliceBounds lo hi none n).2.2=1:=by
 refine ⟨?_,?_,rfl⟩
 ·cases lo with
  | none=>simp [sliceBounds,HT.sIx]
  | some i =>
   simp only [sliceBounds,HT.sIx,Option.getD_none,show (1:Int) > 0 by decide,if_true];by_cases h:i < 0
   ·simp only [h,if_true] <;> omega
   ·simp only [h,if_false] <;> omega
 ·cases hi with
  | none=>simp [sliceBounds,HT.sIx]
  | some i =>
   simp only [sliceBounds,HT.sIx,Option.getD_none,show (1:Int) > 0 by decide,if_true];by_cases h:i < 0
   ·simp only [h,if_true] <;> omega
   ·simp only [h,if_false] <;> omega
theorem y4 (its:List Nq) (lo hi:Option Int):slicePick its.toArray lo hi none=((its.drop (HT.sIx its.length 0 lo)).take (HT.sIx its.length its.length hi - HT.sIx its.length 0 lo)).toArray:=by
 obtain ⟨h1,h2,h3⟩:=Ai lo hi its.toArray.size;unfold slicePick;rw [h1,h2,h3];simp only [sliceRange_one,pick_run,ND] <;> rfl
noncomputable def LJ (K:Ni):V->Option Int->Option Int->Hp->VK->Prop:=λ x lo hi H Q=>∃ a xs,x=.ref a/\SqL K H a xs/\∀ p,H p=none->Q (.ref p) (upd H p (.lst (xk xs lo hi)))
theorem sl_list:SlR X (LJ X.K):=by
 intro pins s σ H x v vl vu lo hi sl Q I rx hs pl pu h;obtain ⟨a,xs,rfl,hx,q⟩:=h;cases rx;obtain ⟨its,r,ht,hz⟩:=I.list hx;have hlen:=r.length;refine ⟨"list", _,slot_list_getitem.lookup,ht.isList.typeIs,?_⟩;refine wpAny_getItem_list_slice ht.isList hs pl pu .none (by simp) ?_ (by rw [ND] <;> omega);rw [y4,<- hlen];refine ⟨.ref s.heap.objs.size,_,I.laid (t':=s.toks) (o:=.lst (xk xs lo hi)) (λ b ob q=>Nv _ q) (Np _) ?_,rfl,q _ (I.hok.fresh (Np _))⟩;exact ⟨NL (wI xs lo hi) hz,_,0,(r.drop (HT.sIx xs.length 0 lo)).take (HT.sIx xs.length xs.length hi - HT.sIx xs.length 0 lo),NX _ rfl⟩
noncomputable def uu:V->Bool
 | .non=>true
 | .bl _=>true
 | .int _=>true
 | .str _=>true
 | _=>false
noncomputable def eqV:V->V->Bool
 | .non,.non=>true
 | .bl a,.bl b=>a==b
 | .bl a,.int b=>(if a then 1 else 0)==b
 | .int a,.bl b=>a==(if b then 1 else 0)
 | .int a,.int b=>a==b
 | .str a,.str b=>a==b
 | _,_=>false
theorem KN {A:Oh} {s:Nu} {y x:V} {u v:Nq} (ry:RelV y u) (rx:RelV x v) (fy:uu y=true) (fx:uu x=true):SeqAt.EqAt A s u v (eqV y x):=by
 cases y with
 | non =>
  cases ry;cases x with
  | non=>cases rx; exact SeqAt.EqAt.same _
  | bl b=>cases rx; exact SeqAt.EqAt.none_bool b
  | int b=>obtain ⟨t,rfl⟩:=rx; exact SeqAt.EqAt.none_int b t
  | str b=>obtain ⟨t,rfl⟩:=rx; exact SeqAt.EqAt.none_str b t
  | _=>exact absurd (show false=true from fx) NE
 | bl a =>
  cases ry;cases x with
  | non=>cases rx; exact SeqAt.EqAt.bool_none a
  | bl b=>cases rx; exact SeqAt.EqAt.bool_bool a b
  | int b=>obtain ⟨t,rfl⟩:=rx; exact SeqAt.EqAt.bool_int a b t
  | str b=>obtain ⟨t,rfl⟩:=rx; exact SeqAt.EqAt.bool_str a b t
  | _=>exact absurd (show false=true from fx) NE
 | int a =>
  obtain ⟨t',rfl⟩:=ry;cases x with
  | non=>cases rx; exact SeqAt.EqAt.int_none a t'
  | bl b=>cases rx; exact SeqAt.EqAt.int_bool a t' b
  | int b=>obtain ⟨t,rfl⟩:=rx; exact SeqAt.EqAt.int_int a t' b t
  | str b=>obtain ⟨t,rfl⟩:=rx; exact SeqAt.EqAt.int_str a t' b t
  | _=>exact absurd (show false=true from fx) NE
 | str a =>
  obtain ⟨t',rfl⟩:=ry;cases x with
  | non=>cases rx; exact SeqAt.EqAt.str_none a t'
  | bl b=>cases rx; exact SeqAt.EqAt.str_bool a t' b
  | int b=>obtain ⟨t,rfl⟩:=rx; exact SeqAt.EqAt.str_int a t' b t
  | str b=>obtain ⟨t,rfl⟩:=rx; exact SeqAt.EqAt.str_str a t' b t
  | _=>exact absurd (show false=true from fx) NE
 | _=>exact absurd (show false=true from fy) NE
noncomputable def eqU (x:V) (u:Nq):Bool:=match u with
 | .none=>eqV .non x
 | .bool b=>eqV (.bl b) x
 | .int i _=>eqV (.int i) x
 | .str z _=>eqV (.str z) x
 | _=>false
theorem GJ {x y:V} {u:Nq} (r:RelV y u) (f:uu y=true):eqU x u=eqV y x:=by
 cases y with
 | non=>cases r; rfl
 | bl b=>cases r; rfl
 | int i=>obtain ⟨t,rfl⟩:=r; rfl
 | str z=>obtain ⟨t,rfl⟩:=r; rfl
 | _=>exact absurd (show false=true from f) NE
theorem vM {x:V}:∀ {xs:List V} {us:List Nq},Vals xs us->xs.all uu=true->us.any (eqU x)=xs.any λ y=>eqV y x
 | _,_,.nil,_=>rfl
 | y::xs,u::us,.cons r t,f=>by
  rw [OR,Ol] at f;rw [Oz,Oz,GJ r f.1,vM t f.2]
theorem rM {A:Oh} {s:Nu} {x:V} {v:Nq} (rx:RelV x v) (fx:uu x=true):∀ {xs:List V} {us:List Nq},Vals xs us->xs.all uu=true->∀ u∈us,SeqAt.EqAt A s u v (eqU x u)
 | _,_,.nil,_=>λ u hu=>by cases hu
 | y::xs,u::us,.cons r t,f=>λ u' hu=>by
  rw [OR,Ol] at f;rcases NO.mp hu with rfl | hu
  ·rw [GJ r f.1]; exact KN r rx f.1 fx
  ·exact rM rx fx t f.2 u' hu
noncomputable def inV (x:V) (xs:List V):Bool:=xs.any λ y=>eqV y x
noncomputable def rIn (K:Ni) (neg:Bool):R2:=λ x y H Q=>∃ p xs,y=.ref p/\(SqL K H p xs\/SqT K H p xs)/\uu x=true/\xs.all uu=true/\Q (.bl (if neg then !inV x xs else inV x xs)) H
theorem op_in_seq:OpR X (On .In) (rIn X.K false):=by
 intro pins s σ H x y v u Q I rx ry h;obtain ⟨p,xs,rfl,hq,fx,fs,q⟩:=h;cases ry;rcases hq with hq | hq
 ·obtain ⟨its,r,pl,hz⟩:=I.list hq;refine SeqAt.in_listAt (eqU x) pl.isList (λ w hw=>rM rx fx r fs w (by simpa using hw)) ⟨.bl _,H,I,rfl,?_⟩;rw [show its.toArray.any (eqU x)=its.any (eqU x) by simp,vM r fs];exact q
 ·obtain ⟨its,r,pl,hz⟩:=I.tuple hq;refine SeqAt.in_tupleAt (eqU x) pl (λ w hw=>rM rx fx r fs w (by simpa using hw)) ⟨.bl _,H,I,rfl,?_⟩;rw [show its.toArray.any (eqU x)=its.any (eqU x) by simp,vM r fs];exact q
theorem op_notIn_seq:OpR X (On .NotIn) (rIn X.K true):=by
 intro pins s σ H x y v u Q I rx ry h;obtain ⟨p,xs,rfl,hq,fx,fs,q⟩:=h;cases ry;rcases hq with hq | hq
 ·obtain ⟨its,r,pl,hz⟩:=I.list hq;refine SeqAt.notIn_listAt (eqU x) pl.isList (λ w hw=>rM rx fx r fs w (by simpa using hw)) ⟨.bl _,H,I,rfl,?_⟩;rw [show its.toArray.any (eqU x)=its.any (eqU x) by simp,vM r fs];exact q
 ·obtain ⟨its,r,pl,hz⟩:=I.tuple hq;refine SeqAt.notIn_tupleAt (eqU x) pl (λ w hw=>rM rx fx r fs w (by simpa using hw)) ⟨.bl _,H,I,rfl,?_⟩;rw [show its.toArray.any (eqU x)=its.any (eqU x) by simp,vM r fs];exact q
theorem AC:OpR X (On .NotIn) (λ x y H Q=>∃ i j,x=.str i/\y=.str j/\Q (.bl (!(!(Builtin.Str.occurrences j i 0 j.length 1).isEmpty))) H):=by
 intro pins s σ H x y v u Q I rx ry h;obtain ⟨i,j,rfl,rfl,q⟩:=h;obtain ⟨t,rfl⟩:=rx;obtain ⟨t',rfl⟩:=ry;exact notIn_str ⟨.bl _,H,I,rfl,q⟩
theorem call_len_seq:CallR X (.builtin "len") (λ xs H Q=>∃ p ys,xs=[.ref p]/\(SqL X.K H p ys\/SqT X.K H p ys)/\Q (.int ys.length) H):=by
 intro pins s σ H xs us Q I r h;obtain ⟨p,ys,rfl,hq,q⟩:=h;obtain ⟨u,rfl,rx⟩:=qv r;cases rx;have hn:=yq;rcases hq with hq | hq
 ·obtain ⟨its,r',pl,hz⟩:=I.list hq;have hlen:=r'.length;exact Calls.call_len_list pl.isList (by simp only [ND] <;> omega) ⟨.int ys.length,H,I.tok _,⟨s.toks+1,by rw [ND,hlen]⟩,q⟩
 ·obtain ⟨its,r',pl,hz⟩:=I.tuple hq;have hlen:=r'.length;exact len_tuple pl (by simp only [ND] <;> omega) ⟨.int ys.length,H,I.tok _,⟨s.toks+1,by rw [ND,hlen]⟩,q⟩
theorem A8:CallR X (.builtin "len") (λ xs H Q=>∃ z,xs=[.str z]/\z.length<=No/\Q (.int z.length) H):=by
 intro pins s σ H xs us Q I r h;obtain ⟨z,rfl,hz,q⟩:=h;obtain ⟨u,rfl,t,rfl⟩:=qv r;have hn:=yq;exact len_str (by omega) ⟨.int z.length,H,I.tok _,⟨_,rfl⟩,q⟩
theorem CallR.or {f:Nq} {r r':List V->Hp->VK->Prop} (h:CallR X f r) (h':CallR X f r'):CallR X f (λ xs H Q=>r xs H Q\/r' xs H Q):=by
 intro pins s σ H xs us Q I rs q;rcases q with q | q
 ·exact h pins s σ H xs us Q I rs q
 ·exact h' pins s σ H xs us Q I rs q
theorem uw:CallR X (.type "tuple") (λ xs H Q=>∃ p ys,xs=[.ref p]/\((SqL X.K H p ys/\∀ l,H l=none->Q (.ref l) (upd H l (.tup ys)))\/(SqT X.K H p ys/\Q (.ref p) H))):=by
 intro pins s σ H xs us Q I r h;obtain ⟨p,ys,rfl,h⟩:=h;obtain ⟨u,rfl,rx⟩:=qv r;cases rx;rcases h with ⟨hq,q⟩ | ⟨hq,q⟩
 ·obtain ⟨its,r',pl,hz⟩:=I.list hq;have hlen:=r'.length;refine call_tuple_list pl.isList (λ h' kp=>?_) (by simp only [ND] <;> omega);have I1:Inv X pins σ H { s with heap:=h' }:=I.kept (t':=s.toks) kp;have I2:Inv X pins σ (upd H h'.objs.size (.tup ys)) { s with heap:=h'.push { cls:=.type "tuple", data:=.seq its.toArray } } :=
   I1.laid (t':=s.toks) (λ b o e=>Nv _ e) (Np _) (show ObjOk X.prog X.w _ _ _ (.tup ys) from ⟨hz,its,r',IsTup.new _ _⟩)
  exact ⟨.ref h'.objs.size,_,I2,rfl,q _ (I1.hok.fresh (Np _))⟩
 ·obtain ⟨its,r',pl,hz⟩:=I.tuple hq;exact call_tuple_same pl ⟨.ref p,H,I,rfl,q⟩
noncomputable def tyV (K:Ni) (T:String) (x:V) (H:Hp):Prop:=match x with
 | .str _=>T = "str"
 | .int _=>T = "int"
 | .ref p=>(T = "list" /\ ∃ xs,SqL K H p xs)\/(T = "tuple" /\ ∃ o,K.lookup p=some o/\o.cls=.type "tuple" /\ o.dict=none) \/
   (T = "dict" /\ ((∃ kvs,H p=some (.dK kvs))\/∃ kvs,H p=some (.dT kvs)))\/(T = "set" /\ ∃ S n,H p=some (.set S n))
 | _=>False
theorem JU {pins:List (NI×Obj)} {σ:St} {H:Hp} {s:Nu} {T:String} {x:V} {v:Nq} (I:Inv X pins σ H s) (r:RelV x v) (ty:tyV X.K T x H) :
  s.TypeIs v T/\∀ a,v=.ref a->∃ ob,s.heap.get? a=some ob/\ob.dict=none:=by
 cases x with
 | str z =>
  obtain ⟨t,rfl⟩:=r;cases (show T = "str" from ty);exact ⟨typeIs_str s z t,λ _ e=>nomatch e⟩
 | int i =>
  obtain ⟨t,rfl⟩:=r;cases (show T = "int" from ty);exact ⟨typeIs_int s i t,λ _ e=>nomatch e⟩
 | ref p =>
  cases r;rcases ty with ⟨rfl,xs,hq⟩ | ⟨rfl,o,hk,hc,hd⟩ | ⟨rfl,hk⟩ | ⟨rfl,S,n,hk⟩
  ·obtain ⟨its,_,pl,_⟩:=I.list hq;refine ⟨pl.isList.typeIs,λ a e=>?_⟩;cases e;obtain ⟨o,n,e,c,hd,_⟩:=pl;exact ⟨o,e,hd⟩
  ·refine ⟨⟨o,I.kIn p o hk,hc⟩,λ a e=>?_⟩;cases e;exact ⟨o,I.kIn _ o hk,hd⟩
  ·have z:∃ o,s.heap.get? p=some o/\o.ExactDict:=by
    rcases hk with ⟨kvs,hk⟩ | ⟨kvs,hk⟩
    ·obtain ⟨_,_,_,_,o,_,_,e,ex,_⟩:=I.hok p _ hk;exact ⟨o,e,ex⟩
    ·obtain ⟨_,_,_,_,o,_,_,e,ex,_⟩:=I.hok p _ hk;exact ⟨o,e,ex⟩
   obtain ⟨o,e,ex⟩:=z;refine ⟨⟨o,e,ex.1⟩,λ a e2=>?_⟩;cases e2;exact ⟨o,e,ex.2.1⟩
  ·obtain ⟨o,_,_,_,e,ex,_⟩:=I.hok p _ hk;refine ⟨⟨o,e,ex.1⟩,λ a e2=>?_⟩;cases e2;exact ⟨o,e,ex.2.1⟩
 | _=>exact False.elim ty
noncomputable def tBM (K:Ni) (T:String) (r:V->List V->Hp->VK->Prop) (to:TE) (t:TA):TE:=λ σ H Q=>to σ H λ x H1=>tyV K T x H1/\t σ H1 λ xs H2=>r x xs H2 Q
variable {o e:Expr} {es:List Expr} {to:TE} {t:TA} {name:Str} {apos cpos:Pos} {T id:String} {r:V->List V->Hp->VK->Prop}
theorem DP (pa:PlainAttrs T) (slot:Slot T name id) (hty:typeOf (.builtin id)=pure (.type "method_descriptor")) (hm:MtR X id r) (ho:PE X o to) (ha:PA X (e::es) t)
  (hbase:attributeBase o name X.env (eval o X.env)=eval o X.env:=by rfl)
  (hfew:((backTo cpos (Nw (e::es) X.env)).all (λ x=>!x.1)&&(backToKw cpos (keywordEach [] X.env)).all (λ x=>x.1.isSome)
   && decide ((e::es).length+([]:List Keyword).length+(if ([]:List Keyword).isEmpty then 0 else 1) < 30))=true:=by rfl)
  (hline:(apos.endLine==cpos.line)=true:=by rfl) (hs:Nw (e::es) X.env=(false,eval e X.env)::Nw es X.env:=by rfl) (hplain:(backTo cpos (Nw es X.env)).any (·.1)=false:=by rfl) :
  PE X (.Call (.Attribute o name apos) (e::es) [] cpos) (tBM X.K T r to t):=by
 intro pins s σ H Q I h;refine wpAny_Call_method_late hbase hfew hline rfl (thn (ho pins s σ H _ I h) λ v s1 ⟨x,H1,I1,r1,ty,q1⟩=>?_);obtain ⟨h1,h2⟩:=JU I1 r1 ty;refine ⟨T,id,pa,slot,hty,h1,h2,?_⟩;have hA:=ha cpos pins s1 σ H1 _ I1 q1;rw [hs] at hA ⊢;refine Calls.callWith_builtin (by show (false||(backTo cpos (Nw es X.env)).any (·.1))=false; rw [hplain] <;> rfl) (Calls.evalArgs_plain ?_);exact thn hA λ us s2 ⟨vs,H2,I2,r2,q2⟩=>hm pins s2 σ H2 x vs v us Q I2 r1 r2 q2
end
noncomputable def MtM (X:Cx) (id:String) (r:V->List V->Hp->VK->Prop):Prop :=
 ∀ (pins:List (NI×Obj)) (s:Nu) (σ:St) (H:Hp) (x:V) (xs:List V) (v:Nq) (us:List Nq) (Q:VK),Inv X pins σ H s->RelV x v->Vals xs us->r x xs H Q ->
  N7 (N9 X.prog X.w) X.A (call (.builtin id) (v::us)) (EP X pins σ Q) X.xe s
theorem Vals.one:∀ {x:V} {us:List Nq},Vals [x] us->∃ u,us=[u]/\RelV x u
 | _,_,.cons r .nil=>⟨_,rfl,r⟩
theorem Vals.reverse {xs:List V} {us:List Nq} (h:Vals xs us):Vals xs.reverse us.reverse:=by
 induction h with
 | nil=>exact .nil
 | cons r t ih=>rw [Pd,Pd]; exact Vals.append ih (.cons r .nil)
theorem Vals.rep {xs:List V} {us:List Nq} (h:Vals xs us):∀ k:Nat,Vals (NV k xs).flatten (NV k us).flatten
 | 0=>.nil
 | k+1=>by
  rw [OC,OC,OS,OS];exact Vals.append h (Vals.rep h k)
theorem zY (its:List Nq):∀ (k:Nat) (acc:List Nq),List.foldl (λ x1 x2=>x1++x2) acc.toArray (NV k its.toArray)=(acc++(NV k its).flatten).toArray
 | 0,acc=>by simp
 | k+1,acc=>by
  have e:acc.toArray++its.toArray=(acc++its).toArray:=by simp
  have e2:(acc++its)++(NV k its).flatten=acc++(NV (k+1) its).flatten:=by
   rw [OC,OS,NP]
  rw [<- e2,<- zY its k (acc++its),<- e,OC,N2]
section
variable {X:Cx} {pins:List (NI×Obj)} {σ:St} {H:Hp} {s:Nu} {l b:NI} {xs ys zs:List V}
theorem Inv.lset {its its':List Nq} {n:Nat} {f:Array Nq->Array Nq} {t':Nat} (I:Inv X pins σ H s) (hH:H l=some (.lst xs))
  (e:s.heap.get? l=some { cls:=.type "list", data:=.seq its.toArray n }) (hf:f its.toArray=its'.toArray) (hv:Vals ys its') (hz:ys.length<=No) :
  Inv X pins σ (upd H l (.lst ys)) { s with heap:=s.heap.update l (Obj.mapSeq f),toks:=t' }:=by
 have q:=PySem.IsL.update e f;rw [hf] at q;refine I.write (x:=l) (e:=l) (by rw [hH]; exact trivial) (.inl rfl) (λ b' u hb hu=>(Heap.get?_update_other s.heap (Obj.mapSeq f) (Ne.symm hb)).trans hu) ⟨_,q⟩ ?_;exact ⟨hz,its',_,hv,q⟩
theorem Inv.lnew {its:List Nq} {t':Nat} (I:Inv X pins σ H s) (hv:Vals ys its) (hz:ys.length<=No) :
  Inv X pins σ (upd H s.heap.objs.size (.lst ys)) { s with heap:=s.heap.push { cls:=.type "list", data:=.seq its.toArray },toks:=t' } :=
 I.laid (λ _ _ q=>Nv _ q) (Np _) ⟨hz,its,0,hv,NX _ rfl⟩
theorem Inv.fresh (I:Inv X pins σ H s):H s.heap.objs.size=none:=I.hok.fresh (Np _)
theorem Inv.lstM (I:Inv X pins σ H s) (hH:H l=some (.lst xs)):xs.length<=No/\∃ (its:List Nq) (n:Nat),Vals xs its/\xs.length=its.length/\s.heap.get? l=some { cls:=.type "list", data:=.seq its.toArray n }:=by
 obtain ⟨z,its,n,r,e⟩:=I.hok l _ hH;exact ⟨z,its,n,r,r.length,e⟩
theorem BL {n:Nat} (h:n<=No):Builtin.List.listTooLong n=false:=by
 unfold Builtin.List.listTooLong;exact decide_eq_false (by omega)
end
section
variable {X:Cx}
noncomputable def HV:V->List V->Hp->VK->Prop:=λ x vs H Q=>∃ l xs y,x=.ref l/\vs=[y]/\H l=some (.lst xs)/\xs.length < No/\Q .non (upd H l (.lst (xs++[y])))
theorem v9:MtM X "list.append" HV:=by
 intro pins s σ H x vs v us Q I rx rv h;obtain ⟨l,xs,y,rfl,rfl,hH,hz,q⟩:=h;cases rx;obtain ⟨u,rfl,ru⟩:=rv.one;obtain ⟨z,its,n,r,hl,e⟩:=I.lstM hH;refine call_meets F.slot_list_append ⟨_,e,rfl⟩ F.entry_list_append (F.args_list_append_2 _ _) (PySem.list_append l its.toArray n u (by rw [ND]; omega)) ⟨e,?_⟩;refine ⟨.non,_,I.lset (its':=its++[u]) hH e (by simp) (r.append (.cons ru .nil)) ?_,rfl,q⟩;rw [Nn,OF];omega
noncomputable def MZ:R2:=λ x y H Q=>∃ l k xs,x=.ref l/\y=.int k/\H l=some (.lst xs)/\-(2 ^ 63)<=k/\k < 2 ^ 63/\xs.length*k.toNat<=No /\
 ∀ p,H p=none->Q (.ref p) (upd H p (.lst (NV k.toNat xs).flatten))
theorem IF {α:Type} (xs:List α) (k:Nat):(NV k xs).flatten.length=k*xs.length:=by
 induction k with
 | zero=>simp
 | succ k ih=>rw [OC,OS,Nn,ih,Nat.succ_mul,Nat.add_comm]
theorem Kl:OpR X (binaryOp .Mult) MZ:=by
 intro pins s σ H x y v u Q I rx ry h;obtain ⟨l,k,xs,rfl,rfl,hH,h1,h2,hz,q⟩:=h;cases rx;obtain ⟨t,rfl⟩:=ry;obtain ⟨z,its,n,r,hl,e⟩:=I.lstM hH;have hlen:its.toArray.size*k.toNat<=No:=by rw [ND,<- hl]; exact hz
 have hcap:¬ its.toArray.size*k.toNat > (2 ^ 63 - 1) / 8:=by
  have:(No:Nat)<=(2 ^ 63 - 1) / 8:=by decide
  omega
 have hfit:¬ (!Builtin.List.listFitsIndex k)=true:=by
  rw [fitsIndex_both h1 h2];exact NE
 have hlong:¬ Builtin.List.listTooLong (its.toArray.size*k.toNat)=true:=by
  rw [BL hlen];exact NE
 have hnew:List.foldl (λ x1 x2=>x1++x2) #[] (NV (if its.toArray.isEmpty=true then 0 else k.toNat) its.toArray)=(NV k.toNat its).flatten.toArray:=by
  have f0:∀ m:Nat,List.foldl (λ x1 x2=>x1++x2) #[] (NV m its.toArray)=(NV m its).flatten.toArray:=λ m=>by
   have:=zY its m []
   rw [List.nil_append] at this;exact this
  rw [f0];cases its with
  | nil=>simp
  | cons a r'=>rw [if_neg (by simp)]
 refine wpAny_binaryOp_repeat_ref (T := "list") (U := "int") (by decide) ⟨_,e,rfl⟩ (λ s'=>typeIs_int s' k t) noFill_list_mul F.fills_int_mul F.slot_int_rmul repeat_list F.slot_int_index.lookup
  (call_meets F.slot_int_rmul (typeIs_int s k t) F.entry_int_rmul (F.args_int_rmul_2 _ _) (int___rmul___int_list k t l its.toArray n)
   ⟨e,rfl,⟨_,e,rfl⟩,call_meets F.slot_list_mul ⟨_,e,rfl⟩ F.entry_list_mul (F.args_list_mul_2 _ _) (AutoListH.list___mul___list_int_3 l its.toArray n k t hfit hcap hlong) ⟨e,?_⟩⟩)
 rw [hnew];exact ⟨.ref _,_,I.lnew (t':=s.toks) (r.rep k.toNat) (by rw [IF,Nat.mul_comm]; exact hz),rfl,q _ I.fresh⟩
end
end L2
namespace Att
open PySem PySem.W PySem.Calls PyProof.Rows
theorem xi {P:Params} {h:Heap}:∀ (ns:List Int) (vs:List Nq),WellAll P h vs (ns.map WData.int)->IntsAre vs ns:=by
 intro ns
 induction ns with
 | nil =>
  intro vs w;rw [List.map_nil] at w;cases w;exact .nil
 | cons n ns ih =>
  intro vs w;rw [Ny] at w;cases w with
  | cons a b =>
   cases a;exact .cons _ _ (ih _ b)
theorem EA {l:OpenLaw} {n:Nat} (hn:l.most=some n) {P:Params} {h:Heap} {args:List WData} {vals:List Nq}
  (hpre:l.row.toRowW.claim.pre args=true) (hwl:WellAll P h vals args) :
  ∃ a vs ns,vals=[Value.ref a]/\args=[WData.list (ns.map WData.int)]/\h.get? a=some { cls:=.type "list", data:=.seq vs.toArray }/\IntsAre vs ns/\ns.length<=n:=by
 have hsh:WShape.hasAll [] args [.list .int]=true:=(pre_splitW hpre).1;have hc:l.pre.holds [] { args:=args }=true:=(pre_splitW hpre).2;obtain ⟨d,r,rfl,h1,h2⟩:=hasAllW_cons hsh;obtain rfl:=hasAllW_nil h2;obtain ⟨xs,rfl,h3⟩:=hasW_list h1;obtain ⟨ns,rfl⟩:=items_int h3;have hlen:ns.length<=n:=by
  unfold OpenLaw.pre at hc;have h4:(WTm.not (.lt (.lit (.int (n:Int))) (.len (.arg 0)))).holds [] { args:=[.list (ns.map .int)] }=true:=by
   have h4:=(holds_andW hc).1;rw [hn] at h4;exact h4
  have h5:=condW_of h4 (w_not (w_lt w_lit (w_len_list (w_arg rfl))));rw [Nl] at h5;refine Nat.le_of_not_lt λ q=>?_;have q':(n:Int) < ((ns.length:Nat):Int):=by omega
  first
   | (rw [decide_eq_true q'] at h5; exact absurd h5 (by decide))
   | (simp at h5; omega)
 cases hwl with
 | cons w1 w2 =>
  cases w2;cases w1 with
  | list ho hall=>exact ⟨_,_,ns,rfl,rfl,ho,xi ns _ hall,hlen⟩
theorem EE (l:OpenLaw) (args:List WData):l.row.toRowW.claim.post args (.bool true) args=true :=
 postW_of (r:=l.row.toRowW) (X:=(true==true))
  (show WShape.has [] (.bool true) .bool=true by first | rfl | decide | simp [WShape.has,WShape.arms,WShape.armsAll])
  (show (WTm.eq .res (.lit (.bool true))).value [] { args:=args,res:=some (.bool true),after:=args }=some (.bool (true==true)) from w_eq_bool (w_res rfl) w_lit) rfl
theorem attach_call {l:OpenLaw} {n:Nat} {q:NT} {loose:List Str} {XP:(Str->Option Nq)->Heap->Prop} {YP:World->Heap->Prop} {d:DefRec}
  (hn:l.most=some n) (hdf:d.params.defaults=[])
  (call:∀ (w:World) (s₀ s₁:Nu) (mg mb:Str->Option Nq) (fa:NI) (o:Obj) (pm cd doc:Nq) (a:NI) (vs:List Nq) (ns:List Int),Ground q loose [] XP w s₀ mg mb s₁.heap->YP w s₁.heap ->
   s₁.heap.get? fa=some o->o.data=.func (docDef d.name d.params d.body d.scope pm cd doc)->s₁.heap.CodeRec cd d.name->mg d.name=some (.ref fa) ->
   s₁.heap.get? a=some { cls:=.type "list", data:=.seq vs.toArray }->IntsAre vs ns->ns.length<=n->s₁.gens=#[] ->
   codeAny (N9 l.prog w) callerA (.call (.ref fa) ⟨[.ref a],[]⟩) (λ r s'=>r=.ok (.ret (.bool true))/\OldK s₁.heap s'.heap/\s'.os=s₁.os/\AllBare s'.gens) s₁) :
  WalkO q loose XP YP l.row.toRowW d [] (λ f vs=>PySem.call f vs):=by
 intro w s₀ s₁ mg mb G Y fa o pm cd doc dV kV ho hd hcd hD hmg hg args vals as hpre hlay hrd hwl hlo;obtain rfl:dV=.none:=Dflts.none hD hdf;obtain rfl:kV=.none:=Dflts.noKw hD;obtain ⟨a,vs,ns,rfl,rfl,hobj,hints,hlen⟩:=EA hn hpre hwl;refine enter_call (codeAny_mono (call w s₀ s₁ mg mb fa o pm cd doc a vs ns G Y ho (fd_plain hd) hcd hmg hobj hints hlen hg) λ r s' hq=>?_);obtain ⟨rfl,h2,h3,h4⟩:=hq;exact ⟨.inl ⟨.bool true,.bool true,[],rfl,λ _=>rfl,.bool true,EE l _,λ _=>⟨List.Pairwise.nil,λ _ hm=>(nomatch hm)⟩⟩,h2,h3,h4⟩
section
variable {prog:NT} {w:World} {A:Oh} {E:Nq->Nu->Prop} {s:Nu} {K:Frag}
end
end Att
namespace L2
open PySem PySem.Spec PyProof.Rows
theorem vV:∀ {vs:List Nq} {ns:List Int},IntsAre vs ns->Vals (ns.map V.int) vs
 | _,_,.nil=>.nil
 | _,_,.cons n t h=>.cons ⟨t,rfl⟩ (vV h)
noncomputable def Only (H:Hp):Prop:=∀ b,H b=none\/∃ o xs,H b=some (.frz o (.lst xs))
theorem Gx {P:NT} {w:World} {K:Ni} {mg mb:Str->Option Nq} {CX:CXT} {k:Nat} {fa a:NI} {fd:Oo} {x:Str} {sp:Sp} {s₁:Nu} {vs:List Nq} {ns:List Int}
  (KX:K.In s₁.heap) (hns:s₁.heap.Ns mainGlobals mg) (hb:s₁.heap.Ns builtinsNs mb) (hbb:∀ x:Str,x ≠ "__name__" -> mb x=bootBuiltins x) (hlim:s₁.heap.NoLimit) (hg:s₁.gens=#[])
  (ha:s₁.heap.get? a=some { cls:=.type "list", data:=.seq vs.toArray }) (hi:IntsAre vs ns) (hl:ns.length<=No) (hr:Room k callerA)
  (F:∀ base:Heap,K.In base->base.Ns mainGlobals mg->FnOk P w K mg base CX k fa fd [x] sp) (hbind:∀ (s:Nu) (u:Nq),BindsTo s fd ⟨[u],[]⟩ [(x,u)])
  (hsp:∀ H:Hp,Only H->SqL K H a (ns.map V.int)->sp [.ref a] H (λ v _=>v=.bl true) λ _ _ _=>False)
  (hCX:∀ H e s',CX [] H s₁ (λ _ _ _=>False) e s'->False) :
  codeAny (N9 P w) callerA (.call (.ref fa) ⟨[.ref a],[]⟩) (λ r s'=>r=.ok (.ret (.bool true))/\OldK s₁.heap s'.heap/\s'.os=s₁.os/\AllBare s'.gens) s₁:=by
 have rv:=vV hi;have lenV:=hi.length;have core:∀ H:Hp,Only H->SqL K H a (ns.map V.int)->HOk P w H s₁.heap->(∀ b,H b≠none->b=a)->(H a≠none->K.lookup a=none) ->
   codeAny (N9 P w) callerA (.call (.ref fa) ⟨[.ref a],[]⟩) (λ r s'=>r=.ok (.ret (.bool true))/\OldK s₁.heap s'.heap/\s'.os=s₁.os/\AllBare s'.gens) s₁:=by
  intro H hO hS hok hA hK;have base_of:∀ {b:NI} {o:Obj},s₁.heap.get? b=some o->H b=none->(AV s₁.heap H).get? b=some o:=λ e n=>GD e n;have noA:∀ {b:NI} {o:Obj} {es:Array DictEntry} {ep:Nat},s₁.heap.get? b=some o->o.data=.dict es ep->H b=none:=λ {b o es ep} e d=>by
   cases q:H b with
   | none=>rfl
   | some u =>
    have e':b=a:=hA b (by rw [q]; simp);subst e';rw [ha] at e; cases e;have d':Data.seq vs.toArray _=Data.dict es ep:=d;cases d'
  have nsK:∀ {b:NI} {m:Str->Option Nq},s₁.heap.Ns b m->(AV s₁.heap H).Ns b m:=λ {b m} ⟨o,es,ep,e,d,r⟩=>⟨o,es,ep,base_of e (noA e d),d,r⟩;have hKb:K.In (AV s₁.heap H):=λ b o e=>base_of (KX b o e) (by
   cases q:H b with
   | none=>rfl
   | some u =>
    have e':b=a:=hA b (by rw [q]; simp);subst e';rw [hK (by rw [q]; simp)] at e; cases e)
  have hM:Mod K mg (AV s₁.heap H):=⟨hKb,nsK hns,⟨mb,nsK hb,hbb⟩,let ⟨mc,h1,h2⟩:=hlim; ⟨mc,nsK h1,h2⟩⟩;have e0:Env0 P w K mg (AV s₁.heap H) callerA [] s₁ H:=⟨rfl,hM,λ b o e=>Iq e,Nat.le_of_eq (EZ _ _),trivial,λ b hb=>absurd (show b∈([]:List NI) from hb) (by simp),hok,.of_eq hg⟩;refine codeAny_mono ((F _ hKb (nsK hns)).run callerA [] s₁ H ⟨[.ref a],[]⟩ [.ref a] [.ref a] _ _ hr e0 (hbind s₁ (.ref a)) (.cons rfl .nil) (hsp H hO hS)) λ r s' h=>?_;cases r with
  | error e=>exact (hCX H e s' h).elim
  | ok fl =>
   cases fl with
   | next=>exact False.elim h
   | brk=>exact False.elim h
   | cont=>exact False.elim h
   | ret u =>
    obtain ⟨v,H',os,bare,un,hok',r',q⟩:=h;have q':v=.bl true:=q;subst q';obtain rfl:u=Value.bool true:=r';refine ⟨rfl,OldK.of_keep λ b o e=>?_,os,bare⟩;cases q:H b with
    | none=>exact un.keep b o e q (by intro z; exact absurd (show b∈([]:List NI) from z) (by simp)) (by simp)
    | some u =>
     rcases hO b with z | ⟨ob,xs,z⟩
     ·rw [q] at z; cases z
     ·have z2:=un.frzs b ob _ z;obtain ⟨e1,_⟩:=hok b _ z;obtain ⟨e2,_⟩:=hok' b _ z2;rw [e] at e1; cases e1;exact e2
 cases hk:K.lookup a with
 | some o =>
  have e:=KX a o hk;rw [ha] at e;cases e;refine core (λ _=>none) (λ _=>.inl rfl) (.inr ⟨_,vs.toArray,_,hk,rfl,rfl,rfl,by rw [ND,lenV]; exact hl,by simpa using rv⟩) (λ b u z=>by have z':(none:Option HO)=some u:=z; cases z') (λ b z=>absurd rfl z) λ z=>absurd rfl z
 | none =>
  refine core (λ b=>if b=a then some (.frz { cls:=.type "list", data:=.seq vs.toArray } (.lst (ns.map V.int))) else none) (λ b=>?_) (.inl (.inr ⟨{ cls:=.type "list", data:=.seq vs.toArray },if_pos rfl⟩)) (λ b u z=>?_) (λ b z=>?_) λ _=>hk
  ·by_cases hb:b=a
   ·exact .inr ⟨_,_,if_pos hb⟩
   ·exact .inl (if_neg hb)
  ·by_cases hb:b=a
   ·have z':=(if_pos hb).symm.trans z;cases z';subst hb;exact ⟨ha,by rw [Nl]; exact hl,vs,_,rv,ha⟩
   ·have z':=(if_neg hb).symm.trans z;cases z'
  ·by_cases hb:b=a
   ·exact hb
   ·exact absurd (if_neg hb) z
noncomputable abbrev KOf {K:Ni} {h:Heap} (_:K.In h):Ni:=K
theorem Ht {l:Pf} {n k:Nat} {q:NT} {loose:List Str} {XP:(Str->Option Nq)->Heap->Prop} {YP:World->Heap->Prop} {d:DefRec} {K:Params->Ni} {CX:World->CXT} {sp:World->Sp} {x:Str}
  (hn:l.most=some n) (hn2:n<=No) (hdf:d.params.defaults=[]) (hr:Room k callerA)
  (hY:∀ (w:World) (h:Heap),YP w h->(K w.params).In h)
  (F:∀ (w:World) (mg:Str->Option Nq) (fa:NI) (h:Heap),(K w.params).In h->h.Ns mainGlobals mg->mg d.name=some (.ref fa) ->
   ∃ fd:Oo,(∀ (s:Nu) (u:Nq),BindsTo s fd ⟨[u],[]⟩ [(x,u)]) /\
    ∀ base:Heap,(K w.params).In base->base.Ns mainGlobals mg->FnOk l.prog w (K w.params) mg base (CX w) k fa fd [x] (sp w))
  (hsp:∀ (w:World) (H:Hp) (a:NI) (ns:List Int),ns.length<=n->Only H->SqL (K w.params) H a (ns.map V.int)->sp w [.ref a] H (λ v _=>v=.bl true) λ _ _ _=>False)
  (hCX:∀ (w:World) (H:Hp) (s:Nu) (e:Nq) (s':Nu),CX w [] H s (λ _ _ _=>False) e s'->False) :
  Pu q loose XP YP l.row.toRowW d [] (λ f vs=>PySem.call f vs):=by
 refine Att.attach_call hn hdf λ w s₀ s₁ mg mb fa o pm cd doc a vs ns G Y ho hd hcd hmg hobj hints hlen hg=>?_;have KX:=hY w _ Y;obtain ⟨fd,hb,hF⟩:=F w mg fa _ KX G.T.g hmg;exact Gx KX G.T.g G.T.b G.T.builtins G.T.nolimit hg hobj hints (NL hlen hn2) hr hF hb (λ H hO hS=>hsp w H a ns hlen hO hS) λ H e s'=>hCX w H s₁ e s'
noncomputable def dS (s:Stmt) (j:Nat):Stmt:=match s with
 | .ClassDef _ _ _ body _ _ _ _ _ _ _=>body.getD j (.Pass ⟨0,0,0,0⟩)
 | _=>.Pass ⟨0,0,0,0⟩
noncomputable def xA (s:Stmt):Arguments:=match s with
 | .FunctionDef _ a _ _ _ _ _ _ _ _=>a
 | _=>{ posonlyargs:=[],args:=[],vararg:=none,kwonlyargs:=[],kw_defaults:=[],kwarg:=none,defaults:=[] }
noncomputable def qo (s:Stmt):List Stmt:=match s with
 | .FunctionDef _ _ b _ _ _ _ _ _ _=>b
 | _=>[]
noncomputable def ah (s:Stmt):Scope:=match s with
 | .FunctionDef _ _ _ _ _ _ sc _ _ _=>sc
 | _=>{ kind:=.function,names:=[],isGenerator:=false,isCoroutine:=false }
noncomputable abbrev CX0:CXT:=λ _ _ _ _ _ _=>False
noncomputable abbrev E0:XK:=λ _ _ _=>False
theorem xW {X:Cx}:Passes CX0 X E0:=λ _ _ _ _ _ _ _ h=>h.elim
structure Fun (K:Ni) (x qual:Str) (st:Stmt) (f:NI) (fd:Oo):Prop where
 ex:∃ (oc:Nq) (od:Option NI) (kV doc pm:Nq) (an:Option NI) (cdv ct:Nq) (osl:Array (Option Nq)),fd=O8 x qual (xA st) (qo st) (ah st) .none kV doc pm an cdv ct/\K.lookup f=some ⟨oc,od,.func fd,osl⟩/\PySem.W.codeIn K cdv qual=true
 kp:OI K (.ref f)=true
section
variable {P:NT} {w:World} {K:Ni} {mg:Str->Option Nq} {base:Heap}
theorem Fun.ok {x qual:Str} {st:Stmt} {f:NI} {fd:Oo} {N ps:List Str} {k:Nat} {sp:Sp} (F:Fun K x qual st f fd) (S:aE N ps (ah st)) (len:∀ vs H Q E,sp vs H Q E->vs.length=ps.length)
  (hbody:∀ (cdv:Nq) (A:Oh) (outer:List Env) (s:Nu) (H:Hp) (vs:List V) (Q:VK) (E:XK),Room k (A.deeper (envOfC qual (ah st) s.heap.objs.size f cdv))->sp vs H Q E ->
   ∃ t,PSs (Cf CX0 P w K mg base N qual (ah st) f cdv A outer s H E).nox (qo st) t/\t { nx:=λ _ H'=>Q .non H',rt:=Q } (start N vs) H):FnOk P w K mg base CX0 (k+1) f fd ps sp:=by
 obtain ⟨oc,od,kV,doc,pm,an,cdv,ct,osl,rfl,lk,hcd⟩:=F.ex;refine Ml lk hcd S len λ A outer s H vs Q E hr hsp=>?_;obtain ⟨t,h,q⟩:=hbody cdv A outer s H vs Q E hr hsp;exact ⟨t,h.nox,q⟩
theorem fun_mk {x qual:Str} {st:Stmt} {f:NI} {oc:Nq} {od an:Option NI} {osl:Array (Option Nq)} {kV doc pm cdv ct:Nq} (l:K.lookup f=some ⟨oc,od,.func (O8 x qual (xA st) (qo st) (ah st) .none kV doc pm an cdv ct),osl⟩)
  (c:PySem.W.codeIn K cdv qual=true) (k:OI K (.ref f)=true):Fun K x qual st f (O8 x qual (xA st) (qo st) (ah st) .none kV doc pm an cdv ct):=⟨⟨oc,od,kV,doc,pm,an,cdv,ct,osl,rfl,l,c⟩,k⟩
end
theorem Ez {n:Nat} (h:n<=1000):n < No:=Nat.lt_of_le_of_lt h (by decide)
theorem Mb {A B:Prop} (h:B):if false=true then A else B:=by
 rw [if_neg NE];exact h
theorem Ma {A B:Prop} (h:A):if true=true then A else B:=by
 rw [if_pos rfl];exact h
noncomputable def Same (H H':Hp):Prop:=∀ b o,H b=some o->H' b=some o
theorem Same.refl (H:Hp):Same H H:=λ _ _ h=>h
theorem Same.trans {H H1 H2:Hp} (a:Same H H1) (b:Same H1 H2):Same H H2:=λ c o h=>b c o (a c o h)
theorem Same.free {H H':Hp} (e:Same H H') {l:NI} (h:H' l=Option.none):H l=Option.none:=by
 cases q:H l with
 | none=>rfl
 | some o =>
  rw [e l o q] at h;cases h
theorem Same.seq {K:Ni} {H H':Hp} {a:NI} {xs:List V} (e:Same H H') (h:SqL K H a xs):SqL K H' a xs:=by
 rcases h with (h | ⟨o,h⟩) | h
 ·exact .inl (.inl (e _ _ h))
 ·exact .inl (.inr ⟨o,e _ _ h⟩)
 ·exact .inr h
end L2
set_option autoImplicit false
namespace L2.PU
open PySem  PySem.Spec PyProof.Rows
noncomputable def AL:Nat->(List Nq->Prop)->Prop
 | 0,P=>P []
 | n+1,P=>∀ a,AL n λ l=>P (a::l)
theorem AL.all:∀ {n:Nat} {P:List Nq->Prop},AL n P->∀ us:List Nq,us.length=n->P us
 | 0,_,h,[],_=>h
 | n+1,_,h,a::us,e=>AL.all (n:=n) (h a) us (Nat.succ.inj e)
theorem bi_mk {K:Ni} {fd:Oo} {ps:List Str} (h:AL ps.length λ us=>bindArgs fd ⟨us,[]⟩=pure (ps.zip us)):Binds K fd ps []:=.all h.all
theorem Kx {Pr:NT} {w:World} {K:Ni} {mg:Str->Option Nq} {fa f:NI} {d:Oo} {x q:Str} {st:Stmt} {k:Nat} {y:Str} {sp:Sp} (hfa:mg "law" = some (.ref fa)) (m:mg "law" = some (.ref f)) (F:Fun K x q st f d)
  (G:∀ base:Heap,FnOk Pr w K mg base CX0 k f d [y] sp) (hb:∀ (kV doc pm:Nq) (an:Option NI) (cdv ct v:Nq),bindArgs (O8 x q (xA st) (qo st) (ah st) .none kV doc pm an cdv ct) ⟨[v],[]⟩=pure [(y,v)]) :
  ∃ fd:Oo,(∀ (s:Nu) (v:Nq),BindsTo s fd ⟨[v],[]⟩ [(y,v)])/\∀ base:Heap,K.In base->base.Ns mainGlobals mg->FnOk Pr w K mg base CX0 k fa fd [y] sp:=by
 cases hfa.symm.trans m;obtain ⟨oc,od,kV,doc,pm,an,cdv,ct,osl,rfl,lk,hcd⟩:=F.ex;exact ⟨_,λ s v=>.of_eq (hb kV doc pm an cdv ct v),λ base _ _=>G base⟩
theorem bP {N P:List Str} {sc:Scope} (h1:sc.kind=.function:=by rfl) (h2:sc.isCoroutine=false:=by rfl) (h3:sc.isGenerator=false:=by rfl) (h4:N.Nodup:=by decide +kernel) (h5:N.take P.length=P:=by rfl)
  (h6:∀ x∈P,sc.names.lookup x=some .local\/sc.names.lookup x=some .cell:=by decide +kernel) (h7:∀ y∈sc.names,y.2≠.free:=by decide +kernel):aE N P sc:=⟨h1,h2,h3,h4,h5,h6,h7⟩
end L2.PU
namespace L2
open PySem PySem.Spec PyProof.Rows
section
variable {κ:Type} [DecidableEq κ]
noncomputable def nL (kvs:List (κ×V)) (k:κ):Option V:=(kvs.find? λ kv=>decide (kv.1=k)).map (·.2)
noncomputable def o8 (kvs:List (κ×V)) (k:κ) (v:V):List (κ×V) :=
 if (kvs.any λ kv=>decide (kv.1=k))=true then kvs.map (λ kv=>if kv.1=k then (kv.1,v) else kv) else kvs++[(k,v)]
noncomputable def yG (kvs:List (κ×V)) (k:κ):List (κ×V):=kvs.filter λ kv=>decide (kv.1≠k)
theorem uV {p:κ×V} {r:List (κ×V)} {k:κ} (e:p.1=k):nL (p::r) k=some p.2:=by simp [nL,OD,e]
theorem uW {p:κ×V} {r:List (κ×V)} {k:κ} (e:¬ p.1=k):nL (p::r) k=nL r k:=by simp [nL,OD,e]
theorem Bo (k:κ):∀ kvs:List (κ×V),(kvs.any λ kv=>decide (kv.1=k))=(nL kvs k).isSome
 | []=>rfl
 | p::r=>by
  rw [Oz];by_cases e:p.1=k
  ·simp only [uV e,decide_eq_true e,Bool.true_or,Option.isSome_some]
  ·rw [uW e,decide_eq_false e,Bool.false_or]; exact Bo k r
theorem oT (kvs:List (κ×V)) (k:κ) (v:V):(o8 kvs k v).length<=kvs.length+1:=by
 unfold o8
 split
 ·rw [Nl]; omega
 ·rw [Nn,NN,List.length_nil]; omega
theorem RelO.isSome_eq {o:Option V} {u:Option Nq} (r:RelO o u):o.isSome=u.isSome:=by
 cases o with
 | none=>cases u with
  | none=>rfl
  | some _=>exact (show False from r).elim
 | some _=>cases u with
  | none=>exact (show False from r).elim
  | some _=>rfl
theorem KV.val {kvs:List (κ×V)} {vs:List (κ×Nq)} (r:KV kvs vs) (k:κ):RelO (nL kvs k) (valueAt vs k):=by
 unfold KV at r
 induction r with
 | nil=>exact True.intro
 | @cons p q ps qs h t ih =>
  obtain ⟨h1,h2⟩:=h;by_cases e:p.1=k
  ·have e':q.1=k:=h1.symm.trans e;have b:valueAt (q::qs) k=some q.2:=by simp [valueAt,OD,e']
   rw [uV e,b]; exact h2
  ·have e':¬ q.1=k:=λ z=>e (h1.trans z);have b:valueAt (q::qs) k=valueAt qs k:=by simp [valueAt,OD,e']
   rw [uW e,b]; exact ih
theorem KV.any {kvs:List (κ×V)} {vs:List (κ×Nq)} (r:KV kvs vs) (k:κ):(kvs.any λ kv=>decide (kv.1=k))=vs.any λ kv=>decide (kv.1=k):=by
 unfold KV at r
 induction r with
 | nil=>rfl
 | cons h t ih=>rw [Oz,Oz,ih,h.1]
theorem KV.repl {kvs:List (κ×V)} {vs:List (κ×Nq)} (r:KV kvs vs) (k:κ) {y:V} {u:Nq} (ry:RelV y u) :
  KV (kvs.map λ kv=>if kv.1=k then (kv.1,y) else kv) (vs.map λ kv=>if kv.1=k then (kv.1,u) else kv):=by
 unfold KV at r ⊢
 induction r with
 | nil=>exact .nil
 | @cons p q ps qs h t ih =>
  rw [Ny,Ny];refine .cons ?_ ih;obtain ⟨h1,h2⟩:=h;by_cases e:p.1=k
  ·rw [if_pos e,if_pos (h1.symm.trans e)]; exact ⟨h1,ry⟩
  ·rw [if_neg e,if_neg (λ z=>e (h1.trans z))]; exact ⟨h1,h2⟩
theorem KV.put {kvs:List (κ×V)} {vs:List (κ×Nq)} (r:KV kvs vs) (k:κ) {y:V} {u:Nq} (ry:RelV y u):KV (o8 kvs k y) (stored vs k u):=by
 unfold o8 stored;rw [r.any k];by_cases e:(vs.any λ kv=>decide (kv.1=k))=true
 ·rw [if_pos e,if_pos e]; exact r.repl k ry
 ·rw [if_neg e,if_neg e]; exact Paired.snoc r ⟨rfl,ry⟩
theorem KV.drop {kvs:List (κ×V)} {vs:List (κ×Nq)} (r:KV kvs vs) (k:κ):KV (yG kvs k) (without vs k):=by
 unfold KV at r ⊢;unfold yG without
 induction r with
 | nil=>exact .nil
 | @cons p q ps qs h t ih =>
  obtain ⟨h1,h2⟩:=h;rw [Om,Om];by_cases e:p.1=k
  ·have a:¬ decide (p.1≠k)=true:=by simp [e]
   have b:¬ decide (q.1≠k)=true:=by simp [h1.symm.trans e]
   rw [if_neg a,if_neg b]; exact ih
  ·have e':¬ q.1=k:=λ z=>e (h1.trans z);have a:decide (p.1≠k)=true:=by simp [e]
   have b:decide (q.1≠k)=true:=by simp [e']
   rw [if_pos a,if_pos b]; exact .cons ⟨h1,h2⟩ ih
theorem KV.keys {kvs:List (κ×V)} {vs:List (κ×Nq)} (r:KV kvs vs):kvs.map (·.1)=vs.map (·.1):=by
 unfold KV at r
 induction r with
 | nil=>rfl
 | cons h t ih=>rw [Ny,Ny,ih,h.1]
theorem KV.length {kvs:List (κ×V)} {vs:List (κ×Nq)} (r:KV kvs vs):kvs.length=vs.length:=Paired.length r
theorem GL (kvs:List (κ×V)) (k:κ):(yG kvs k).length<=kvs.length:=OA _ _
end
theorem wG {P:NT} {w:World} {k:Key} {u:Nq} (r:RelV (kV k) u):(dk P w).is k u=true:=by
 cases k with
 | inl i=>obtain ⟨t,e⟩:=(show ∃ t,u=Value.int i t from r); subst e; exact BO P w i t
 | inr x=>obtain ⟨t,e⟩:=(show ∃ t,u=Value.str x t from r); subst e; exact BN P w x t
theorem zS {P:NT} {w:World}:∀ {ks:List Key} {us:List Nq},Vals (ks.map kV) us->ItemsAre (dk P w) ks us
 | [],_,r=>by rw [List.map_nil] at r; cases r; exact .nil
 | k::ks,_,r=>by
  rw [Ny] at r;cases r with
  | cons h t=>exact .cons (wG h) (zS t)
noncomputable abbrev KT (H:Hp):List (List Key×V)->List (List Key×NI×Nq)->Prop:=Paired λ p q=>p.1=q.1/\H q.2.1=some (.tup (p.1.map kV))/\RelV p.2 q.2.2
theorem KT.val {H:Hp} {kvs:List (List Key×V)} {xs:List (List Key×NI×Nq)} (r:KT H kvs xs) (k:List Key):RelO (nL kvs k) ((atKey xs k).map (·.2)):=by
 induction r with
 | nil=>exact True.intro
 | @cons p q ps qs h t ih =>
  obtain ⟨h1,_,h2⟩:=h;by_cases e:p.1=k
  ·have e':q.1=k:=h1.symm.trans e;have b:atKey (q::qs) k=some q.2:=by simp [atKey,OD,e']
   rw [uV e,b]; exact h2
  ·have e':¬ q.1=k:=λ z=>e (h1.trans z);have b:atKey (q::qs) k=atKey qs k:=by simp [atKey,OD,e']
   rw [uW e,b]; exact ih
theorem KT.repl {H:Hp} {kvs:List (List Key×V)} {xs:List (List Key×NI×Nq)} (r:KT H kvs xs) (k:List Key) {y:V} {u:Nq} (ry:RelV y u) :
  KT H (kvs.map λ kv=>if kv.1=k then (kv.1,y) else kv) (xs.map (putAt k u)):=by
 induction r with
 | nil=>exact .nil
 | @cons p q ps qs h t ih =>
  rw [Ny,Ny];refine .cons ?_ ih;obtain ⟨h1,h2,h3⟩:=h;unfold putAt;by_cases e:p.1=k
  ·rw [if_pos e,if_pos (h1.symm.trans e)]; exact ⟨h1,h2,ry⟩
  ·rw [if_neg e,if_neg (λ z=>e (h1.trans z))]; exact ⟨h1,h2,h3⟩
theorem KT.put {H:Hp} {kvs:List (List Key×V)} {xs:List (List Key×NI×Nq)} (r:KT H kvs xs) (k:List Key) {b:NI} {y:V} {u:Nq} (hb:H b=some (.tup (k.map kV))) (ry:RelV y u) :
  KT H (o8 kvs k y) (storedH xs k b u):=by
 have e:(kvs.any λ kv=>decide (kv.1=k))=(atKey xs k).isSome:=by
  rw [Bo,(r.val k).isSome_eq,Option.isSome_map]
 unfold o8 storedH;rw [e];by_cases q:(atKey xs k).isSome=true
 ·rw [if_pos q,if_pos q]; exact r.repl k ry
 ·rw [if_neg q,if_neg q]; exact Paired.snoc r ⟨rfl,hb,ry⟩
theorem KT.keeps {H H':Hp} {kvs:List (List Key×V)} {xs:List (List Key×NI×Nq)} (r:KT H kvs xs) (ht:∀ b ys,H b=some (.tup ys)->H' b=some (.tup ys)):KT H' kvs xs :=
 Paired.mapP r λ _ _ z=>⟨z.1,ht _ _ z.2.1,z.2.2⟩
section
variable {P:NT} {w:World} {H:Hp} {h:Heap} {a:NI}
theorem Jw {u:HO} (ok:HOk P w H h) (e:Rd H a u):ObjOk P w H h a u:=e.ok ok
theorem yH {kvs:List (Key×V)} (ok:HOk P w H h) (e:Rd H a (.dK kvs)):kvs.length<=No/\(a==sysModules)=false/\∃ vs,KV kvs vs/\h.DictOf (dk P w) a vs :=
 show ObjOk P w H h a (.dK kvs) from Jw ok e
theorem Eh {kvs:List (Key×V)} (ok:HOk P w H h) (e:H a=some (.dK kvs)):kvs.length<=No/\(a==sysModules)=false/\∃ vs,KV kvs vs/\h.DictOf (dk P w) a vs:=yH ok (.inl e)
theorem yr {ks:List Key} (ok:HOk P w H h) (e:H a=some (.tup (ks.map kV))):(tupleKind (dk P w)).is h ks a:=by
 obtain ⟨_,its,r,o,h1,h2,n,h3⟩:=(show ObjOk P w H h a (.tup (ks.map kV)) from ok a _ e);exact ⟨o,its.toArray,n,h1,h2,h3,by simpa using zS r⟩
theorem z4 {kvs:List (List Key×V)} (ok:HOk P w H h) (e:Rd H a (.dT kvs)):kvs.length<=No/\(a==sysModules)=false /\
  ∃ xs,KT H kvs xs/\h.DictOfH (tupleKind (dk P w)) a xs:=by
 obtain ⟨z,y,xs,r,o,es,ep,h1,h2,h3,h4,h5⟩:=(show ObjOk P w H h a (.dT kvs) from Jw ok e);refine ⟨z,y,xs,r,o,es,ep,h1,h2,h3,h4,λ x hx=>?_,h5⟩;have all:∀ {l:List (List Key×V)} {m:List (List Key×NI×Nq)},KT H l m->∀ x∈m,(tupleKind (dk P w)).is h x.1 x.2.1:=by
  intro l m q
  induction q with
  | nil=>intro x hx; exact nomatch hx
  | @cons p q ps qs hq t ih =>
   intro x hx;rcases NO.mp hx with e | hx
   ·subst e;exact yr ok (by rw [<- hq.1]; exact hq.2.1)
   ·exact ih x hx
 exact all r x hx
theorem Mm {kvs:List (List Key×V)} (ok:HOk P w H h) (e:H a=some (.dT kvs)):kvs.length<=No/\(a==sysModules)=false /\
  ∃ xs,KT H kvs xs/\h.DictOfH (tupleKind (dk P w)) a xs:=z4 ok (.inl e)
end
noncomputable def DGet (H:Hp) (a:NI) (y:V) (r:Option V):Prop :=
 (∃ kvs k,Rd H a (.dK kvs)/\y=kV k/\r=nL kvs k)\/∃ kvs k b,Rd H a (.dT kvs)/\y=.ref b/\H b=some (.tup (k.map kV))/\r=nL kvs k
noncomputable def DPut (H:Hp) (a:NI) (y v:V) (H':Hp):Prop :=
 (∃ kvs k,H a=some (.dK kvs)/\y=kV k/\kvs.length < No/\H'=upd H a (.dK (o8 kvs k v))) \/
 ∃ kvs k b,H a=some (.dT kvs)/\y=.ref b/\H b=some (.tup (k.map kV))/\kvs.length < No/\H'=upd H a (.dT (o8 kvs k v))
section
variable {X:Cx} {pins:List (NI×Obj)} {σ:St} {H:Hp} {s:Nu} {a:NI} {y v:V} {u r:Nq} {o:Option V} {A:Oh} {E:Nq->Nu->Prop}
theorem Inv.big (I:Inv X pins σ H s):sysModules < s.heap.objs.size:=by
 have h:mainGlobals < s.heap.objs.size:=(I.mod.glob.keeps I.bk).lt;exact Nat.lt_trans (by decide) h
theorem E3 {Q:Nq->Nu->Prop} (hu:A.units+1 < cLine) (I:Inv X pins σ H s) (g:DGet H a y (some v)) (ry:RelV y u) (h:∀ w' s',Inv X pins σ H s'->RelV v w'->Q w' s') :
  N7 (N9 X.prog X.w) A (getItem (.ref a) u) Q E s:=by
 rcases g with ⟨kvs,k,e,ey,l⟩ | ⟨kvs,k,b,e,ey,eb,l⟩
 ·subst ey;obtain ⟨z,hd,vs,rel,dd⟩:=yH I.hok e;obtain ⟨w',hw,rw'⟩:=RelO.some_of (v:=v) (o:=valueAt vs k) (by rw [l]; exact rel.val k);exact wpAny_getItem_of (wG ry) dd.mapOf hw (h w' _ (I.tok _) rw')
 ·subst ey;cases (show u=Value.ref b from ry);obtain ⟨z,hd,xs,rel,dd⟩:=z4 I.hok e;obtain ⟨w',hw,rw'⟩:=RelO.some_of (v:=v) (o:=(atKey xs k).map (·.2)) (by rw [l]; exact rel.val k);obtain ⟨p,hp,hp2⟩:=Pe.mp hw;refine wpAny_getItem_heap (tupleKind_room_in1 hu) (yr I.hok eb) dd hp ?_;rw [hp2];exact h w' _ (I.tok _) rw'
theorem M7 {Q:Nq->Nu->Prop} (hu:A.units+1 < cLine) (I:Inv X pins σ H s) (g:DGet H a y o) (ry:RelV y u) (h:∀ s',Inv X pins σ H s'->Q (.bool o.isSome) s') :
  N7 (N9 X.prog X.w) A (On .In u (.ref a)) Q E s:=by
 rcases g with ⟨kvs,k,e,ey,l⟩ | ⟨kvs,k,b,e,ey,eb,l⟩
 ·subst ey;obtain ⟨z,hd,vs,rel,dd⟩:=yH I.hok e;refine wpAny_in_of (wG ry) hd dd.mapOf ?_;rw [<- (rel.val k).isSome_eq,<- l];exact h _ (I.tok _)
 ·subst ey;cases (show u=Value.ref b from ry);obtain ⟨z,hd,xs,rel,dd⟩:=z4 I.hok e;refine wpAny_in_heap (tupleKind_room_in1 hu) (yr I.hok eb) hd dd ?_;have q:=(rel.val k).isSome_eq;rw [Option.isSome_map] at q;rw [<- q,<- l];exact h _ (I.tok _)
theorem IV {Q:Nq->Nu->Prop} (hu:A.units+1 < cLine) (I:Inv X pins σ H s) (g:DGet H a y o) (ry:RelV y u) (h:∀ s',Inv X pins σ H s'->Q (.bool (!o.isSome)) s') :
  N7 (N9 X.prog X.w) A (On .NotIn u (.ref a)) Q E s:=by
 rcases g with ⟨kvs,k,e,ey,l⟩ | ⟨kvs,k,b,e,ey,eb,l⟩
 ·subst ey;obtain ⟨z,hd,vs,rel,dd⟩:=yH I.hok e;refine wpAny_notIn_of (wG ry) hd dd.mapOf ?_;rw [<- (rel.val k).isSome_eq,<- l];exact h _ (I.tok _)
 ·subst ey;cases (show u=Value.ref b from ry);obtain ⟨z,hd,xs,rel,dd⟩:=z4 I.hok e;refine wpAny_notIn_heap (tupleKind_room_in1 hu) (yr I.hok eb) hd dd ?_;have q:=(rel.val k).isSome_eq;rw [Option.isSome_map] at q;rw [<- q,<- l];exact h _ (I.tok _)
theorem vG {h':Heap} {t':Nat} {ob:HO} (I:Inv X pins σ H s) (mu:Mut (H a)) (hs:Heap.SameBut a s.heap h') (he:∃ q,h'.get? a=some q) (new:ObjOk X.prog X.w (upd H a ob) h' a ob) :
  Inv X pins σ (upd H a ob) { s with heap:=h',toks:=t' } :=
 I.write (x:=a) (e:=a) mu (.inl rfl) (λ b q hb z=>(hs.2 b hb).trans z) he new
theorem A0 {P:NT} {w:World} {H':Hp} {h':Heap} {kvs:List (Key×V)} {vs:List (Key×Nq)} (z:kvs.length<=No) (hd:(a==sysModules)=false) (rel:KV kvs vs) (dd:h'.DictOf (dk P w) a vs) :
  ObjOk P w H' h' a (.dK kvs):=⟨z,hd,vs,rel,dd⟩
theorem E2 {H':Hp} {Q:Unit->Nu->Prop} (hu:A.units+1 < cLine) (I:Inv X pins σ H s) (g:DPut H a y v H') (ry:RelV y u) (rv:RelV v r) (h:∀ s',Inv X pins σ H' s'->Q () s') :
  N7 (N9 X.prog X.w) A (setItem (.ref a) u r) Q E s:=by
 rcases g with ⟨kvs,k,e,ey,l,eH⟩ | ⟨kvs,k,b,e,ey,eb,l,eH⟩
 ·subst ey eH;obtain ⟨z,hd,vs,rel,dd⟩:=Eh I.hok e;have hz:vs.length<=No:=by rw [<- rel.length]; exact z
  have hl:(o8 kvs k v).length<=No:=by have:=oT kvs k v; omega
  refine wpAny_setItem_pairs (hsz:=hz) (wG ry) dd λ h' dd' hs=>h _ ?_;have he:∃ q,h'.get? a=some q:=let ⟨q,_,_,hq,_⟩:=dd'; ⟨q,hq⟩;exact vG I (by rw [e]; exact True.intro) hs he (A0 hl hd (rel.put k rv) dd')
 ·subst ey eH;cases (show u=Value.ref b from ry);obtain ⟨z,hd,xs,rel,dd⟩:=Mm I.hok e;have hz:xs.length<=No:=by rw [<- Paired.length rel]; exact z
  have hl:(o8 kvs k v).length<=No:=by have:=oT kvs k v; omega
  refine wpAny_setItem_heap (hsz:=hz) (tupleKind_room_in1 hu) (yr I.hok eb) dd λ h' dd' hs=>h _ ?_;obtain ⟨q,es,ep,hq,h2,h3,h4,_,h5⟩:=dd';refine vG I (by rw [e]; exact True.intro) hs ⟨q,hq⟩ ⟨hl,hd,_,(rel.put k eb rv).keeps λ c ys ec=>?_,q,es,ep,hq,h2,h3,h4,h5⟩;rw [aq (LX ec e (λ z=>nomatch z))];exact ec
end
section
variable {X:Cx} {pins:List (NI×Obj)} {σ:St} {H:Hp} {s:Nu} {a:NI} {kvs:List (Key×V)} {k:Key} {u:Nq} {A:Oh} {E:Nq->Nu->Prop}
theorem Mo {v:V} {more:List Nq} {Q:Nq->Nu->Prop} (I:Inv X pins σ H s) (e:H a=some (.dK kvs)) (ry:RelV (kV k) u) (l:nL kvs k=some v) (hm:more=[]\/∃ x,more=[x])
  (h:∀ w' s',Inv X pins σ (upd H a (.dK (yG kvs k))) s'->RelV v w'->Q w' s'):N7 (N9 X.prog X.w) A (call (.builtin "dict.pop") (.ref a::u::more)) Q E s:=by
 obtain ⟨z,hd,vs,rel,dd⟩:=Eh I.hok e;obtain ⟨w',hw,rw'⟩:=RelO.some_of (v:=v) (o:=valueAt vs k) (by rw [<- l]; exact rel.val k);have hp:(keyPart u).isSome=true:=by
  cases k with
  | inl i=>obtain ⟨t,q⟩:=(show ∃ t,u=Value.int i t from ry); subst q; rfl
  | inr x=>obtain ⟨t,q⟩:=(show ∃ t,u=Value.str x t from ry); subst q; rfl
 have ha:argsOk "dict.pop" ⟨.ref a::u::more,[]⟩:=by
  rcases hm with q | ⟨x,q⟩
  ·subst q; exact PySem.F.args_dict_pop_2 _ _
  ·subst q; exact PySem.F.args_dict_pop_3 _ _ _
 refine call_meetsIn PySem.F.slot_dict_pop dd.typeIs PySem.F.entry_dict_pop ha (meets_dict_pop_there (dk X.prog X.w) a (wG ry) more hm hp)
  ⟨vs,w',dd,by rw [<- rel.length]; exact z,hw,λ h' dd' hs=>h w' _ ?_ rw'⟩
 have he:∃ q,h'.get? a=some q:=let ⟨q,_,_,hq,_⟩:=dd'; ⟨q,hq⟩;exact vG I (by rw [e]; exact True.intro) hs he (A0 (NL (GL kvs k) z) hd (rel.drop k) dd')
end
noncomputable def La (i:Expr):Prop:=∀ ov iv,subscripted i false ov iv=operate [ov,iv] (getItem ov iv)
theorem HB {prog:NT} {w:World} {A:Oh} {E:Nq->Nu->Prop} {s:Nu} {env:Env} {value slice:Expr} {pos:Pos} {T id:String} {Q:Nq->Nu->Prop}
  (hl:typeLookup (.type T) "__getitem__" = pure (some (.builtin id))) (hs:La slice)
  (h:N7 (N9 prog w) A (eval value env) (λ o s₁=>N7 (N9 prog w) A (eval slice env) (λ i s₂=>s₂.TypeIs o T/\N7 (N9 prog w) A (getItem o i) Q E s₂) E s₁) E s) :
  N7 (N9 prog w) A (eval (.Subscript value slice pos) env) Q E s:=by
 refine Subscript_ (wpAny_mono h (λ o s₁ h₁=>wpAny_mono h₁ (λ i s₂ h₂=>?_) λ _ _ x=>x) λ _ _ x=>x);obtain ⟨hT,h₂⟩:=h₂;unfold subscriptTail;refine NH ?_;rw [getitemInPython_of_ne hT.not_modules];refine NH (wpAny_specialOf hT hl ?_);have fin:N7 (N9 prog w) A (subscripted slice false o i) (λ r s₃=>N7 (N9 prog w) A (letTemporaryGo value o r >>= λ _=>pure r) Q E s₃) E s₂:=by
  rw [hs o i];exact wpAny_operating (wpAny_mono h₂ (λ r s₃ h₃=>NH (wpAny_letTemporaryGo (NR h₃))) λ _ _ x=>x)
 first
  | exact NR (NH fin)
  | exact NH (NR (NH fin))
  | exact NH fin
theorem Ca {X:Cx} {pins:List (NI×Obj)} {σ:St} {H:Hp} {s:Nu} {a:NI} {y:V} {o:Option V} (I:Inv X pins σ H s) (g:DGet H a y o):s.TypeIs (.ref a) "dict" := by
 rcases g with ⟨kvs,k,e,_,_⟩ | ⟨kvs,k,b,e,_,_,_⟩
 ·obtain ⟨_,_,vs,_,dd⟩:=yH I.hok e;exact dd.typeIs
 ·obtain ⟨_,_,xs,_,dd⟩:=z4 I.hok e;exact dd.typeIs
noncomputable def Lv (td ty:TE):TE:=λ σ H Q=>td σ H λ x H1=>ty σ H1 λ y H2=>∃ a v,x=.ref a/\DGet H2 a y (some v)/\Q v H2
noncomputable def MW (ty td:TE):TE:=λ σ H Q=>ty σ H λ y H1=>td σ H1 λ x H2=>∃ a o,x=.ref a/\DGet H2 a y o/\Q (.bl o.isSome) H2
noncomputable def HA (ty td:TE):TE:=λ σ H Q=>ty σ H λ y H1=>td σ H1 λ x H2=>∃ a o,x=.ref a/\DGet H2 a y o/\Q (.bl (!o.isSome)) H2
noncomputable def LF (td ty tv:TE):TS:=λ D σ H=>tv σ H λ v H1=>td σ H1 λ x H2=>ty σ H2 λ y H3=>∃ a H4,x=.ref a/\DPut H3 a y v H4/\D.nx σ H4
section
variable {X:Cx} {o i e value:Expr} {pos pos' tpos:Pos} {td ty tv:TE}
theorem Ii (hu:X.A.units+1 < cLine) (ho:PE X o td) (hi:PE X i ty) (hs:La i):PE X (.Subscript o i pos) (Lv td ty):=by
 intro pins s σ H Q I h;refine HB PySem.F.slot_dict_getitem.lookup hs (thn (ho pins s σ H _ I h) λ u s1 ⟨x,H1,I1,rx,q1⟩=>thn (hi pins s1 σ H1 _ I1 q1) λ iv s2 ⟨y,H2,I2,ry,a,v,ex,g,q2⟩=>?_);subst ex;obtain rfl:u=Value.ref a:=rx;exact ⟨Ca I2 g,E3 hu I2 g ry λ w' s3 I3 rw'=>⟨v,H2,I3,rw',q2⟩⟩
theorem Ki (hu:X.A.units+1 < cLine) (hi:PE X i ty) (ho:PE X o td):PC X .In i o (MW ty td):=by
 intro pins s σ H Q I h;refine thn (hi pins s σ H _ I h) λ iv s1 ⟨y,H1,I1,ry,q1⟩=>thn (ho pins s1 σ H1 _ I1 q1) λ u s2 ⟨x,H2,I2,rx,a,ov,ex,g,q2⟩=>?_;subst ex;obtain rfl:u=Value.ref a:=rx;exact M7 hu I2 g ry λ s3 I3=>⟨.bl ov.isSome,H2,I3,rfl,q2⟩
theorem EG (hu:X.A.units+1 < cLine) (hi:PE X i ty) (ho:PE X o td):PC X .NotIn i o (HA ty td):=by
 intro pins s σ H Q I h;refine thn (hi pins s σ H _ I h) λ iv s1 ⟨y,H1,I1,ry,q1⟩=>thn (ho pins s1 σ H1 _ I1 q1) λ u s2 ⟨x,H2,I2,rx,a,ov,ex,g,q2⟩=>?_;subst ex;obtain rfl:u=Value.ref a:=rx;exact IV hu I2 g ry λ s3 I3=>⟨.bl (!ov.isSome),H2,I3,rfl,q2⟩
theorem HW (hu:X.A.units+1 < cLine) (ho:PE X o td) (hi:PE X i ty) (hv:PE X value tv) (hs:swapsWith value (some (.Subscript o i pos')) pos.line X.env=pure false) :
  PS X (.Assign [.Subscript o i pos'] value pos) (LF td ty tv):=by
 intro pins s σ H D I h;refine wpAny_Assign_Subscript (thn (hv pins s σ H _ I h) λ r s1 ⟨v,H1,I1,rv,q1⟩=>thn (ho pins s1 σ H1 _ I1 q1) λ u s2 ⟨x,H2,I2,rx,q2⟩=>thn (hi pins s2 σ H2 _ I2 q2) λ iv s3 ⟨y,H3,I3,ry,a,H4,ex,g,q3⟩=>?_) hs;subst ex;obtain rfl:u=Value.ref a:=rx;exact E2 hu I3 g ry rv λ s4 I4=>⟨σ,H4,I4,q3⟩
end
theorem B9 {P:NT} {w:World} {H:Hp} (h:Heap) (hb:sysModules < h.objs.size):ObjOk P w H (h.push { cls:=.type "dict", data:=.dict #[] }) h.objs.size (.dK []) :=
 ⟨O5 _,beq_eq_false_iff_ne.mpr (Ne.symm (NZ hb)),[],.nil,Heap.DictOf.new h⟩
noncomputable def J2:TE:=λ _ H Q=>∀ p,H p=none->Q (.ref p) (upd H p (.dK []))
section
variable {X:Cx} {pos:Pos}
theorem BE:PE X (.Dict [] [] pos) J2:=λ pins s σ H Q I h =>
 wpAny_Dict_empty ⟨.ref s.heap.objs.size,_,I.laid (a:=s.heap.objs.size) (o:=.dK []) (t':=s.toks) (λ _ _ q=>Nv _ q) (Np _) (B9 s.heap I.big),rfl,h _ (I.hok.fresh (Np _))⟩
end
noncomputable def CH:List (TE×TE)->St->Hp->(List (V×V)->Hp->Prop)->Prop
 | [],_,H,Q=>Q [] H
 | (tk,tv)::r,σ,H,Q=>tk σ H λ x H1=>tv σ H1 λ y H2=>CH r σ H2 λ ps H3=>Q ((x,y)::ps) H3
noncomputable abbrev VV:List (V×V)->List (Nq×Nq)->Prop:=Paired λ p q=>RelV p.1 q.1/\RelV p.2 q.2
noncomputable def PPs (X:Cx) (pos:Pos) (keys:List (Option Expr)) (values:List Expr) (trs:List (TE×TE)):Prop :=
 ∀ (pins:List (NI×Obj)) (s:Nu) (σ:St) (H:Hp) (Q:List (V×V)->Hp->Prop),Inv X pins σ H s->CH trs σ H Q ->
  N7 (N9 X.prog X.w) X.A (evalPairs (pairTrees keys values X.env pos)) (λ vs s'=>∃ ps H',Inv X pins σ H' s'/\VV ps vs/\Q ps H') X.xe s
theorem HX {X:Cx} {pos:Pos}:PPs X pos [] [] []:=λ pins s σ H Q I h=>pairTrees_nil_walk ⟨[],H,I,.nil,h⟩
theorem rq {X:Cx} {pos:Pos} {k v:Expr} {ks:List (Option Expr)} {vs:List Expr} {tk tv:TE} {trs:List (TE×TE)} (hk:PE X k tk) (hv:PE X v tv) (hr:PPs X pos ks vs trs) :
  PPs X pos (some k::ks) (v::vs) ((tk,tv)::trs):=λ pins s σ H Q I h =>
 pairTrees_cons_walk (thn (hk pins s σ H _ I h) λ u s1 ⟨x,H1,I1,rx,q1⟩=>thn (hv pins s1 σ H1 _ I1 q1) λ w2 s2 ⟨y,H2,I2,ry,q2⟩ =>
  thn (hr pins s2 σ H2 _ I2 q2) λ ws s3 ⟨ps,H3,I3,rel,q3⟩=>⟨(x,y)::ps,H3,I3,.cons ⟨rx,ry⟩ rel,q3⟩)
noncomputable def uH (kvs more:List (Key×V)):List (Key×V):=more.foldl (λ acc kv=>o8 acc kv.1 kv.2) kvs
theorem KV.merge:∀ {more:List (Key×V)} {rs:List (Key×Nq)} {kvs:List (Key×V)} {vs:List (Key×Nq)},KV more rs->KV kvs vs->KV (uH kvs more) (merged vs rs):=by
 intro more rs kvs vs r;unfold KV at r
 induction r generalizing kvs vs with
 | nil=>intro q; exact q
 | @cons p q ps qs h t ih =>
  intro r0;have e:KV (o8 kvs p.1 p.2) (stored vs q.1 q.2):=by
   have:=r0.put p.1 h.2
   rw [<- h.1]; exact this
  exact ih e
theorem ug:∀ (more kvs:List (Key×V)),(uH kvs more).length<=kvs.length+more.length
 | [],kvs=>by show kvs.length<=kvs.length+0; omega
 | p::r,kvs=>by
  have h1:=ug r (o8 kvs p.1 p.2);have h2:=oT kvs p.1 p.2;show (uH (o8 kvs p.1 p.2) r).length<=_;rw [NN]; omega
theorem yJ {P:NT} {w:World}:∀ {kvs:List (Key×V)} {ws:List (Nq×Nq)},VV (kvs.map λ kv=>(kV kv.1,kv.2)) ws->∃ rs,Carries (dk P w) ws rs/\KV kvs rs
 | [],_,r=>by rw [List.map_nil] at r; cases r; exact ⟨[],True.intro,.nil⟩
 | p::kvs,_,r=>by
  rw [Ny] at r;cases r with
  | @cons a b as bs h t =>
   obtain ⟨rs,c,q⟩:=yJ (P:=P) (w:=w) t;obtain ⟨b1,b2⟩:=b;exact ⟨(p.1,b2)::rs,⟨wG h.1,rfl,c⟩,.cons ⟨rfl,h.2⟩ q⟩
noncomputable def Lu (trs:List (TE×TE)):TE:=λ σ H Q=>∀ p,H p=none->CH trs σ (upd H p (.dK [])) λ ps H2=>H2 p=some (.dK [])/\∃ kvs:List (Key×V),ps=kvs.map (λ kv=>(kV kv.1,kv.2))/\kvs.length<=15/\Q (.ref p) (upd H2 p (.dK (uH [] kvs)))
theorem Ih {X:Cx} {pos:Pos} {keys:List (Option Expr)} {values:List Expr} {trs:List (TE×TE)} (h:PPs X pos keys values trs) (hall:keys.all (·.isSome)=true) (hl:keys.length=values.length) (h0:keys≠[])
  (h15:keys.length<=15):PE X (.Dict keys values pos) (Lu trs):=by
 intro pins s σ H Q I q;have hn:=I.hok.fresh (Np s.heap.objs.size);have I1:=I.laid (a:=s.heap.objs.size) (o:=.dK []) (h':=s.heap.push { cls:=.type "dict", data:=.dict #[] }) (t':=s.toks) (λ _ _ q=>Nv _ q) (Np _) (B9 s.heap I.big);refine wpAny_Dict_walk (knd:=dk X.prog X.w) hall hl h0 h15 (thn (h pins _ σ _ _ I1 (q _ hn)) λ ws s2 ⟨ps,H2,I2,rel,e,kvs,ep,lk,q2⟩=>?_);subst ep;obtain ⟨rs,c,rk⟩:=yJ (P:=X.prog) (w:=X.w) rel;obtain ⟨z,hd,vs0,r0,dd⟩:=Eh I2.hok e;cases r0;refine ⟨rs,c,dd,λ h' dd' hs=>⟨.ref s.heap.objs.size,_,?_,rfl,q2⟩⟩;have hz:(uH [] kvs).length<=No:=by
  have h1:=ug kvs [];rw [List.length_nil] at h1;rw [sizeLine_eq]; omega
 have he:∃ q,h'.get? s.heap.objs.size=some q:=let ⟨q,_,_,hq,_⟩:=dd'; ⟨q,hq⟩;exact vG I2 (by rw [e]; exact True.intro) hs he (A0 hz hd (rk.merge .nil) dd')
structure M1 (X:Cx) (o:Expr) (m:Str) (apos:Pos) (e:Expr) (cpos:Pos):Prop where
 base:attributeBase o m X.env (eval o X.env)=eval o X.env
 few:((backTo cpos (Nw [e] X.env)).all (λ x=>!x.1)&&(backToKw cpos (keywordEach [] X.env)).all (λ x=>x.1.isSome)
  && decide (([e]:List Expr).length+([]:List Keyword).length+(if ([]:List Keyword).isEmpty then 0 else 1) < 30))=true
 line:(apos.endLine==cpos.line)=true
 trees:backTo cpos (Nw [e] X.env)=[(false,eval e X.env)]
structure M2 (X:Cx) (o:Expr) (m:Str) (apos:Pos) (e f:Expr) (cpos:Pos):Prop where
 base:attributeBase o m X.env (eval o X.env)=eval o X.env
 few:((backTo cpos (Nw [e,f] X.env)).all (λ x=>!x.1)&&(backToKw cpos (keywordEach [] X.env)).all (λ x=>x.1.isSome)
  && decide (([e,f]:List Expr).length+([]:List Keyword).length+(if ([]:List Keyword).isEmpty then 0 else 1) < 30))=true
 line:(apos.endLine==cpos.line)=true
 trees:backTo cpos (Nw [e,f] X.env)=[(false,eval e X.env),(false,eval f X.env)]
noncomputable def IsD (H:Hp) (a:NI):Prop:=(∃ kvs,Rd H a (.dK kvs))\/∃ kvs,Rd H a (.dT kvs)
theorem C5 {X:Cx} {pins:List (NI×Obj)} {σ:St} {H:Hp} {s:Nu} {a:NI} (I:Inv X pins σ H s) (d:IsD H a) :
  s.TypeIs (.ref a) "dict" /\ (∀ b,Value.ref a=.ref b->∃ ob,s.heap.get? b=some ob/\ob.dict=none)/\(a==sysModules)=false:=by
 rcases d with ⟨kvs,e⟩ | ⟨kvs,e⟩
 ·obtain ⟨_,hd,vs,_,dd⟩:=yH I.hok e;refine ⟨dd.typeIs,λ b q=>?_,hd⟩;cases q;obtain ⟨ob,_,_,h1,h2,_⟩:=dd;exact ⟨ob,h1,h2.2.1⟩
 ·obtain ⟨_,hd,xs,_,dd⟩:=z4 I.hok e;refine ⟨dd.typeIs,λ b q=>?_,hd⟩;cases q;obtain ⟨ob,_,_,h1,h2,_⟩:=dd;exact ⟨ob,h1,h2.2.1⟩
noncomputable def J1 (td ty:TE):TE:=λ σ H Q=>td σ H λ x H1=>∃ a,x=.ref a/\IsD H1 a/\ty σ H1 λ y H2=>∃ kvs k v,H2 a=some (.dK kvs)/\y=kV k/\nL kvs k=some v/\Q v (upd H2 a (.dK (yG kvs k)))
section
variable {X:Cx} {o e f:Expr} {apos cpos:Pos} {td ty tx:TE}
theorem FW (ho:PE X o td) (he:PE X e ty) (m:M1 X o "pop" apos e cpos):PE X (.Call (.Attribute o "pop" apos) [e] [] cpos) (J1 td ty):=by
 intro pins s σ H Q I h;refine wpAny_Call_method m.base m.few m.line PySem.F.plainAttrs_dict PySem.F.slot_dict_pop PySem.F.type_dict_pop (thn (ho pins s σ H _ I h) λ u s1 ⟨x,H1,I1,rx,a,ex,d,q1⟩=>?_);subst ex;obtain rfl:u=Value.ref a:=rx;obtain ⟨t1,t2,_⟩:=C5 I1 d;refine ⟨t1,t2,?_⟩;rw [m.trees];refine Calls.callWith_builtin rfl (Calls.evalArgs_plain (Calls.spliced_cons (thn (he pins s1 σ H1 _ I1 q1) λ iv s2 ⟨y,H2,I2,ry,kvs,k,v,ea,ey,l,q2⟩=>Calls.spliced_nil ?_)));subst ey;exact Mo I2 ea ry l (.inl rfl) λ w' s3 I3 rw'=>⟨v,_,I3,rw',q2⟩
end
end L2
namespace L2
open PySem
noncomputable def A7 (env:Env):List (Str×NameKind)->List (Str×NI)->List (Str×NI)
 | [],cs=>cs
 | (n,k)::r,cs=>A7 env r (if k==.free then (n,(env.cells.lookup n).getD 0)::cs else cs)
noncomputable def Ci (scope:Scope) (env:Env):List (Str×NI):=A7 env scope.names []
theorem uv {scope:Scope} {env:Env} (h:∀ x∈scope.names,x.2=.free->∃ c,env.cells.lookup x.1=some c):closureFor scope env=pure (Ci scope env):=by
 unfold closureFor Ci;have key:∀ (l:List (Str×NameKind)) (cs:List (Str×NI)),(∀ x∈l,x.2=.free->∃ c,env.cells.lookup x.1=some c) ->
   (forIn l cs (λ x (r:List (Str×NI))=>match x with
    | (name,kind)=>if (kind==NameKind.free)=true then do let a <- cellOf env name; pure (ForInStep.yield ((name,a)::r)) else pure (ForInStep.yield r)):Sem (List (Str×NI)))=pure (A7 env l cs):=by
  intro l
  induction l with
  | nil=>intro cs _; rfl
  | cons x r ih =>
   intro cs hx;obtain ⟨n,k⟩:=x;rw [List.forIn_cons];by_cases hk:(k==NameKind.free)=true
   ·obtain ⟨c,hc⟩:=hx (n,k) NJ (by simpa using hk);have e:cellOf env n=pure c:=by unfold cellOf; rw [show env.cells.lookup n=some c from hc]
    simp only [hk,if_true,e,pure_bind];rw [ih _ λ y hy=>hx y (NA _ hy)];have hc':env.cells.lookup n=some c:=hc;simp only [A7,hk,if_true,hc',Option.getD_some]
   ·simp only [hk,Bool.false_eq_true,if_false,pure_bind];rw [ih _ λ y hy=>hx y (NA _ hy)];simp only [A7,hk,Bool.false_eq_true,if_false]
 have:=key scope.names [] h
 dsimp only;rw [this];rfl
theorem Cj (env:Env):∀ (l:List (Str×NameKind)) (cs:List (Str×NI)) (p:Str×NI),p∈A7 env l cs->p∈cs\/((p.1,NameKind.free)∈l/\p.2=(env.cells.lookup p.1).getD 0)
 | [],cs,p,h=>.inl h
 | (n,k)::r,cs,p,h=>by
  unfold A7 at h;rcases Cj env r _ p h with h | ⟨h1,h2⟩
  ·by_cases hk:(k==NameKind.free)=true
   ·rw [if_pos hk] at h;rcases NO.mp h with h | h
    ·have e:k=.free:=by simpa using hk
     subst h; subst e;exact .inr ⟨NJ,rfl⟩
    ·exact .inl h
   ·rw [if_neg hk] at h; exact .inl h
  ·exact .inr ⟨NA _ h1,h2⟩
theorem Ck (env:Env):∀ (l:List (Str×NameKind)) (cs:List (Str×NI)) (n:Str),((n,NameKind.free)∈l\/∃ a,(n,a)∈cs)->∃ a,(n,a)∈A7 env l cs
 | [],cs,n,h=>by
  rcases h with h | h
  ·cases h
  ·exact h
 | (m,k)::r,cs,n,h=>by
  unfold A7;refine Ck env r _ n ?_;rcases h with h | ⟨a,h⟩
  ·rcases NO.mp h with h | h
   ·cases h;exact .inr ⟨_,by rw [if_pos (by simp)]; exact NJ⟩
   ·exact .inl h
  ·refine .inr ⟨a,?_⟩
   split
   ·exact NA _ h
   ·exact h
theorem nZ {β:Type}:∀ {l:List (Str×β)} {n:Str} {a:β},(n,a)∈l->∃ b,l.lookup n=some b
 | [],_,_,h=>by cases h
 | (m,b)::r,n,a,h=>by
  rw [OL];by_cases e:n=m
  ·subst e; simp
  ·have hb:(n==m)=false:=by simpa using e
   rw [hb];rcases NO.mp h with h | h
   ·cases h; exact absurd rfl e
   ·exact nZ h
theorem Ek {scope:Scope} {env:Env} (h:∀ x∈scope.names,x.2=.free->∃ c,env.cells.lookup x.1=some c) {x:Str} {c:NI} (e:(Ci scope env).lookup x=some c):env.cells.lookup x=some c:=by
 have m:=PySem.mem_of_lookup e;rcases Cj env scope.names [] (x,c) m with h' | ⟨h1,h2⟩
 ·cases h'
 ·obtain ⟨d,hd⟩:=h _ h1 rfl;have hd':env.cells.lookup x=some d:=hd;have h2':c=(env.cells.lookup x).getD 0:=h2;rw [hd'] at h2' ⊢;rw [h2']; rfl
theorem Ch {scope:Scope} {env:Env} {x:Str} (h:(x,NameKind.free)∈scope.names):∃ c,(Ci scope env).lookup x=some c:=by
 obtain ⟨a,ha⟩:=Ck env scope.names [] x (.inl h);exact nZ ha
end L2
namespace L2
open PySem PySem.Spec PyProof.Rows
structure CompSc (X:Cx) (scope:Scope) (N':List Str) (mp:List (Option Nat)):Prop where
 kind:scope.kind=.function
 nocell:∀ x∈scope.names,x.2≠.cell
 names:∀ x∈scope.names,x.2=.local->scope.names.lookup x.1=some .local
 fr:∀ x∈scope.names,x.2=.free->X.env.scope.names.lookup x.1=some .cell\/X.env.scope.names.lookup x.1=some .free
 len:mp.length=N'.length
 map:∀ (i:Nat) (x:Str) (j:Nat),N'[i]?=some x->mp[i]?=some (some j)->X.N[j]?=some x/\(x,NameKind.free)∈scope.names/\((relabel scope X.env).names.lookup x=some .cell\/(relabel scope X.env).names.lookup x=some .free)
noncomputable def ju (mp:List (Option Nat)) (σ:St):St:=mp.map λ o=>o.bind λ j=>(σ[j]?).join
noncomputable def bZ (X:Cx) (scope:Scope) (N':List Str) (s:Nu) (H:Hp) (fp:List NI):Cx :=
 { X with N:=N',s₀:=s,H₀:=H,env:=compEnvC scope (Ci scope X.env) s.heap.objs.size X.env,outer:=X.stack,ex:=fp,fn:=λ _=>false,pn:=[],xe:=λ _ _=>False }
theorem Al {scope:Scope} {env:Env} {x:Str} (nc:∀ y∈scope.names,y.2≠.cell) (h:(relabel scope env).names.lookup x=some .cell\/(relabel scope env).names.lookup x=some .free):(x,NameKind.free)∈scope.names:=by
 have m:∃ k,(x,k)∈(relabel scope env).names/\(k=.cell\/k=.free):=by
  rcases h with h | h
  ·exact ⟨_,PySem.mem_of_lookup h,.inl rfl⟩
  ·exact ⟨_,PySem.mem_of_lookup h,.inr rfl⟩
 obtain ⟨k,hm,hk⟩:=m;unfold relabel at hm;obtain ⟨⟨n,k'⟩,hin,e⟩:=Os.mp hm;dsimp only at e;split at e
 ·rename_i hc;have e1:n=x:=congrArg Prod.fst e;have e2:k'=.free:=by
   have:=(OU.mp (OU.mp hc).1).1
   simpa using this
  rw [<- e1,<- e2]; exact hin
 ·have e1:n=x:=congrArg Prod.fst e;have e2:k'=k:=congrArg Prod.snd e;rcases hk with hk | hk
  ·exact absurd (e2.trans hk) (nc _ hin)
  ·rw [<- e1,<- hk,<- e2]; exact hin
section
variable {X:Cx} {pins:List (NI×Obj)} {σ:St} {H:Hp} {s:Nu} {scope:Scope} {N':List Str} {mp:List (Option Nat)} {fp:List NI}
theorem CompSc.cells (ck:CompSc X scope N' mp) (ok:X.Ok):∀ x∈scope.names,x.2=.free->∃ c,X.env.cells.lookup x.1=some c:=λ x hx hf=>ok.has x.1 (ck.fr x hx hf)
theorem Inv.inner (I:Inv X pins σ H s) (ck:CompSc X scope N' mp) (hf:∀ b∈fp,sU X pins H b) (hlt:∀ b∈fp,b < s.heap.objs.size) {h₁:Heap} {tk:Nat}
  (hn:h₁.Ns s.heap.objs.size (λ _=>none)) (hk:∀ b o,s.heap.get? b=some o->h₁.get? b=some o) :
  Inv (bZ X scope N' s H fp) [] (ju mp σ) H { s with heap:=h₁,toks:=tk }:=by
 have hfree:=ck.cells I.ok;have cin:∀ x c,(Ci scope X.env).lookup x=some c->X.env.cells.lookup x=some c:=λ x c e=>Ek hfree e;have clt:∀ x c,X.env.cells.lookup x=some c->c < s.heap.objs.size:=λ x c e=>by
  obtain ⟨v,q⟩:=I.cell x c e;exact q.lt
 refine ⟨⟨I.ok.mod,ck.kind,I.ok.glob,I.ok.blt,Np _,λ x y c h1 h2=>I.ok.inj x y c (cin x c h1) (cin y c h2),λ x hx=>?_,λ x c h _=>?_,I.ok.hd,I.ok.frames,.inl rfl,λ b hb=>⟨?_,λ x c e=>?_⟩,I.bs,NL I.ok.bsz I.sz,λ b o e hb=>?_,λ b hb hs=>?_,I.stack,I.stkFree⟩,rfl,I.bare,Un.kept hk,⟨_,hn,λ i x v h1 h2 h3=>?_⟩,λ x c e=>?_,I.hok.fresh (Np _),λ x c e=>?_,λ p hp=>absurd (show p∈([]:List (NI×Obj)) from hp) (by simp),I.hok.kept hk,?_⟩
 ·exact Ch (Al ck.nocell hx)
 ·exact absurd (show false=true from h) (by decide)
 ·exact NZ (hlt b hb)
 ·exact (hf b hb).2.2.2.2.1 x c (cin x c e)
 ·have q:=(hf b hb).2.2.2.1;rcases q with q | q
  ·exact I.ok.noex b o e q
  ·exact absurd (NK (NM e) (NL I.ok.bsz q)) (OT _)
 ·rcases NO.mp (I.stkSub b hs) with z | z
  ·exact (hf b hb).2.1 z
  ·exact (hf b hb).2.2.1 z
 ·have hi:∃ j,mp[i]?=some (some j)/\σ[j]?=some (some v):=by
   unfold ju at h2;rw [NG] at h2;cases q:mp[i]? with
   | none=>rw [q] at h2; cases h2
   | some o =>
    rw [q] at h2;have h2':(o.bind λ j=>(σ[j]?).join)=some v:=Option.some.inj h2;cases o with
    | none=>cases h2'
    | some j =>
     have h2'':(σ[j]?).join=some v:=h2';refine ⟨j,rfl,?_⟩;cases r:σ[j]? with
     | none=>rw [r] at h2''; cases h2''
     | some w' =>
      rw [r] at h2''
      have:w'=some v:=h2''
      rw [this]
  obtain ⟨j,hj,hσ⟩:=hi;obtain ⟨m1,m2,m3⟩:=ck.map i x j h1 hj;obtain ⟨m,hm,hl⟩:=I.loc;have vis:Vis X.env.scope x:=by
   rcases ck.fr _ m2 rfl with q | q
   ·exact .inr (.inl q)
   ·exact .inr (.inr q)
  obtain ⟨u,ru,l⟩:=hl j x v m1 hσ vis;refine ⟨u,ru,.inr ⟨m3,?_⟩⟩;obtain ⟨c,hc⟩:=Ch (env:=X.env) m2;refine ⟨c,hc,?_⟩;rcases l with ⟨k,_⟩ | ⟨_,c',e',z⟩
  ·rcases ck.fr _ m2 rfl with q | q
   ·have k':X.env.scope.names.lookup x=some .local:=k;have q':X.env.scope.names.lookup x=some .cell:=q;rw [k'] at q'; cases q'
   ·have k':X.env.scope.names.lookup x=some .local:=k;have q':X.env.scope.names.lookup x=some .free:=q;rw [k'] at q'; cases q'
  ·have e2:=cin x c hc;rw [e'] at e2;cases e2;obtain ⟨o,ho,hd⟩:=z;exact ⟨o,hk _ o ho,hd⟩
 ·obtain ⟨v,o,ho,hd⟩:=I.cell x c (cin x c e);exact ⟨v,o,hk _ o ho,hd⟩
 ·exact I.freeC x c (cin x c e)
 ·show (ju mp σ).length=N'.length;unfold ju;rw [Nl];exact ck.len
theorem Inv.outer {σ':St} {H':Hp} {s':Nu} (I:Inv X pins σ H s) (hf:∀ b∈fp,sU X pins H b) (J:Inv (bZ X scope N' s H fp) [] σ' H' s'):Inv X pins σ H' s' :=
 I.call' (ch:=fp) J.os J.base J.hok J.bare λ b hb=>⟨(hf b hb).2.2.2.1,(hf b hb).2.1,(hf b hb).2.2.2.2.1,(hf b hb).2.2.2.2.2⟩
end
noncomputable def xG (σ σ':St):Prop:=σ'.length=σ.length/\∀ (i:Nat) v,σ[i]?=some (some v)->σ'[i]?=some (some v)
noncomputable def PTs (X:Cx) (ifs:List Expr) (t:TT):Prop :=
 ∀ (pins:List (NI×Obj)) (s:Nu) (σ:St) (H:Hp) (Q:Bool->Hp->Prop),Inv X pins σ H s->t σ H Q ->
  N7 (N9 X.prog X.w) X.A (forIn ifs true λ c r=>if r=true then do let ok <- isTrue c X.env (eval c X.env); pure (ForInStep.yield ok) else pure (ForInStep.yield r)) (TP X pins σ Q) X.xe s
theorem DI {X:Cx}:PTs X [] (λ _ H Q=>Q true H):=λ _ _ _ H _ I h=>wpAny_tests_nil ⟨H,I,h⟩
theorem DH {X:Cx} {c:Expr} {t:TT} (hc:PT X c t):PTs X [c] t:=λ pins s σ H Q I h=>wpAny_tests_one (hc pins s σ H Q I h)
noncomputable def JR (J:It) (σ':St) (g:TG) (tt:TT) (te:TE) (D:NI) (Fin:Hp->Prop) (H1:Hp):Prop :=
 ∃ W:Nat->Nat->Hp->Prop,(∃ m,W 0 m (upd H1 D (.lst [])))/\∀ i m H,W i m H ->
  (J.stop i H/\Fin H)\/(J.go i H/\∃ Nx:Hp->Prop,(∀ H',Nx H'->∃ m',m' < m/\W (i+1) m' H')/\∀ x H',J.yld i H x H'->g x σ' H' λ σ2 H2=>xG σ' σ2 /\
   tt σ2 H2 λ ok H3=>if ok=true then te σ2 H3 λ y H4=>∃ ys,H4 D=some (.lst ys)/\ys.length < No/\Nx (upd H4 D (.lst (ys++[y]))) else Nx H3)
noncomputable def Bp (mp:List (Option Nat)) (wi:TI) (g:TG) (tt:TT) (te:TE):TE:=λ σ H Q=>wi σ H λ J H1=>∀ D,H1 D=none->JR J (ju mp σ) g tt te D (λ H=>Q (.ref D) H) H1
theorem sG {prog:NT} {w:World} {A:Oh} {R:Result->Nu->Prop} {s:Nu} {elt target iter:Expr} {ifs:List Expr} {scope:Scope} {pos:Pos} {it acc:Nq} {env:Env} (I:Nat->Nu->Prop)
  (turn:∀ n s,I n s->N7 (N9 prog w) A (pyNext it) (λ r s₁=>match r with
   | none=>R (.ok .next) s₁
   | some v=>N7 (N9 prog w) A (letOwnedTupleGo target it v) (λ _ s₀=>N7 (N9 prog w) A (assign target env v) (λ _ s₂ =>
     N7 (N9 prog w) A (forIn ifs true λ c r=>if r=true then do let ok <- isTrue c env (eval c env); pure (ForInStep.yield ok) else pure (ForInStep.yield r)) (λ ok s₃ =>
      if ok=true then N7 (N9 prog w) A (eval elt env) (λ x s₄ =>
       N7 (N9 prog w) A (call (.builtin "list.append") [acc,x]) (λ _ s₅=>∃ m,m < n/\I m s₅) (λ _ _=>False) s₄) (λ _ _=>False) s₃
      else ∃ m,m < n/\I m s₃) (λ _ _=>False) s₂) (λ _ _=>False) s₀) (λ _ _=>False) s₁) (λ _ _=>False) s)
  (n:Nat) (h:I n s) :
  codeAny (N9 prog w) A (.compLoop (.ListComp elt [⟨target,iter,ifs,0⟩] scope pos) 0 it acc env) R s:=by
 refine codeAny_loop rfl I (λ n s hI=>?_) n h;show N7 _ A ((compTurn (.ListComp elt [⟨target,iter,ifs,0⟩] scope pos) 0 it acc env).onRaise (λ x=>do noteFrame x env; theTreesLotGoes x)) _ _ s;refine wpAny_noted ?_;rw [compTurn_list];have no:∀ {P:Nq->Nu->Prop} (e:Nq) (s':Nu),False->P e s':=λ _ _ f=>f.elim;refine NH (wpAny_standAt (NH (wpAny_mono (turn n s hI) (λ r s₁ h₁=>?_) no)));cases r with
 | none=>exact NR h₁
 | some v =>
  refine NH (wpAny_mono h₁ (λ _ s₀ h₀=>?_) no);refine NH (wpAny_mono h₀ (λ _ s₂ h₂=>NH (wpAny_mono h₂ (λ ok s₃ h₃=>?_) no)) no);cases ok with
  | false=>exact NR ⟨rfl,h₃⟩
  | true =>
   exact NH (NH (wpAny_mono h₃ (λ x s₄ h₄=>NH (wpAny_mono h₄ (λ _ s₅ h₅=>NR (NR ⟨rfl,h₅⟩)) no)) no))
section
variable {X:Cx} {elt iter tg:Expr} {ifs:List Expr} {scope:Scope} {pos:Pos} {N':List Str} {mp:List (Option Nat)} {wi:TI} {g:TG} {tt:TT} {te:TE}
theorem yI {pins:List (NI×Obj)} {σ:St} {H:Hp} {s:Nu} {J:It} {it:NI} {fp:List NI} {tn:Nat->Heap->Prop} {Fin:Hp->Prop} {E:Nq->Nu->Prop} {RR:Nq->NI->Result->Nu->Prop}
  (hc:X.calm=true) (ck:CompSc X scope N' mp) (hb:∀ s H fp,PG (bZ X scope N' s H fp) tg g/\PTs (bZ X scope N' s H fp) ifs tt/\PE (bZ X scope N' s H fp) elt te)
  (I:Inv X pins σ H s) (T:Turn X.prog X.w X.K tg J fp it tn) (st:tn 0 s.heap) (hf:∀ b∈fp,sU X pins H b) (hq:JR J (ju mp σ) g tt te s.heap.objs.size Fin H)
  (hRR:∀ (C:NI) (s':Nu) (H':Hp),Inv X pins σ H' s'->Fin H'->(∃ m,s'.heap.Ns C m)->H' C=none->C≠X.env.locals->X.s₀.heap.objs.size<=C->(∀ x c,X.env.cells.lookup x=some c->c≠C)->(∀ p∈X.pn++pins,p.1≠C)->RR (.ref s.heap.objs.size) C (.ok .next) s') :
  N7 (N9 X.prog X.w) X.A (newList []) (λ acc s₃=>N7 (N9 X.prog X.w) X.A (newFunctionEnv scope X.env.globals (Ci scope X.env) [] X.env.qual none .none (some X.env)) (λ cenv s₄ =>
   codeAny (N9 X.prog X.w) X.A (.compStart (.ListComp elt [⟨tg,iter,ifs,0⟩] scope pos) 0 (.ref it) acc { cenv with scope:=relabel scope X.env }) (RR acc cenv.locals) s₄) E s₃) E s:=by
 refine wpAny_newObj_type (wpAny_newFunctionEnv ck.nocell (by intro y hy; simp at hy) (λ h₁ hns₁ hsb₁=>?_) ck.kind);dsimp only at hns₁ hsb₁ ⊢;have I3:Inv X pins σ (upd H s.heap.objs.size (.lst [])) { s with heap:=s.heap.push { cls:=.type "list", dict:=none,data:=.seq ([]:List Nq).toArray } }:=I.lnew (its:=[]) (t':=s.toks) .nil (O5 _);generalize hs3:({ s with heap:=s.heap.push { cls:=.type "list", dict:=none,data:=.seq ([]:List Nq).toArray } }:Nu)=s3 at I3;have e3:s.heap.push { cls:=.type "list", dict:=none,data:=.seq ([]:List Nq).toArray }=s3.heap:=by rw [<- hs3]
 rw [e3] at hns₁ hsb₁ ⊢;have sz3:s3.heap.objs.size=s.heap.objs.size+1:=by rw [<- e3,Heap.size_push]
 have le3:s.heap.objs.size<=s3.heap.objs.size:=by rw [sz3]; exact Nat.le_succ _
 have fplt:∀ b∈fp,b < s.heap.objs.size:=λ b hb=>by
  obtain ⟨o,e,_⟩:=T.obj 0 _ st b hb;exact NM e
 have hf3:∀ b∈fp,sU X pins (upd H s.heap.objs.size (.lst [])) b:=λ b hb=>⟨by rw [aq (NZ (fplt b hb))]; exact (hf b hb).1,(hf b hb).2⟩;have k1:∀ b o,s3.heap.get? b=some o->h₁.get? b=some o:=λ b o e=>by
  rw [hsb₁.2 b (NZ (NM e))];exact Nv _ e
 have k0:∀ b o,s.heap.get? b=some o->h₁.get? b=some o:=λ b o e=>k1 b o (by rw [<- e3]; exact Nv _ e);obtain ⟨W,⟨m0,w0⟩,turn⟩:=hq;obtain ⟨hg,ht,he⟩:=hb s3 (upd H s.heap.objs.size (.lst [])) fp;have no:∀ {P:Nq->Nu->Prop} (e:Nq) (s':Nu),False->P e s':=λ _ _ f=>f.elim;have stat:∀ {H':Hp},(∀ b∈fp,H' b=none)->∀ b∈fp,sU (bZ X scope N' s3 (upd H s.heap.objs.size (.lst [])) fp) [] H' b:=λ hn b hb =>
  ⟨hn b hb,NZ (NK (fplt b hb) le3),λ z=>by
   rcases NO.mp (I3.stkSub b z) with z | z
   ·exact (hf b hb).2.1 z
   ·exact (hf b hb).2.2.1 z,.inl hb,λ x c e=>(hf b hb).2.2.2.2.1 x c (Ek (ck.cells I.ok) e),λ p hp=>absurd (show p∈([]:List (NI×Obj)) from hp) (by simp)⟩
 have loop:∀ tk:Nat,codeAny (N9 X.prog X.w) X.A (.compLoop (.ListComp elt [⟨tg,iter,ifs,0⟩] scope pos) 0 (.ref it) (.ref s.heap.objs.size) (compEnvC scope (Ci scope X.env) s3.heap.objs.size X.env))
   (RR (.ref s.heap.objs.size) s3.heap.objs.size) { s3 with heap:=h₁,toks:=tk }:=by
  intro tk;have I4:Inv (bZ X scope N' s3 (upd H s.heap.objs.size (.lst [])) fp) [] (ju mp σ) (upd H s.heap.objs.size (.lst [])) { s3 with heap:=h₁,toks:=tk } :=
   I3.inner ck hf3 (λ b hb=>NK (fplt b hb) le3) (by simpa using hns₁) k1
  refine sG (λ n s'=>∃ i H',Inv (bZ X scope N' s3 (upd H s.heap.objs.size (.lst [])) fp) [] (ju mp σ) H' s'/\tn i s'.heap/\(∀ b∈fp,H' b=none)/\W i n H') ?_ m0
   ⟨0,_,I4,T.keep _ _ _ st λ b _ o e=>k0 b o e,λ b hb=>(hf3 b hb).1,w0⟩
  rintro n s5 ⟨i,H5,I5,st5,fr5,w5⟩
  rcases turn i n H5 w5 with ⟨stop,fin⟩ | ⟨go,Nx,hN,step⟩
  ·refine thn (T.done (bZ X scope N' s3 (upd H s.heap.objs.size (.lst [])) fp) rfl rfl rfl hc i [] s5 (ju mp σ) H5 _ I5 (stat fr5) st5 stop) λ r s6 ⟨hr,I6⟩=>?_;subst hr;have IO:Inv X pins σ H5 s6:=I3.outer hf3 I6;obtain ⟨m,hm,_⟩:=I6.loc;refine hRR _ s6 H5 IO fin ⟨m,hm⟩ I6.free (Pp I3.lt) I3.sz (λ x c e=>?_) λ p hp=>?_
   ·obtain ⟨v,q⟩:=I3.cell x c e;exact NZ q.lt
   ·exact NZ (NM (I3.pin p hp).1)
  ·refine thn (T.item (bZ X scope N' s3 (upd H s.heap.objs.size (.lst [])) fp) rfl rfl rfl hc i [] s5 (ju mp σ) H5 _ I5 (stat fr5) st5 go) λ r s6 ⟨u,hr,h6⟩=>?_;subst hr;refine thn h6 λ _ s7 ⟨x,H7,I7,r7,y7,st7,fr7⟩=>?_;have I7':=I7.pinned (stat fr7) (T.obj _ _ st7);have back:∀ {σ9:St} {H9:Hp} {s9:Nu},Inv (bZ X scope N' s3 (upd H s.heap.objs.size (.lst [])) fp) ([]++xV fp s7.heap) σ9 H9 s9->xG (ju mp σ) σ9->Nx H9 ->
     ∃ m,m < n/\∃ i H',Inv (bZ X scope N' s3 (upd H s.heap.objs.size (.lst [])) fp) [] (ju mp σ) H' s9/\tn i s9.heap/\(∀ b∈fp,H' b=none)/\W i m H':=λ {σ9 H9 s9} I9 ks n9=>by
    obtain ⟨m',hm,w9⟩:=hN H9 n9;refine ⟨m',hm,i+1,H9,(Inv.unpinned (pins:=[]) I9).weak ks.1.symm ks.2,T.keep _ _ _ st7 λ b hb o e=>(I9.pin (b,o) (Od _ (Od _ (qe hb e)))).1,λ b hb=>?_,w9⟩;obtain ⟨o,e,d⟩:=T.obj _ _ st7 b hb;exact (I9.pin (b,o) (Od _ (Od _ (qe hb e)))).2.1
   refine thn (hg _ s7 (ju mp σ) H7 x u _ I7' r7 (step x H7 y7)) λ _ s8 ⟨σ8,H8,I8,ks,q8⟩=>?_;refine thn (ht _ s8 σ8 H8 _ I8 q8) λ ok s9 ⟨H9,I9,q9⟩=>?_;cases ok with
   | false =>
    rw [if_neg NE] at q9 ⊢;exact back I9 ks q9
   | true =>
    rw [if_pos rfl] at q9 ⊢;refine thn (he _ s9 σ8 H9 _ I9 q9) λ y s10 ⟨yv,H10,I10,r10,ys,hD,hlen,nx⟩=>?_;refine thn (v9 _ s10 σ8 H10 (.ref s.heap.objs.size) [yv] (.ref s.heap.objs.size) [y] (λ _ H'=>Nx H') I10 rfl (.cons r10 .nil) ⟨_,ys,yv,rfl,rfl,hD,hlen,nx⟩) λ z s11 ⟨zv,H11,I11,_,n11⟩=>?_;exact back I11 ks n11
 subst hs3;exact codeAny_compStart_list (loop _) (T.self _ 0 _ _ _ (T.keep _ _ _ st λ b _ o e=>k0 b o e) (loop _))
theorem Ao (hc:X.calm=true) (ck:CompSc X scope N' mp) (hi:PI X tg iter wi)
  (hb:∀ s H fp,PG (bZ X scope N' s H fp) tg g/\PTs (bZ X scope N' s H fp) ifs tt/\PE (bZ X scope N' s H fp) elt te)
  (hs:∀ x,foldedSetIterable iter X.env x=pure x:=by intro _; rfl):PE X (.ListComp elt [⟨tg,iter,ifs,0⟩] scope pos) (Bp mp wi g tt te):=by
 intro pins s σ H Q I h;rw [eval_ListComp];refine wpAny_comprehension_free (use:=none) rfl hs (uv (ck.cells I.ok)) ck.kind ck.names ?_;refine thn (hi pins s σ H _ I h) λ v s1 h1=>thn h1 λ itv s2 h2=>?_;obtain ⟨it,fp,tn,J,H2,e,I2,T,st2,f2,q2⟩:=h2;subst e;refine yI hc ck hb I2 T st2 f2 (q2 _ (I2.hok.fresh (Np _))) λ C s' H' I' fin hm hC h1 h2 h3 h4=>?_;obtain ⟨m,hm⟩:=hm;refine ⟨m,hm,λ h' sb=>⟨.ref _,H',?_,rfl,fin⟩⟩;exact I'.turned (t':=s'.toks) (λ b o hb e=>(sb.2 b hb).trans e) hC h1 (.inr h2) h3 h4
theorem uE {i:Nat} {y:Str} {py spos:Pos} (hc:X.calm=true) (hN:X.N.Nodup) (hiy:X.N[i]?=some y) (hy:X.env.scope.names.lookup y=some .local) (ck:CompSc X scope N' mp) (hi:PI X tg iter wi)
  (hb:∀ s H fp,PG (bZ X scope N' s H fp) tg g/\PTs (bZ X scope N' s H fp) ifs tt/\PE (bZ X scope N' s H fp) elt te)
  (hsw:swapsWith (.ListComp elt [⟨tg,iter,ifs,0⟩] scope pos) (some (.Name y py)) spos.line X.env=pure true:=by rfl)
  (hs:∀ x,foldedSetIterable iter X.env x=pure x:=by intro _; rfl) :
  PS X (.Assign [.Name y py] (.ListComp elt [⟨tg,iter,ifs,0⟩] scope pos) spos) (Fw (Bp mp wi g tt te) (zX i)):=by
 intro pins s σ H D I h;rw [exec_Assign_Name_used _ _ _ _ hsw];refine NH (wpAny_standAt (NH ?_));show N7 _ X.A (do let _ <- comprehension (.ListComp elt [⟨tg,iter,ifs,0⟩] scope pos) scope X.env _ (newList []) false (eval iter X.env) (some (assign (.Name y py) X.env))) _ _ s;refine NH (wpAny_mono (wpAny_comprehension_free (use:=some (assign (.Name y py) X.env)) (Q:=λ _ s'=>SP X pins D .next s') rfl hs (uv (ck.cells I.ok)) ck.kind ck.names ?_) (λ _ s' hq=>NR (NR hq)) λ _ _ e=>e);refine thn (hi pins s σ H _ I h) λ v s1 h1=>thn h1 λ itv s2 h2=>?_;obtain ⟨it,fp,tn,J,H2,e,I2,T,st2,f2,q2⟩:=h2;subst e;refine yI hc ck hb I2 T st2 f2 (q2 _ (I2.hok.fresh (Np _))) λ C s' H' I' fin hm hC h1 h2 h3 h4=>?_;obtain ⟨m,hm⟩:=hm;refine wpAny_assign_Name (zE (v:=.ref s2.heap.objs.size) I' hN hiy (.inl hy) rfl (λ s'' I'' ⟨a,sb,ha⟩=>?_) (.inr hy));have hCa:C≠a:=by
  rcases ha with ha | ha
  ·rw [ha]; exact h1
  ·exact λ z=>h3 _ _ ha z.symm
 refine ⟨m,hm.sameBut sb hCa,λ h' sb'=>⟨_,H',?_,fin⟩⟩;exact I''.turned (t':=s''.toks) (λ b o hb e=>(sb'.2 b hb).trans e) hC h1 (.inr h2) h3 h4
end
end L2
namespace L2.PU
open PySem PySem.Spec PyProof.Rows
noncomputable def nst:Expr->Bool
 | .Starred _ _=>false
 | _=>true
theorem aQ {e:Expr} {es:List Expr} {env:Env} (h:nst e=true):Nw (e::es) env=(false,eval e env)::Nw es env:=by
 cases e <;> first | rfl | cases h
theorem iK {pos:Pos} {env:Env}:∀ {es:List Expr},es.all nst=true->(backTo pos (Nw es env)).any (·.1)=false
 | [],_=>rfl
 | e::es,h=>by
  rw [OR,Ol] at h;rw [aQ h.1];show (false||(backTo pos (Nw es env)).any (·.1))=false;rw [iK h.2]; rfl
noncomputable def kD:Key->Nh
 | .inl i=>.int i
 | .inr x=>.str x
mutual
noncomputable def Rel (K:Ni) (F:Hp):Nh->V->Prop
 | .none,v=>v=.non
 | .bool b,v=>v=.bl b
 | .int i,v=>v=.int i
 | .str x,v=>v=.str x
 | .tuple ds,v=>∃ a xs,v=.ref a/\SqT K F a xs/\RelL K F ds xs
 | .list ds,v=>∃ a xs,v=.ref a/\SqL K F a xs/\RelL K F ds xs
 | .dict es,v=>∃ a ks,v=.ref a/\Rd F a (.dK ks)/\RelD K F es ks
noncomputable def RelL (K:Ni) (F:Hp):List Nh->List V->Prop
 | [],xs=>xs=[]
 | d::ds,xs=>∃ x r,xs=x::r/\Rel K F d x/\RelL K F ds r
noncomputable def RelD (K:Ni) (F:Hp):List (Nh×Nh)->List (Key×V)->Prop
 | [],ks=>ks=[]
 | (d,e)::es,ks=>∃ k x r,ks=(k,x)::r/\d=kD k/\Rel K F e x/\RelD K F es r
end
section
variable {K:Ni} {F F' H H':Hp}
theorem dt {a:NI} {xs:List V} (e:Same H H') (h:SqT K H a xs):SqT K H' a xs:=by
 rcases h with (h | ⟨o,h⟩) | h
 ·exact .inl (.inl (e _ _ h))
 ·exact .inl (.inr ⟨o,e _ _ h⟩)
 ·exact .inr h
theorem HR {a:NI} {u:HO} (e:Same F F') (h:Rd F a u):Rd F' a u:=h.elim (λ h=>.inl (e _ _ h)) λ ⟨o,h⟩=>.inr ⟨o,e _ _ h⟩
theorem fZ {p:NI} (h:H p=none) (o:HO):Same H (upd H p o):=λ b u q=>by rw [aq (aF q h)]; exact q
mutual
theorem Rel.mono (e:Same F F'):∀ {d:Nh} {v:V},Rel K F d v->Rel K F' d v
 | .none,v,h=>by unfold Rel at h ⊢; exact h
 | .bool b,v,h=>by unfold Rel at h ⊢; exact h
 | .int i,v,h=>by unfold Rel at h ⊢; exact h
 | .str x,v,h=>by unfold Rel at h ⊢; exact h
 | .tuple ds,v,h=>by
  unfold Rel at h ⊢;obtain ⟨a,xs,h1,h2,h3⟩:=h;exact ⟨a,xs,h1,dt e h2,RelL.mono e h3⟩
 | .list ds,v,h=>by
  unfold Rel at h ⊢;obtain ⟨a,xs,h1,h2,h3⟩:=h;exact ⟨a,xs,h1,e.seq h2,RelL.mono e h3⟩
 | .dict es,v,h=>by
  unfold Rel at h ⊢;obtain ⟨a,ks,h1,h2,h3⟩:=h;exact ⟨a,ks,h1,HR e h2,RelD.mono e h3⟩
theorem RelL.mono (e:Same F F'):∀ {ds:List Nh} {xs:List V},RelL K F ds xs->RelL K F' ds xs
 | [],xs,h=>by unfold RelL at h ⊢; exact h
 | d::ds,xs,h=>by
  unfold RelL at h ⊢;obtain ⟨x,r,h1,h2,h3⟩:=h;exact ⟨x,r,h1,Rel.mono e h2,RelL.mono e h3⟩
theorem RelD.mono (e:Same F F'):∀ {es:List (Nh×Nh)} {ks:List (Key×V)},RelD K F es ks->RelD K F' es ks
 | [],ks,h=>by unfold RelD at h ⊢; exact h
 | (d,e')::es,ks,h=>by
  unfold RelD at h ⊢;obtain ⟨k,x,r,h1,h2,h3,h4⟩:=h;exact ⟨k,x,r,h1,h2,Rel.mono e h3,RelD.mono e h4⟩
end
theorem Rel.dct {es:List (Nh×Nh)} {v:V} (h:Rel K F (.dict es) v):∃ a ks,v=.ref a/\Rd F a (.dK ks)/\RelD K F es ks:=by unfold Rel at h; exact h
theorem DF {es:List (Nh×Nh)} {a:NI} {ks:List (Key×V)} (h:Rd F a (.dK ks)) (r:RelD K F es ks):Rel K F (.dict es) (.ref a):=by unfold Rel; exact ⟨a,ks,rfl,h,r⟩
theorem RelD.nil:RelD K F [] []:=by unfold RelD; rfl
theorem RelD.nil_of {ks:List (Key×V)} (h:RelD K F [] ks):ks=[]:=by unfold RelD at h; exact h
theorem RelD.cons_of {d e:Nh} {es:List (Nh×Nh)} {ks:List (Key×V)} (h:RelD K F ((d,e)::es) ks):∃ k x r,ks=(k,x)::r/\d=kD k/\Rel K F e x/\RelD K F es r:=by unfold RelD at h; exact h
theorem RelD.cons {k:Key} {e:Nh} {x:V} {es:List (Nh×Nh)} {ks:List (Key×V)} (h:Rel K F e x) (t:RelD K F es ks):RelD K F ((kD k,e)::es) ((k,x)::ks):=by unfold RelD; exact ⟨k,x,ks,rfl,rfl,h,t⟩
noncomputable def prs (kvs:List (Key×Nh)):List (Nh×Nh):=kvs.map λ e=>(kD e.1,e.2)
theorem RelL.nil:RelL K F [] []:=by unfold RelL; rfl
theorem RelL.cons {d:Nh} {ds:List Nh} {x:V} {xs:List V} (h:Rel K F d x) (t:RelL K F ds xs):RelL K F (d::ds) (x::xs):=by unfold RelL; exact ⟨x,xs,rfl,h,t⟩
theorem RelL.nil_of {xs:List V} (h:RelL K F [] xs):xs=[]:=by unfold RelL at h; exact h
theorem RelL.cons_of {d:Nh} {ds:List Nh} {xs:List V} (h:RelL K F (d::ds) xs):∃ x r,xs=x::r/\Rel K F d x/\RelL K F ds r:=by unfold RelL at h; exact h
theorem RelL.length:∀ {ds:List Nh} {xs:List V},RelL K F ds xs->xs.length=ds.length
 | [],xs,h=>by rw [h.nil_of]; rfl
 | d::ds,xs,h=>by
  obtain ⟨x,r,rfl,_,h3⟩:=h.cons_of;rw [NN,NN,RelL.length h3]
theorem RelL.append:∀ {ds es:List Nh} {xs ys:List V},RelL K F ds xs->RelL K F es ys->RelL K F (ds++es) (xs++ys)
 | [],es,xs,ys,h,k=>by rw [h.nil_of]; exact k
 | d::ds,es,xs,ys,h,k=>by
  obtain ⟨x,r,rfl,h2,h3⟩:=h.cons_of;exact RelL.cons h2 (RelL.append h3 k)
theorem RelL.get:∀ {ds:List Nh} {xs:List V} {i:Nat} {d:Nh},RelL K F ds xs->ds[i]?=some d->∃ x,xs[i]?=some x/\Rel K F d x
 | [],_,_,_,_,e=>by simp at e
 | d::ds,xs,0,_,h,e=>by
  obtain ⟨x,r,rfl,h2,h3⟩:=h.cons_of;have e':d=_:=Option.some.inj e;exact ⟨x,rfl,e' ▸ h2⟩
 | d::ds,xs,i+1,d',h,e=>by
  obtain ⟨x,r,rfl,h2,h3⟩:=h.cons_of;exact RelL.get (i:=i) h3 (by simpa using e)
theorem RelL.take:∀ {ds:List Nh} {xs:List V} (n:Nat),RelL K F ds xs->RelL K F (ds.take n) (xs.take n)
 | _,_,0,_=>by rw [List.take_zero,List.take_zero]; exact .nil
 | [],xs,n+1,h=>by rw [h.nil_of]; exact .nil
 | d::ds,xs,n+1,h=>by
  obtain ⟨x,r,rfl,h2,h3⟩:=h.cons_of;exact RelL.cons h2 (RelL.take n h3)
theorem RelL.drop:∀ {ds:List Nh} {xs:List V} (n:Nat),RelL K F ds xs->RelL K F (ds.drop n) (xs.drop n)
 | _,_,0,h=>by simpa using h
 | [],xs,n+1,h=>by rw [h.nil_of]; exact .nil
 | d::ds,xs,n+1,h=>by
  obtain ⟨x,r,rfl,h2,h3⟩:=h.cons_of;exact RelL.drop n h3
theorem RelL.reverse:∀ {ds:List Nh} {xs:List V},RelL K F ds xs->RelL K F ds.reverse xs.reverse
 | [],xs,h=>by rw [h.nil_of]; exact .nil
 | d::ds,xs,h=>by
  obtain ⟨x,r,rfl,h2,h3⟩:=h.cons_of;rw [Pd,Pd];exact RelL.append (RelL.reverse h3) (.cons h2 .nil)
theorem Rel.non {v:V} (h:Rel K F .none v):v=.non:=by unfold Rel at h; exact h
theorem Rel.bl {b:Bool} {v:V} (h:Rel K F (.bool b) v):v=.bl b:=by unfold Rel at h; exact h
theorem Rel.int {i:Int} {v:V} (h:Rel K F (.int i) v):v=.int i:=by unfold Rel at h; exact h
theorem Rel.str {x:Str} {v:V} (h:Rel K F (.str x) v):v=.str x:=by unfold Rel at h; exact h
theorem Rel.tup {ds:List Nh} {v:V} (h:Rel K F (.tuple ds) v):∃ a xs,v=.ref a/\SqT K F a xs/\RelL K F ds xs:=by unfold Rel at h; exact h
theorem Rel.lst {ds:List Nh} {v:V} (h:Rel K F (.list ds) v):∃ a xs,v=.ref a/\SqL K F a xs/\RelL K F ds xs:=by unfold Rel at h; exact h
theorem tf:Rel K F .none .non:=by unfold Rel; rfl
theorem gp {b:Bool}:Rel K F (.bool b) (.bl b):=by unfold Rel; rfl
theorem cz {i:Int}:Rel K F (.int i) (.int i):=by unfold Rel; rfl
theorem qa {x:Str}:Rel K F (.str x) (.str x):=by unfold Rel; rfl
theorem jc {ds:List Nh} {a:NI} {xs:List V} (h:SqT K F a xs) (r:RelL K F ds xs):Rel K F (.tuple ds) (.ref a):=by unfold Rel; exact ⟨a,xs,rfl,h,r⟩
theorem jO {ds:List Nh} {a:NI} {xs:List V} (h:SqL K F a xs) (r:RelL K F ds xs):Rel K F (.list ds) (.ref a):=by unfold Rel; exact ⟨a,xs,rfl,h,r⟩
theorem RelL.ints:∀ (ns:List Int),RelL K F (ns.map NS) (ns.map V.int)
 | []=>.nil
 | _::r=>.cons cz (RelL.ints r)
structure Gr (F H F' H':Hp):Prop where
 ff:Same F F'
 hh:Same H H'
 fh:Same F' H'
 new:∀ b,F' b≠none->F b≠none\/H b=none
theorem Gr.refl (h:Same F H):Gr F H F H:=⟨.refl _,.refl _,h,λ _ q=>.inl q⟩
theorem Gr.trans {F1 H1 F2 H2:Hp} (a:Gr F H F1 H1) (b:Gr F1 H1 F2 H2):Gr F H F2 H2 :=
 ⟨a.ff.trans b.ff,a.hh.trans b.hh,b.fh,λ c q=>(b.new c q).elim (λ q=>a.new c q) λ q=>.inr (a.hh.free q)⟩
theorem Gr.one {p:NI} {o:HO} (h:Same F H) (hp:H p=none):Gr F H (upd F p o) (upd H p o) where
 ff:=fZ (h.free hp) o
 hh:=fZ hp o
 fh:=λ b u q=>by
  by_cases e:b=p
  ·subst e; rw [au] at q ⊢; exact q
  ·rw [aq e] at q ⊢; exact h _ _ q
 new:=λ b q=>by
  by_cases e:b=p
  ·subst e; exact .inr hp
  ·rw [aq e] at q; exact .inl q
end
inductive Sl where
 | un
 | val (d:Nh)
 | own (ds:List Nh)
 | odc (kvs:List (Key×Nh))
 | ob (fs:Str->Option Nh)
noncomputable abbrev En:=List Sl
noncomputable def lL:Sl->Bool
 | .own _=>true
 | .odc _=>true
 | _=>false
noncomputable def CellR (K:Ni) (F:Hp):Sl->HO->Prop
 | .own ds,o=>∃ xs,o=.lst xs/\RelL K F ds xs
 | .odc kvs,o=>∃ ks,o=.dK ks/\RelD K F (prs kvs) ks
 | _,_=>False
noncomputable def ObF (K:Ni) (C:NI) (F:Hp) (fs:Str->Option Nh) (xs:List (Str×V)):Prop:=∀ f d,fs f=some d->NoAttr K C f/\∃ v,xs.lookup f=some v/\Rel K F d v
structure EnR (K:Ni) (He F H:Hp) (σ:St) (η:En):Prop where
 len:η.length=σ.length
 val:∀ (i:Nat) d,η[i]?=some (.val d)->∃ v,σ[i]?=some (some v)/\Rel K F d v
 cel:∀ (i:Nat) sl,η[i]?=some sl->lL sl=true->∃ p o,σ[i]?=some (some (.ref p))/\F p=none/\He p=none/\H p=some o/\CellR K F sl o
 apart:∀ (i j:Nat) a b,η[i]?=some a->η[j]?=some b->lL a=true->lL b=true->i≠j->σ[i]?≠σ[j]?
 obs:∀ (i:Nat) fs,η[i]?=some (.ob fs)->∃ p C dx xs,σ[i]?=some (some (.ref p))/\H p=some (.ins C dx xs)/\Cls K C/\ObF K C F fs xs
structure Bd where
 F:Hp
 H:Hp
structure SR (K:Ni) (B:Bd) (F H:Hp) (σ:St) (η:En):Prop where
 gr:Gr B.F B.H F H
 en:EnR K B.H F H σ η
section
variable {K:Ni} {B:Bd} {F H F' H':Hp} {σ:St} {η:En}
theorem CellR.mono (e:Same F F'):∀ {sl:Sl} {o:HO},CellR K F sl o->CellR K F' sl o
 | .own _,_,⟨xs,h1,h2⟩=>⟨xs,h1,h2.mono e⟩
 | .odc _,_,⟨xs,h1,h2⟩=>⟨xs,h1,h2.mono e⟩
 | .un,_,h=>h.elim
 | .val _,_,h=>h.elim
 | .ob _,_,h=>h.elim
theorem ObF.mono {C:NI} {fs:Str->Option Nh} {xs:List (Str×V)} (e:Same F F') (h:ObF K C F fs xs):ObF K C F' fs xs:=λ f d q=>let ⟨a,v,b,c⟩:=h f d q; ⟨a,v,b,c.mono e⟩
theorem CellR.noins {sl:Sl} {o:HO} (h:CellR K F sl o) (C dx:NI) (xs:List (Str×V)):o≠.ins C dx xs:=by
 cases sl with
 | own ds=>obtain ⟨ys,rfl,_⟩:=h; intro z; cases z
 | odc ds=>obtain ⟨ys,rfl,_⟩:=h; intro z; cases z
 | un=>exact h.elim
 | val _=>exact h.elim
 | ob _=>exact h.elim
theorem EnR.own {He:Hp} (r:EnR K He F H σ η) (i:Nat) (ds:List Nh) (e:η[i]?=some (.own ds)):∃ p xs,σ[i]?=some (some (.ref p))/\F p=none/\He p=none/\H p=some (.lst xs)/\RelL K F ds xs:=by
 obtain ⟨p,o,h1,h2,h3,h4,xs,rfl,h5⟩:=r.cel i _ e rfl;exact ⟨p,xs,h1,h2,h3,h4,h5⟩
theorem EnR.odc {He:Hp} (r:EnR K He F H σ η) (i:Nat) (kvs:List (Key×Nh)) (e:η[i]?=some (.odc kvs)):∃ p ks,σ[i]?=some (some (.ref p))/\F p=none/\He p=none/\H p=some (.dK ks)/\RelD K F (prs kvs) ks:=by
 obtain ⟨p,o,h1,h2,h3,h4,xs,rfl,h5⟩:=r.cel i _ e rfl;exact ⟨p,xs,h1,h2,h3,h4,h5⟩
theorem EnR.grow {He:Hp} (r:EnR K He F H σ η) (g:Gr F H F' H'):EnR K He F' H' σ η where
 len:=r.len
 val:=λ i d e=>let ⟨v,e1,e2⟩:=r.val i d e; ⟨v,e1,e2.mono g.ff⟩
 cel:=λ i sl e hs=>by
  obtain ⟨p,o,e1,e2,e3,e4,e5⟩:=r.cel i sl e hs;refine ⟨p,o,e1,?_,e3,g.hh _ _ e4,e5.mono g.ff⟩;cases q:F' p with
  | none=>rfl
  | some o =>
   rcases g.new p (by rw [q]; simp) with z | z
   ·exact absurd e2 z
   ·rw [e4] at z; cases z
 apart:=r.apart
 obs:=λ i fs e=>let ⟨p,C,dx,xs,e1,e2,e3,e4⟩:=r.obs i fs e; ⟨p,C,dx,xs,e1,g.hh _ _ e2,e3,e4.mono g.ff⟩
theorem SR.grow (r:SR K B F H σ η) (g:Gr F H F' H'):SR K B F' H' σ η:=⟨r.gr.trans g,r.en.grow g⟩
theorem SR.same (r:SR K B F H σ η):Same F H:=r.gr.fh
theorem EnR.set {He:Hp} (r:EnR K He F H σ η) (i:Nat) {d:Nh} {v:V} (h:Rel K F d v):EnR K He F H (σ.set i (some v)) (η.set i (.val d)) where
 len:=by rw [NC,NC]; exact r.len
 val:=λ j d' e=>by
  by_cases hj:i=j
  ·subst hj;by_cases hl:i < η.length
   ·rw [Nz hl] at e;have e':d=d':=by injection (Option.some.inj e)
    subst e';exact ⟨v,by rw [Nz (by rw [<- r.len]; exact hl)],h⟩
   ·rw [N3 (by rw [NC]; omega)] at e; cases e
  ·rw [Nj hj] at e ⊢; exact r.val j d' e
 cel:=λ j sl e hs=>by
  by_cases hj:i=j
  ·subst hj;by_cases hl:i < η.length
   ·rw [Nz hl] at e;have e':Sl.val d=sl:=Option.some.inj e;subst e';cases hs
   ·rw [N3 (by rw [NC]; omega)] at e; cases e
  ·rw [Nj hj] at e ⊢; exact r.cel j sl e hs
 apart:=λ j k a b ej ek ha hb hjk=>by
  have no:∀ (j:Nat) a,(η.set i (.val d))[j]?=some a->lL a=true->i≠j:=λ j a ej ha hj=>by
   subst hj;by_cases hl:i < η.length
   ·rw [Nz hl] at ej;have e':Sl.val d=a:=Option.some.inj ej;subst e';cases ha
   ·rw [N3 (by rw [NC]; omega)] at ej; cases ej
  have nj:=no j a ej ha;have nk:=no k b ek hb;rw [Nj nj] at ej ⊢;rw [Nj nk] at ek ⊢;exact r.apart j k a b ej ek ha hb hjk
 obs:=λ j fs e=>by
  by_cases hj:i=j
  ·subst hj;by_cases hl:i < η.length
   ·rw [Nz hl] at e; cases e
   ·rw [N3 (by rw [NC]; omega)] at e; cases e
  ·rw [Nj hj] at e ⊢; exact r.obs j fs e
theorem EnR.setCell {He:Hp} (r:EnR K He F H σ η) (i:Nat) {sl:Sl} {p:NI} {o:HO} (hsl:lL sl=true) (h1:F p=none) (h2:He p=none) (h3:H p=some o) (h4:CellR K F sl o)
  (h5:∀ (j:Nat),σ[j]?=some (some (.ref p))->∀ a,η[j]?=some a->lL a=false):EnR K He F H (σ.set i (some (.ref p))) (η.set i sl) where
 len:=by rw [NC,NC]; exact r.len
 val:=λ j d' e=>by
  by_cases hj:i=j
  ·subst hj;by_cases hl:i < η.length
   ·rw [Nz hl] at e;have e':sl=.val d':=Option.some.inj e;subst e';cases hsl
   ·rw [N3 (by rw [NC]; omega)] at e; cases e
  ·rw [Nj hj] at e ⊢; exact r.val j d' e
 cel:=λ j a e ha=>by
  by_cases hj:i=j
  ·subst hj;by_cases hl:i < η.length
   ·rw [Nz hl] at e;have e':sl=a:=Option.some.inj e;subst e';exact ⟨p,o,by rw [Nz (by rw [<- r.len]; exact hl)],h1,h2,h3,h4⟩
   ·rw [N3 (by rw [NC]; omega)] at e; cases e
  ·rw [Nj hj] at e ⊢; exact r.cel j a e ha
 apart:=λ j k a b ej ek ha hb hjk=>by
  by_cases hj:i=j
  ·subst hj;have hl:i < η.length:=by
    by_cases hl:i < η.length
    ·exact hl
    ·rw [N3 (by rw [NC]; omega)] at ej; cases ej
   rw [Nj hjk] at ek ⊢;rw [Nz (by rw [<- r.len]; exact hl)];exact λ z=>by rw [h5 k z.symm b ek] at hb; cases hb
  ·by_cases hk:i=k
   ·subst hk;have hl:i < η.length:=by
     by_cases hl:i < η.length
     ·exact hl
     ·rw [N3 (by rw [NC]; omega)] at ek; cases ek
    rw [Nj hj] at ej ⊢;rw [Nz (by rw [<- r.len]; exact hl)];exact λ z=>by rw [h5 j z a ej] at ha; cases ha
   ·rw [Nj hj] at ej ⊢;rw [Nj hk] at ek ⊢;exact r.apart j k a b ej ek ha hb hjk
 obs:=λ j fs e=>by
  by_cases hj:i=j
  ·subst hj;by_cases hl:i < η.length
   ·rw [Nz hl] at e;have e':sl=.ob fs:=Option.some.inj e;subst e';cases hsl
   ·rw [N3 (by rw [NC]; omega)] at e; cases e
  ·rw [Nj hj] at e ⊢; exact r.obs j fs e
theorem EnR.setOwn {He:Hp} (r:EnR K He F H σ η) (i:Nat) {ds:List Nh} {p:NI} {xs:List V} (h1:F p=none) (h2:He p=none) (h3:H p=some (.lst xs)) (h4:RelL K F ds xs)
  (h5:∀ (j:Nat),σ[j]?=some (some (.ref p))->∀ a,η[j]?=some a->lL a=false):EnR K He F H (σ.set i (some (.ref p))) (η.set i (.own ds)):=r.setCell i rfl h1 h2 h3 ⟨xs,rfl,h4⟩ h5
theorem EnR.notown {He:Hp} (r:EnR K He F H σ η) {p:NI} (h:H p=none):∀ (j:Nat),σ[j]?=some (some (.ref p))->∀ a,η[j]?=some a->lL a=false:=λ j e a z=>by
 cases ha:lL a with
 | false=>rfl
 | true =>
  obtain ⟨q,o,e1,_,_,e4,_⟩:=r.cel j a z ha;rw [e] at e1
  have:p=q:=by injection (Option.some.inj (Option.some.inj e1))
  rw [this,e4] at h; cases h
theorem EnR.putCell {He:Hp} (r:EnR K He F H σ η) {i:Nat} {sl sl':Sl} {p:NI} {o:HO} (hi:η[i]?=some sl) (hs:lL sl=true) (hs':lL sl'=true) (hσ:σ[i]?=some (some (.ref p))) (h4:CellR K F sl' o) :
  EnR K He F (upd H p o) σ (η.set i sl') where
 len:=by rw [NC]; exact r.len
 val:=λ j d' e=>by
  by_cases hj:i=j
  ·subst hj;rw [Nz (Nr.mp hi).1] at e;have e':sl'=.val d':=Option.some.inj e;subst e';cases hs'
  ·rw [Nj hj] at e; exact r.val j d' e
 cel:=λ j a e ha=>by
  by_cases hj:i=j
  ·subst hj;rw [Nz (Nr.mp hi).1] at e;have e':sl'=a:=Option.some.inj e;subst e';obtain ⟨q,o1,e1,e2,e3,e4,e5⟩:=r.cel i sl hi hs;rw [hσ] at e1
   have:p=q:=by injection (Option.some.inj (Option.some.inj e1))
   subst this;exact ⟨p,o,hσ,e2,e3,au,h4⟩
  ·rw [Nj hj] at e;obtain ⟨q,o1,e1,e2,e3,e4,e5⟩:=r.cel j a e ha;refine ⟨q,o1,e1,e2,e3,?_,e5⟩;rw [aq]
   ·exact e4
   ·intro z;subst z;exact r.apart i j sl a hi e hs ha hj (by rw [hσ,e1])
 apart:=λ j k a b ej ek ha hb hjk=>by
  have aa:∀ (j:Nat) a,(η.set i sl')[j]?=some a->lL a=true->∃ a',η[j]?=some a'/\lL a'=true:=λ j a e ha=>by
   by_cases hj:i=j
   ·subst hj; exact ⟨sl,hi,hs⟩
   ·rw [Nj hj] at e; exact ⟨a,e,ha⟩
  obtain ⟨a',e1,f1⟩:=aa j a ej ha;obtain ⟨b',e2,f2⟩:=aa k b ek hb;exact r.apart j k a' b' e1 e2 f1 f2 hjk
 obs:=λ j fs e=>by
  by_cases hj:i=j
  ·subst hj;rw [Nz (Nr.mp hi).1] at e;have e':sl'=.ob fs:=Option.some.inj e;subst e';cases hs'
  ·rw [Nj hj] at e;obtain ⟨q,C,dx,xs,e1,e2,e3,e4⟩:=r.obs j fs e;refine ⟨q,C,dx,xs,e1,?_,e3,e4⟩;obtain ⟨p',o1,f1,_,_,f4,f5⟩:=r.cel i sl hi hs;rw [hσ] at f1
   have:p=p':=by injection (Option.some.inj (Option.some.inj f1))
   subst this;rw [aq]
   ·exact e2
   ·intro z;subst z;rw [f4] at e2;exact f5.noins _ _ _ (Option.some.inj e2)
theorem EnR.putOwn {He:Hp} (r:EnR K He F H σ η) {i:Nat} {ds es:List Nh} {p:NI} {ys:List V} (hi:η[i]?=some (.own ds)) (hσ:σ[i]?=some (some (.ref p))) (h4:RelL K F es ys) :
  EnR K He F (upd H p (.lst ys)) σ (η.set i (.own es)):=r.putCell hi rfl rfl hσ ⟨ys,rfl,h4⟩
theorem SR.freezeCell (r:SR K B F H σ η) {i:Nat} {sl:Sl} {d:Nh} {p:NI} {o:HO} (hi:η[i]?=some sl) (hs:lL sl=true) (e1:σ[i]?=some (some (.ref p))) (e2:F p=none) (e3:B.H p=none) (e4:H p=some o) (rel:Rel K (upd F p o) d (.ref p)) :
  Same F (upd F p o)/\SR K B (upd F p o) H σ (η.set i (.val d)):=by
 have sn:=fZ (H:=F) e2 o;refine ⟨sn,⟨⟨r.gr.ff.trans sn,r.gr.hh,?_,?_⟩,?_⟩⟩
 ·intro b u q;by_cases e:b=p
  ·subst e; rw [au] at q; rw [<- q]; exact e4
  ·rw [aq e] at q; exact r.gr.fh _ _ q
 ·intro b q;by_cases e:b=p
  ·subst e; exact .inr e3
  ·rw [aq e] at q; exact r.gr.new b q
 ·refine ⟨by rw [NC]; exact r.en.len,λ j d' e=>?_,λ j a e ha=>?_,λ j k a b ej ek ha hb hjk=>?_,λ j fs e=>?_⟩
  ·by_cases hj:i=j
   ·subst hj;rw [Nz (Nr.mp hi).1] at e;have e':d=d':=by injection (Option.some.inj e)
    subst e';exact ⟨_,e1,rel⟩
   ·rw [Nj hj] at e;obtain ⟨v,q1,q2⟩:=r.en.val j d' e;exact ⟨v,q1,q2.mono sn⟩
  ·by_cases hj:i=j
   ·subst hj;rw [Nz (Nr.mp hi).1] at e;have e':Sl.val d=a:=Option.some.inj e;subst e';cases ha
   ·rw [Nj hj] at e;obtain ⟨q,o1,q1,q2,q3,q4,q5⟩:=r.en.cel j a e ha;refine ⟨q,o1,q1,?_,q3,q4,q5.mono sn⟩;rw [aq]
    ·exact q2
    ·intro z;subst z;exact r.en.apart i j sl a hi e hs ha hj (by rw [e1,q1])
  ·have no:∀ (j:Nat) a,(η.set i (.val d))[j]?=some a->lL a=true->i≠j:=λ j a ej ha hj=>by
    subst hj;rw [Nz (Nr.mp hi).1] at ej;have e':Sl.val d=a:=Option.some.inj ej;subst e';cases ha
   have nj:=no j a ej ha;have nk:=no k b ek hb;rw [Nj nj] at ej;rw [Nj nk] at ek;exact r.en.apart j k a b ej ek ha hb hjk
  ·by_cases hj:i=j
   ·subst hj;rw [Nz (Nr.mp hi).1] at e; cases e
   ·rw [Nj hj] at e;obtain ⟨q,C,dx,xs,q1,q2,q3,q4⟩:=r.en.obs j fs e;exact ⟨q,C,dx,xs,q1,q2,q3,q4.mono sn⟩
theorem SR.freeze (r:SR K B F H σ η) {i:Nat} {ds:List Nh} (hi:η[i]?=some (.own ds)):∃ F' p,σ[i]?=some (some (.ref p))/\Same F F'/\SR K B F' H σ (η.set i (.val (.list ds)))/\Rel K F' (.list ds) (.ref p):=by
 obtain ⟨p,xs,e1,e2,e3,e4,e5⟩:=r.en.own i ds hi;have rel:Rel K (upd F p (.lst xs)) (.list ds) (.ref p):=jO (SqL.of au) (e5.mono (fZ (H:=F) e2 (.lst xs)));obtain ⟨h1,h2⟩:=r.freezeCell hi rfl e1 e2 e3 e4 rel;exact ⟨_,p,e1,h1,h2,rel⟩
theorem SR.freezeD (r:SR K B F H σ η) {i:Nat} {kvs:List (Key×Nh)} (hi:η[i]?=some (.odc kvs)):∃ F' p,σ[i]?=some (some (.ref p))/\Same F F'/\SR K B F' H σ (η.set i (.val (.dict (prs kvs))))/\Rel K F' (.dict (prs kvs)) (.ref p):=by
 obtain ⟨p,ks,e1,e2,e3,e4,e5⟩:=r.en.odc i kvs hi;have rel:Rel K (upd F p (.dK ks)) (.dict (prs kvs)) (.ref p):=DF (.inl au) (e5.mono (fZ (H:=F) e2 (.dK ks)));obtain ⟨h1,h2⟩:=r.freezeCell hi rfl e1 e2 e3 e4 rel;exact ⟨_,p,e1,h1,h2,rel⟩
end
section
variable (K:Ni) (B:Bd)
noncomputable def tE (f:En->Option Nh):TE:=λ σ H Q=>∃ F η d,SR K B F H σ η/\f η=some d/\∀ v F' H',Gr F H F' H'->Rel K F' d v->Q v H'
noncomputable def tO (f:En->Option (List Nh)):TE:=λ σ H Q=>∃ F η ds,SR K B F H σ η/\f η=some ds/\∀ p xs F' H',Gr F H F' H'->H p=none->F' p=none->H' p=some (.lst xs)->RelL K F' ds xs->Q (.ref p) H'
noncomputable def tT (f:En->Option Bool):TT:=λ σ H Q=>∃ F η b,SR K B F H σ η/\f η=some b/\∀ F' H',Gr F H F' H'->Q b H'
noncomputable def tA (f:En->Option (List Nh)):TA:=λ σ H Q=>∃ F η ds,SR K B F H σ η/\f η=some ds/\∀ vs F' H',Gr F H F' H'->RelL K F' ds vs->Q vs H'
end
noncomputable def E (X:Cx) (B:Bd) (e:Expr) (f:En->Option Nh):Prop:=PE X e (tE X.K B f)
noncomputable def EO (X:Cx) (B:Bd) (e:Expr) (f:En->Option (List Nh)):Prop:=PE X e (tO X.K B f)
noncomputable def T (X:Cx) (B:Bd) (e:Expr) (f:En->Option Bool):Prop:=PT X e (tT X.K B f)
noncomputable def TW (X:Cx) (B:Bd) (e:Expr) (f:En->Option Bool):Prop:=PW X e (tT X.K B f)
noncomputable def A (X:Cx) (B:Bd) (es:List Expr) (f:En->Option (List Nh)):Prop:=PA X es (tA X.K B f)
theorem PE.imp {X:Cx} {e:Expr} {t t':TE} (h:PE X e t) (i:∀ σ H Q,t' σ H Q->t σ H Q):PE X e t':=λ pins s σ H Q I q=>h pins s σ H Q I (i σ H Q q)
theorem PT.imp {X:Cx} {e:Expr} {t t':TT} (h:PT X e t) (i:∀ σ H Q,t' σ H Q->t σ H Q):PT X e t':=λ pins s σ H Q I q=>h pins s σ H Q I (i σ H Q q)
theorem PW.imp {X:Cx} {e:Expr} {t t':TT} (h:PW X e t) (i:∀ σ H Q,t' σ H Q->t σ H Q):PW X e t':=λ wh pins s σ H Q I q=>h wh pins s σ H Q I (i σ H Q q)
theorem PA.imp {X:Cx} {e:List Expr} {t t':TA} (h:PA X e t) (i:∀ σ H Q,t' σ H Q->t σ H Q):PA X e t':=λ pos pins s σ H Q I q=>h pos pins s σ H Q I (i σ H Q q)
noncomputable def eV (i:Nat):En->Option Nh:=λ η=>match η[i]? with | some (.val d)=>some d | _=>none
noncomputable def eC (d:Nh):En->Option Nh:=λ _=>some d
noncomputable def l1 (o:Nh->Option Nh) (f:En->Option Nh):En->Option Nh:=λ η=>(f η).bind o
noncomputable def l2 (o:Nh->Nh->Option Nh) (f g:En->Option Nh):En->Option Nh:=λ η=>(f η).bind λ x=>(g η).bind λ y=>o x y
noncomputable def aN:En->Option (List Nh):=λ _=>some []
noncomputable def aC (f:En->Option Nh) (g:En->Option (List Nh)):En->Option (List Nh):=λ η=>(f η).bind λ x=>(g η).bind λ xs=>some (x::xs)
noncomputable def lA (o:List Nh->Option Nh) (f:En->Option (List Nh)):En->Option Nh:=λ η=>(f η).bind o
section
variable {X:Cx} {B:Bd} {a b c e:Expr} {es:List Expr} {f g h:En->Option Nh} {fs:En->Option (List Nh)} {pos:Pos}
theorem ab {α β:Type} {o:Option α} {k:α->Option β} {y:β} (h:o.bind k=some y):∃ x,o=some x/\k x=some y:=by
 cases o with
 | none=>cases h
 | some x=>exact ⟨x,rfl,h⟩
noncomputable def Ad2 (K:Ni) (r:R2) (o:Nh->Nh->Option Nh):Prop :=
 ∀ F H x y dx dy d Q,Same F H->Rel K F dx x->Rel K F dy y->o dx dy=some d->(∀ v F' H',Gr F H F' H'->Rel K F' d v->Q v H')->r x y H Q
theorem t2 {K:Ni} {r:R2} {o:Nh->Nh->Option Nh} (ad:Ad2 K r o):∀ σ H Q,tE K B (l2 o f g) σ H Q->tOp r (tE K B f) (tE K B g) σ H Q:=by
 intro σ H Q ⟨F,η,d,sr,hd,q⟩;obtain ⟨x,hx,hd⟩:=ab hd;obtain ⟨y,hy,hd⟩:=ab hd;refine ⟨F,η,x,sr,hx,λ v F1 H1 g1 rv=>⟨F1,η,y,sr.grow g1,hy,λ u F2 H2 g2 ru=>?_⟩⟩;exact ad F2 H2 v u x y d Q g2.fh (rv.mono g2.ff) ru hd λ w F3 H3 g3 rw'=>q w F3 H3 ((g1.trans g2).trans g3) rw'
theorem E.op {op:Operator} {r:R2} {o:Nh->Nh->Option Nh} (ho:OpR X (binaryOp op) r) (ad:Ad2 X.K r o) (ha:E X B a f) (hb:E X B b g):E X B (.BinOp a op b pos) (l2 o f g) :=
 PE.imp (FR ho ha hb) (t2 ad)
theorem E.cmp {op:CmpOp} {r:R2} {o:Nh->Nh->Option Nh} (ho:OpR X (On op) r) (ad:Ad2 X.K r o) (hm:Oa op b=false) (ha:E X B a f) (hb:E X B b g):E X B (.Compare a [op] [b] pos) (l2 o f g) :=
 PE.imp (DO ho ha hb hm) (t2 ad)
theorem E.ix {r:R2} {o:Nh->Nh->Option Nh} (hr:IxR X r) (ad:Ad2 X.K r o) (ha:E X B a f) (hb:E X B b g) (hs:vO b:=by intro _ _; rfl):E X B (.Subscript a b pos) (l2 o f g) :=
 PE.imp (Jz hr ha hb hs) (t2 ad)
theorem av (i:Nat) {x:Str} (hN:X.N[i]?=some x:=by rfl) (hv:Vis X.env.scope x:=by first | exact Or.inl rfl | exact Or.inr (Or.inl rfl) | exact Or.inr (Or.inr rfl)) (hd:(x==("__debug__" : Str))=false:=by decide)
  (hcd:(x==("__classdict__" : Str))=false:=by decide):E X B (.Name x pos) (eV i) :=
 PE.imp (rB hN hv hd hcd) λ σ H Q ⟨F,η,d,sr,hd,q⟩=>by
  unfold eV at hd;split at hd
  ·rename_i d' e;cases hd;obtain ⟨v,e1,e2⟩:=sr.en.val i d e;exact ⟨v,e1,q v F H (.refl sr.same) e2⟩
  ·cases hd
theorem Bq {K:Ni} {v:V} {d:Nh} (h:∀ F,Rel K F d v):∀ σ H Q,tE K B (eC d) σ H Q->tC v σ H Q:=λ σ H Q ⟨F,η,d',sr,hd,q⟩=>by
 have e:d=d':=Option.some.inj hd;subst e;exact q v F H (.refl sr.same) (h F)
theorem ar {i:Int} {j}:E X B (.Constant (.int i) j pos) (eC (.int i)):=PE.imp CQ (Bq λ _=>cz)
theorem wu {i:Bool} {j}:E X B (.Constant (.bool i) j pos) (eC (.bool i)):=PE.imp LU (Bq λ _=>gp)
theorem E.non {j}:E X B (.Constant .none j pos) (eC .none):=PE.imp Kf (Bq λ _=>tf)
theorem bc {i:Str} {j}:E X B (.Constant (.str i) j pos) (eC (.str i)):=PE.imp vZ (Bq λ _=>qa)
theorem E.glob {x:Str} {v:V} {u:Nq} {d:Nh} (hm:X.mg x=some u) (r:RelV v u) (h:∀ F,Rel X.K F d v) (hg:Gl X x:=by rfl) (hd:(x==("__debug__" : Str))=false:=by decide):E X B (.Name x pos) (eC d) :=
 PE.imp (Ig hg hm r hd) (Bq h)
theorem ao:A X B [] aN:=PA.imp CV λ σ H Q ⟨F,η,d,sr,hd,q⟩=>by
 cases hd;exact q [] F H (.refl sr.same) .nil
theorem ac (ha:E X B e f) (hr:A X B es fs) (hs:Nw (e::es) X.env=(false,eval e X.env)::Nw es X.env:=by exact aQ rfl):A X B (e::es) (aC f fs):=PA.imp (DT ha hr hs) λ σ H Q ⟨F,η,d,sr,hd,q⟩=>by
 obtain ⟨x,hx,hd⟩:=ab hd;obtain ⟨y,hy,hd⟩:=ab hd;cases hd;exact ⟨F,η,x,sr,hx,λ v F1 H1 g1 rv=>⟨F1,η,y,sr.grow g1,hy,λ vs F2 H2 g2 rs=>q (v::vs) F2 H2 (g1.trans g2) (.cons (rv.mono g2.ff) rs)⟩⟩
noncomputable def gL (ds:List Nh):Option (List Nh):=if ds.length<=No then some ds else none
theorem dR {x1} (hs:A X B es fs):E X B (.Tuple es x1 pos) (lA (λ ds=>if ds.length<=No then some (.tuple ds) else none) fs):=PE.imp (FQ hs) λ σ H Q ⟨F,η,d,sr,hd,q⟩=>by
 obtain ⟨ds,hx,hd⟩:=ab hd;split at hd
 ·rename_i hl;cases hd;refine ⟨F,η,ds,sr,hx,λ vs F1 H1 g1 rs=>⟨by rw [rs.length]; exact hl,λ p hp=>?_⟩⟩;have g2:Gr F1 H1 (upd F1 p (.tup vs)) (upd H1 p (.tup vs)):=Gr.one g1.fh hp;exact q _ _ _ (g1.trans g2) (jc (SqT.of au) (rs.mono g2.ff))
 ·cases hd
theorem dj (hs:A X B es fs):EO X B (.List es pos) (λ η=>(fs η).bind gL):=PE.imp (FV hs) λ σ H Q ⟨F,η,ds,sr,hd,q⟩=>by
 obtain ⟨ds',hx,hd⟩:=ab hd;unfold gL at hd;split at hd
 ·rename_i hl;cases hd;refine ⟨F,η,ds,sr,hx,λ vs F1 H1 g1 rs=>⟨by rw [rs.length]; exact hl,λ p hp=>?_⟩⟩;refine q p vs F1 (upd H1 p (.lst vs)) ?_ (g1.hh.free hp) (g1.fh.free hp) au rs;refine ⟨g1.ff,g1.hh.trans (fZ hp _),λ b u z=>?_,g1.new⟩;exact fZ hp _ b u (g1.fh b u z)
 ·cases hd
noncomputable def oE (f:En->Option (List Nh)):En->Option Nh:=λ η=>(f η).bind λ ds=>some (.list ds)
theorem cO (he:EO X B e fs):E X B e (oE fs):=PE.imp he λ σ H Q ⟨F,η,d,sr,hd,q⟩=>by
 obtain ⟨ds,hx,hd⟩:=ab hd;cases hd;refine ⟨F,η,ds,sr,hx,λ p xs F' H' g1 hp fp hp' rs=>?_⟩;have sn:=fZ (H:=F') fp (.lst xs);refine q (.ref p) (upd F' p (.lst xs)) H' ⟨g1.ff.trans sn,g1.hh,λ b u z=>?_,λ b z=>?_⟩ (jO (SqL.of au) (rs.mono sn))
 ·by_cases e:b=p
  ·subst e; rw [au] at z; rw [<- z]; exact hp'
  ·rw [aq e] at z; exact g1.fh _ _ z
 ·by_cases e:b=p
  ·subst e; exact .inr hp
  ·rw [aq e] at z; exact g1.new b z
noncomputable def asB:Nh->Option Bool
 | .bool b=>some b
 | _=>none
noncomputable def bT (f:En->Option Nh):En->Option Bool:=λ η=>(f η).bind asB
theorem mO {d:Nh} {b:Bool} (h:asB d=some b):d=.bool b:=by
 cases d <;> simp [asB] at h;rw [h]
theorem T.val (he:E X B e f) (hi:∀ whole,isTrue e X.env whole=(do let v <- whole; standAt e.pos; holding [v] (truthy v)):=by intro _; rfl):T X B e (bT f):=PT.imp (FH he hi) λ σ H Q ⟨F,η,b,sr,hd,q⟩=>by
 obtain ⟨x,hx,hd⟩:=ab hd;obtain rfl:=mO hd;exact ⟨F,η,_,sr,hx,λ v F1 H1 g1 rv=>⟨b,rv.bl,q F1 H1 g1⟩⟩
theorem T.cmp {op:CmpOp} {r:R2} {o:Nh->Nh->Option Nh} (ho:OpR X (On op) r) (ad:Ad2 X.K r o) (hm:Oa op b=false) (ha:E X B a f) (hb:E X B b g):T X B (.Compare a [op] [b] pos) (bT (l2 o f g)) :=
 PT.imp (DK ho ha hb hm) λ σ H Q ⟨F,η,b,sr,hd,q⟩=>by
  obtain ⟨x,hx,hd⟩:=ab hd;obtain rfl:=mO hd;exact t2 ad σ H _ ⟨F,η,_,sr,hx,λ v F1 H1 g1 rv=>⟨b,rv.bl,q F1 H1 g1⟩⟩
noncomputable def lch (o o':Nh->Nh->Option Nh) (f g h:En->Option Nh):En->Option Nh:=λ η=>(f η).bind λ x=>(g η).bind λ y=>(o x y).bind λ z=>(asB z).bind λ k =>
 if k=true then (h η).bind λ w=>o' y w else some (.bool false)
theorem E.chain {op op':CmpOp} {r r':R2} {o o':Nh->Nh->Option Nh} (ho:OpR X (On op) r) (ad:Ad2 X.K r o) (ho':OpR X (On op') r') (ad':Ad2 X.K r' o') (ha:E X B a f) (hb:E X B b g) (hc:E X B c h)
  (hm:lastMarks [op,op'] [b,c]=false:=by with_unfolding_all rfl):E X B (.Compare a [op,op'] [b,c] pos) (lch o o' f g h):=PE.imp (FX ho ho' ha hb hc hm) λ σ H Q ⟨F,η,d,sr,hd,q⟩=>by
 obtain ⟨x,hx,hd⟩:=ab hd;obtain ⟨y,hy,hd⟩:=ab hd;obtain ⟨z,hz,hd⟩:=ab hd;obtain ⟨k,hk,hd2⟩:=ab hd;clear hd;obtain rfl:=mO hk;have hd:=hd2;refine ⟨F,η,x,sr,hx,λ v F1 H1 g1 rv=>⟨F1,η,y,sr.grow g1,hy,λ u F2 H2 g2 ru=>?_⟩⟩;refine ad F2 H2 v u x y _ _ g2.fh (rv.mono g2.ff) ru hz λ w F3 H3 g3 rw'=>⟨k,rw'.bl,?_⟩;cases k with
 | false =>
  rw [if_neg NE] at hd ⊢;cases hd;exact q _ F3 H3 ((g1.trans g2).trans g3) gp
 | true =>
  rw [if_pos rfl] at hd ⊢;obtain ⟨w2,hw2,hd⟩:=ab hd;refine ⟨F3,η,w2,(sr.grow (g1.trans g2)).grow g3,hw2,λ t F4 H4 g4 rt=>?_⟩;exact ad' F4 H4 u t y w2 d Q g4.fh (ru.mono (g3.ff.trans g4.ff)) rt hd λ w5 F5 H5 g5 r5=>q w5 F5 H5 (((g1.trans g2).trans g3).trans (g4.trans g5)) r5
noncomputable def E8 (f g:En->Option Bool):En->Option Bool:=λ η=>(f η).bind λ c=>if c=true then g η else some false
noncomputable def zu (f:En->Option Bool):En->Option Bool:=λ η=>(f η).bind λ c=>some (!c)
variable {p q r:En->Option Bool} {rest:List Expr}
theorem T.not (ha:T X B a p):T X B (.UnaryOp .Not a pos) (zu p):=PT.imp (J9 ha) λ σ H Q ⟨F,η,b,sr,hd,q⟩=>by
 obtain ⟨x,hx,hd⟩:=ab hd;cases hd;exact ⟨F,η,x,sr,hx,q⟩
theorem TW.t (h:TW X B a p):T X B a p:=PW.pt h
theorem TW.and1 (ha:T X B a p):TW X B (.BoolOp .And [a] pos) p:=pw_and1 ha
theorem TW.and (ha:T X B a p) (hb:TW X B (.BoolOp .And (b::rest) pos) q):TW X B (.BoolOp .And (a::b::rest) pos) (E8 p q):=PW.imp (pw_and ha hb) λ σ H Q ⟨F,η,b,sr,hd,k⟩=>by
 obtain ⟨x,hx,hd⟩:=ab hd;refine ⟨F,η,x,sr,hx,λ F1 H1 g1=>?_⟩;cases x with
 | false =>
  rw [if_neg NE] at hd ⊢;cases hd;exact k F1 H1 g1
 | true =>
  rw [if_pos rfl] at hd ⊢;exact ⟨F1,η,b,sr.grow g1,hd,λ F2 H2 g2=>k F2 H2 (g1.trans g2)⟩
noncomputable def Hx (f g:En->Option Nh):En->Option Nh:=λ η=>(f η).bind λ x=>(asB x).bind λ c=>if c=true then g η else some (.bool false)
noncomputable def Hv (f:En->Option Nh):En->Option Nh:=λ η=>(f η).bind λ x=>(asB x).bind λ c=>some (.bool (!c))
theorem E.one {op} (ha:E X B a f):E X B (.BoolOp op [a] pos) f:=FS ha
theorem E.and (ha:E X B a f) (hb:E X B (.BoolOp .And (b::rest) pos) g):E X B (.BoolOp .And (a::b::rest) pos) (Hx f g):=PE.imp (FY ha hb) λ σ H Q ⟨F,η,b,sr,hd,k⟩=>by
 obtain ⟨x,hx,hd⟩:=ab hd;obtain ⟨c,hc,hd2⟩:=ab hd;clear hd;obtain rfl:=mO hc;have hd:=hd2;refine ⟨F,η,_,sr,hx,λ v F1 H1 g1 rv=>⟨c,rv.bl,?_⟩⟩;cases c with
 | false =>
  rw [if_neg NE] at hd ⊢;cases hd;exact k _ F1 H1 g1 gp
 | true =>
  rw [if_pos rfl] at hd ⊢;exact ⟨F1,η,b,sr.grow g1,hd,λ u F2 H2 g2=>k u F2 H2 (g1.trans g2)⟩
theorem E.not (ha:E X B a f):E X B (.UnaryOp .Not a pos) (Hv f):=PE.imp (Ke ha) λ σ H Q ⟨F,η,b,sr,hd,k⟩=>by
 obtain ⟨x,hx,hd⟩:=ab hd;obtain ⟨c,hc,hd2⟩:=ab hd;clear hd;obtain rfl:=mO hc;have hd:=hd2;cases hd;exact ⟨F,η,_,sr,hx,λ v F1 H1 g1 rv=>⟨c,rv.bl,k _ F1 H1 g1 gp⟩⟩
noncomputable def vIf (c:En->Option Bool) (f g:En->Option Nh):En->Option Nh:=λ η=>(c η).bind λ c=>if c=true then f η else g η
theorem E.ifE (hc:T X B c p) (ha:E X B a f) (hb:E X B b g):E X B (.IfExp c a b pos) (vIf p f g):=PE.imp (BD hc ha hb) λ σ H Q ⟨F,η,d,sr,hd,k⟩=>by
 obtain ⟨x,hx,hd⟩:=ab hd;refine ⟨F,η,x,sr,hx,λ F1 H1 g1=>?_⟩;cases x with
 | false =>
  rw [if_neg NE] at hd ⊢;exact ⟨F1,η,d,sr.grow g1,hd,λ u F2 H2 g2=>k u F2 H2 (g1.trans g2)⟩
 | true =>
  rw [if_pos rfl] at hd ⊢;exact ⟨F1,η,d,sr.grow g1,hd,λ u F2 H2 g2=>k u F2 H2 (g1.trans g2)⟩
noncomputable def spP (K:Ni) (fn:List Nh->Option Nh):Sp:=λ vs H Q _=>∃ F ds d,Same F H/\RelL K F ds vs/\fn ds=some d/\∀ v F' H',Gr F H F' H'->Rel K F' d v->Q v H'
theorem aW {k k':Nat} {fa:NI} {fd:Oo} {ps:List Str} {x:Str} {ppos:Pos} {fn:List Nh->Option Nh} (G:FnOk X.prog X.w X.K X.mg X.base CX0 k fa fd ps (spP X.K fn)) (hr:Room k' X.A) (hkk:k<=k') (hm:X.mg x=some (.ref fa)) (hk:OI X.K (.ref fa)=true) (hb:Binds X.K fd ps [])
  (ha:A X B (e::es) fs) (hg:Gl X x:=by rfl) (hdb:(x==("__debug__" : Str))=false:=by decide) (he:Nw (e::es) X.env=(false,eval e X.env)::Nw es X.env:=by exact aQ rfl) (hpl:(backTo pos (Nw es X.env)).any (·.1)=false:=by exact iK rfl) :
  E X B (.Call (.Name x ppos) (e::es) [] pos) (lA fn fs):=PE.imp (Ap G (hr.mono hkk) hg hm hk hb .nil xW ha hdb he hpl) λ σ H Q ⟨F,η,d,sr,hd,q⟩=>by
 obtain ⟨ds,hx,hd⟩:=ab hd;refine ⟨F,η,ds,sr,hx,λ vs F1 H1 g1 rs=>?_⟩;show spP X.K fn (vs++[]) H1 Q E0;rw [Oi];exact ⟨F1,ds,d,g1.fh,rs,hd,λ v F2 H2 g2 rv=>q v F2 H2 (g1.trans g2) rv⟩
end
inductive Out where
 | nx (η:En)
 | rt (d:Nh)
 | bk (η:En)
 | ct (η:En)
noncomputable def OutOk (K:Ni) (B:Bd) (F:Hp) (D:Ends):Out->Prop
 | .nx η=>∀ σ' F' H',SR K B F' H' σ' η->Same F F'->D.nx σ' H'
 | .rt d=>∀ v F' H',Gr B.F B.H F' H'->Rel K F' d v->D.rt v H'
 | .bk η=>∀ σ' F' H',SR K B F' H' σ' η->Same F F'->D.bk σ' H'
 | .ct η=>∀ σ' F' H',SR K B F' H' σ' η->Same F F'->D.ct σ' H'
noncomputable def tS (K:Ni) (B:Bd) (f:En->Option Out):TS:=λ D σ H=>∃ F η o,SR K B F H σ η/\f η=some o/\OutOk K B F D o
noncomputable def S (X:Cx) (B:Bd) (st:Stmt) (f:En->Option Out):Prop:=PS X st (tS X.K B f)
noncomputable def Ss (X:Cx) (B:Bd) (st:List Stmt) (f:En->Option Out):Prop:=PSs X st (tS X.K B f)
theorem PS.imp {X:Cx} {e:Stmt} {t t':TS} (h:PS X e t) (i:∀ D σ H,t' D σ H->t D σ H):PS X e t':=λ pins s σ H D I q=>h pins s σ H D I (i D σ H q)
theorem PSs.imp {X:Cx} {e:List Stmt} {t t':TS} (h:PSs X e t) (i:∀ D σ H,t' D σ H->t D σ H):PSs X e t':=λ pins s σ H D I q=>h pins s σ H D I (i D σ H q)
theorem OutOk.up {K:Ni} {B:Bd} {F F1:Hp} {D:Ends} {o:Out} (h:OutOk K B F D o) (s:Same F F1):OutOk K B F1 D o:=by
 cases o with
 | nx η=>exact λ σ' F' H' r e=>h σ' F' H' r (s.trans e)
 | rt d=>exact h
 | bk η=>exact λ σ' F' H' r e=>h σ' F' H' r (s.trans e)
 | ct η=>exact λ σ' F' H' r e=>h σ' F' H' r (s.trans e)
noncomputable def sNx:En->Option Out:=λ η=>some (.nx η)
noncomputable def cP (f g:En->Option Out):En->Option Out:=λ η=>(f η).bind λ o=>match o with
 | .nx η'=>g η'
 | o=>some o
noncomputable def hJ (f:En->Option Nh):En->Option Out:=λ η=>(f η).bind λ d=>some (.rt d)
noncomputable def By (i:Nat):En->Option Out:=λ η=>match η[i]? with | some (.own ds)=>some (.rt (.list ds)) | _=>none
noncomputable def sIf (c:En->Option Bool) (f g:En->Option Out):En->Option Out:=λ η=>(c η).bind λ b=>if b=true then f η else g η
noncomputable def f6 (i:Nat) (f:En->Option Nh):En->Option Out:=λ η=>(f η).bind λ d=>some (.nx (η.set i (.val d)))
noncomputable def m9 (i:Nat) (f:En->Option (List Nh)):En->Option Out:=λ η=>(f η).bind λ ds=>some (.nx (η.set i (.own ds)))
noncomputable def FB (i:Nat) (f:En->Option Nh):En->Option Out:=λ η=>(f η).bind λ d=>match η[i]? with
 | some (.own ds)=>if ds.length < No then some (.nx (η.set i (.own (ds++[d])))) else none
 | _=>none
noncomputable def xS (i:Nat) (f:En->Option (List Nh)):En->Option Out:=λ η=>(f η).bind λ es=>match η[i]? with
 | some (.own ds)=>if ds.length+es.length<=No then some (.nx (η.set i (.own (ds++es)))) else none
 | _=>none
noncomputable def frz (i:Nat) (η:En):En:=match η[i]? with | some (.own ds)=>η.set i (.val (.list ds)) | some (.odc kvs)=>η.set i (.val (.dict (prs kvs))) | _=>η
section
variable {X:Cx} {B:Bd} {st:Stmt} {sts sts':List Stmt} {u v:En->Option Out} {a b c e:Expr} {f g:En->Option Nh} {fs:En->Option (List Nh)} {p:En->Option Bool} {pos pos':Pos}
theorem Ss.nil:Ss X B [] sNx:=PSs.imp DM λ D σ H ⟨F,η,o,sr,hd,q⟩=>by
 cases hd;exact q σ F H sr (.refl _)
theorem bO (h:S X B st u):Ss X B [st] u:=DL h
theorem bi (h:S X B st u) (k:Ss X B sts v):Ss X B (st::sts) (cP u v):=PSs.imp (BA h k) λ D σ H ⟨F,η,o,sr,hd,q⟩=>by
 obtain ⟨o1,h1,hd⟩:=ab hd;refine ⟨F,η,o1,sr,h1,?_⟩;cases o1 with
 | nx η'=>exact λ σ' F' H' r e=>⟨F',η',o,r,hd,q.up e⟩
 | rt d=>cases hd; exact q
 | bk η'=>cases hd; exact q
 | ct η'=>cases hd; exact q
theorem S.never:S X B st (λ _=>none):=PS.imp BB λ D σ H ⟨F,η,o,sr,hd,q⟩=>by cases hd
theorem i9 (he:E X B e f):S X B (.Return (some e) pos) (hJ f):=PS.imp (CN he) λ D σ H ⟨F,η,o,sr,hd,q⟩=>by
 obtain ⟨d,h1,hd⟩:=ab hd;cases hd;exact ⟨F,η,d,sr,h1,λ v F' H' g rv=>q v F' H' (sr.gr.trans g) rv⟩
theorem S.retO (i:Nat) {x:Str} (hN:X.N[i]?=some x:=by rfl) (hv:Vis X.env.scope x:=by first | exact Or.inl rfl | exact Or.inr (Or.inl rfl) | exact Or.inr (Or.inr rfl)) (hd:(x==("__debug__" : Str))=false:=by decide)
  (hcd:(x==("__classdict__" : Str))=false:=by decide):S X B (.Return (some (.Name x pos')) pos) (By i):=PS.imp (CN (rB hN hv hd hcd)) λ D σ H ⟨F,η,o,sr,hd,q⟩=>by
 unfold By at hd;split at hd
 ·rename_i ds e;cases hd;obtain ⟨F',p,e1,sf,sr',rel⟩:=sr.freeze e;exact ⟨_,e1,q _ F' H sr'.gr rel⟩
 ·cases hd
theorem S.ifS (hc:T X B c p) (ha:Ss X B sts u) (hb:Ss X B sts' v):S X B (.If c sts sts' pos) (sIf p u v):=PS.imp (Jx hc ha hb) λ D σ H ⟨F,η,o,sr,hd,q⟩=>by
 obtain ⟨b,h1,hd⟩:=ab hd;refine ⟨F,η,b,sr,h1,λ F1 H1 g1=>?_⟩;cases b with
 | false =>
  rw [if_neg NE] at hd ⊢;exact ⟨F1,η,o,sr.grow g1,hd,q.up g1.ff⟩
 | true =>
  rw [if_pos rfl] at hd ⊢;exact ⟨F1,η,o,sr.grow g1,hd,q.up g1.ff⟩
theorem KW {K:Ni} {i:Nat}:∀ D σ H,tS K B (f6 i f) D σ H->Fw (tE K B f) (zX i) D σ H:=λ D σ H ⟨F,η,o,sr,hd,q⟩=>by
 obtain ⟨d,h1,hd⟩:=ab hd;cases hd;refine ⟨F,η,d,sr,h1,λ v F1 H1 g1 rv=>q _ F1 H1 ⟨sr.gr.trans g1,(sr.en.grow g1).set i rv⟩ g1.ff⟩
theorem Er {K:Ni} {i:Nat}:∀ D σ H,tS K B (m9 i fs) D σ H->Fw (tO K B fs) (zX i) D σ H:=λ D σ H ⟨F,η,o,sr,hd,q⟩=>by
 obtain ⟨d,h1,hd⟩:=ab hd;cases hd;refine ⟨F,η,d,sr,h1,λ p xs F1 H1 g1 hp fp hp' rs=>q _ F1 H1 ⟨sr.gr.trans g1,(sr.en.grow g1).setOwn i fp (sr.gr.hh.free hp) hp' rs λ j ej=>sr.en.notown hp j ej⟩ g1.ff⟩
theorem jr (i:Nat) {x:Str} (hN:X.N.Nodup) (he:E X B e f) (hi:X.N[i]?=some x:=by rfl) (hx:Loc X.env.scope x:=by first | exact Or.inl rfl | exact Or.inr rfl) (hs:swapsWith e (some (.Name x pos')) pos.line X.env=pure false:=by rfl)
  (hf:X.fn x=true\/X.env.scope.names.lookup x=some .local:=by first | exact .inl rfl | exact .inr rfl):S X B (.Assign [.Name x pos'] e pos) (f6 i f):=PS.imp (CM hN hi hx he hs hf) KW
theorem S.setO (i:Nat) {x:Str} (hN:X.N.Nodup) (he:EO X B e fs) (hi:X.N[i]?=some x:=by rfl) (hx:Loc X.env.scope x:=by first | exact Or.inl rfl | exact Or.inr rfl) (hs:swapsWith e (some (.Name x pos')) pos.line X.env=pure false:=by rfl)
  (hf:X.fn x=true\/X.env.scope.names.lookup x=some .local:=by first | exact .inl rfl | exact .inr rfl):S X B (.Assign [.Name x pos'] e pos) (m9 i fs):=PS.imp (CM hN hi hx he hs hf) Er
theorem Ss.frz (i:Nat) (h:Ss X B sts u):Ss X B sts (λ η=>u (frz i η)):=PSs.imp h λ D σ H ⟨F,η,o,sr,hd,q⟩=>by
 have hd:u (PU.frz i η)=some o:=hd;unfold PU.frz at hd;split at hd
 ·rename_i ds e;obtain ⟨F',p,e1,sf,sr',rel⟩:=sr.freeze e;exact ⟨F',_,o,sr',hd,q.up sf⟩
 ·rename_i kvs e;obtain ⟨F',p,e1,sf,sr',rel⟩:=sr.freezeD e;exact ⟨F',_,o,sr',hd,q.up sf⟩
 ·exact ⟨F,η,o,sr,hd,q⟩
noncomputable def ItP (K:Ni) (J:It) (F:Hp) (ds:List Nh):Prop:=∀ F1 H1 (i:Nat),Same F F1->Same F1 H1 ->
 (∀ d,ds[i]?=some d->J.go i H1/\∀ x H2,J.yld i H1 x H2->∃ F2,Gr F1 H1 F2 H2/\Rel K F2 d x)/\(i=ds.length->J.stop i H1)
noncomputable def tI (K:Ni) (B:Bd) (f:En->Option (List Nh)):TI:=λ σ H R=>∃ F η ds,SR K B F H σ η/\f η=some ds/\∀ J F' H',Gr F H F' H'->ItP K J F' ds->R J H'
noncomputable def I (X:Cx) (B:Bd) (tg iter:Expr) (f:En->Option (List Nh)):Prop:=PI X tg iter (tI X.K B f)
theorem PI.imp {X:Cx} {tg it:Expr} {t t':TI} (h:PI X tg it t) (i:∀ σ H Q,t' σ H Q->t σ H Q):PI X tg it t':=λ pins s σ H Q I q=>h pins s σ H Q I (i σ H Q q)
noncomputable def TgP (K:Ni) (ks:List Nat) (g:TG) (t:En->Nh->Option En):Prop:=∀ (B:Bd) F H σ η d x η',SR K B F H σ η->Rel K F d x->t η d=some η'->∀ Q:St->Hp->Prop,(∀ σ' F' H',SR K B F' H' σ' η'->Gr F H F' H'->σ'.length=σ.length->(∀ i,i∉ks->σ'[i]?=σ[i]?)->Q σ' H')->g x σ H Q
noncomputable def tgN (i:Nat):En->Nh->Option En:=λ η d=>some (η.set i (.val d))
theorem aD {K:Ni} {i:Nat}:TgP K [i] (zX i) (tgN i):=λ B F H σ η d x η' sr rx e Q q=>by
 cases e;exact q _ F H ⟨sr.gr,sr.en.set i rx⟩ (.refl sr.same) (NC ..) λ j hj=>Nj (λ e=>hj (by simp [e])) ..
noncomputable def TgsP (K:Ni) (ks:List Nat) (g:TGs) (t:En->List Nh->Option En):Prop:=∀ (B:Bd) F H σ η ds xs η',SR K B F H σ η->RelL K F ds xs->t η ds=some η'->∀ Q:St->Hp->Prop,(∀ σ' F' H',SR K B F' H' σ' η'->Gr F H F' H'->σ'.length=σ.length->(∀ i,i∉ks->σ'[i]?=σ[i]?)->Q σ' H')->g xs σ H Q
noncomputable def gX:En->List Nh->Option En:=λ η ds=>match ds with | []=>some η | _=>none
noncomputable def aX (t:En->Nh->Option En) (r:En->List Nh->Option En):En->List Nh->Option En:=λ η ds=>match ds with | []=>none | d::ds=>(t η d).bind λ η1=>r η1 ds
theorem TgsP.nil {K:Ni}:TgsP K [] Mi gX:=λ B F H σ η ds xs η' sr rx e Q q=>by
 cases ds with
 | nil =>
  cases e;exact ⟨rx.nil_of,q _ F H sr (.refl sr.same) rfl λ _ _=>rfl⟩
 | cons d ds=>cases e
theorem db {K:Ni} {ks ls:List Nat} {g:TG} {gs:TGs} {t:En->Nh->Option En} {r:En->List Nh->Option En} (h:TgP K ks g t) (k:TgsP K ls gs r):TgsP K (ks++ls) (JI g gs) (aX t r):=λ B F H σ η ds xs η' sr rx e Q q=>by
 cases ds with
 | nil=>cases e
 | cons d ds =>
  obtain ⟨x,r',rfl,h1,h2⟩:=rx.cons_of;obtain ⟨η1,e1,e2⟩:=ab e;refine ⟨x,r',rfl,h B F H σ η d x η1 sr h1 e1 _ λ σ1 F1 H1 sr1 g1 l1 n1=>?_⟩;refine k B F1 H1 σ1 η1 ds r' η' sr1 (h2.mono g1.ff) e2 _ λ σ2 F2 H2 sr2 g2 l2 n2=>?_;exact q σ2 F2 H2 sr2 (g1.trans g2) (l2.trans l1) λ i hi=>(n2 i λ z=>hi (Od _ z)).trans (n1 i λ z=>hi (Ob _ z))
noncomputable def tgT (t:En->List Nh->Option En):En->Nh->Option En:=λ η d=>match d with | .tuple ds=>t η ds | _=>none
theorem TgP.tup {K:Ni} {ks:List Nat} {n:Nat} {g:TGs} {t:En->List Nh->Option En} (h:TgsP K ks g t) (hn:∀ η ds η',t η ds=some η'->ds.length=n):TgP K ks (Mh K n g) (tgT t):=λ B F H σ η d x η' sr rx e Q q=>by
 cases d with
 | tuple ds =>
  obtain ⟨a,xs,rfl,hq,rs⟩:=rx.tup;exact ⟨a,xs,rfl,dt sr.same hq,by rw [rs.length]; exact hn η ds η' e,h B F H σ η ds xs η' sr rs e Q q⟩
 | none=>cases e
 | bool _=>cases e
 | int _=>cases e
 | str _=>cases e
 | list _=>cases e
 | dict _=>cases e
noncomputable def sGo (t:En->Nh->Option En) (body:En->Option Out):List Nh->En->Option Out
 | [],η=>some (.nx η)
 | d::ds,η=>(t η d).bind λ η1=>(body η1).bind λ o=>match o with
  | .nx η2=>sGo t body ds η2
  | .ct η2=>sGo t body ds η2
  | .bk η2=>some (.nx η2)
  | .rt d=>some (.rt d)
noncomputable def qP (it:En->Option (List Nh)) (t:En->Nh->Option En) (body:En->Option Out):En->Option Out:=λ η=>(it η).bind λ ds=>sGo t body ds η
theorem S.for {tg iter:Expr} {body:List Stmt} {gt:TG} {ks:List Nat} {t:En->Nh->Option En} (hp:PassesOwn (N9 X.prog X.w) X.A X.env X.xe) (hc:X.calm=true) (hi:I X B tg iter fs) (hg:PG X tg gt) (ht:TgP X.K ks gt t) (hb:Ss X B body u)
  (hs:∀ x,foldedSetIterable iter X.env x=pure x:=by intro _; rfl):S X B (.For tg iter body [] pos) (qP fs t u):=PS.imp (FK hp hc hi hg hb hs) λ D σ H ⟨F,η,o,sr,hd,q⟩=>by
 obtain ⟨ds,h1,hd⟩:=ab hd;refine ⟨F,η,ds,sr,h1,λ J F1 H1 g1 ip=>?_⟩;refine ⟨λ i m σ H=>m=ds.length - i/\i<=ds.length/\∃ Fc ηc,SR X.K B Fc H σ ηc/\Same F1 Fc/\sGo t u (ds.drop i) ηc=some o,⟨_,rfl,O5 _,F1,η,sr.grow g1,.refl _,by simpa using hd⟩,?_⟩
 rintro i m σc Hc ⟨rfl,hi,Fc,ηc,src,sc,hgo⟩
 obtain ⟨ip1,ip2⟩:=ip Fc Hc i sc src.same;by_cases hlt:i < ds.length
 ·have e:ds[i]?=some ds[i]:=NQ hlt;obtain ⟨go,yl⟩:=ip1 _ e;rw [OX hlt] at hgo;unfold sGo at hgo;obtain ⟨η1,e1,hgo⟩:=ab hgo;obtain ⟨o1,e2,hgo⟩:=ab hgo;have cont:∀ (η2:En),sGo t u (ds.drop (i+1)) η2=some o->∀ σ' F' H',SR X.K B F' H' σ' η2->Same F1 F' ->
    ∃ m',m' < ds.length - i/\(λ i m σ H=>m=ds.length - i/\i<=ds.length/\∃ Fc ηc,SR X.K B Fc H σ ηc/\Same F1 Fc/\sGo t u (ds.drop i) ηc=some o) (i+1) m' σ' H':=λ η2 h2 σ' F' H' r s =>
   ⟨ds.length - (i+1),by omega,rfl,hlt,F',η2,r,s,h2⟩
  refine .inr ⟨go,λ σ' H'=>∃ m',m' < ds.length - i/\(λ i m σ H=>m=ds.length - i/\i<=ds.length/\∃ Fc ηc,SR X.K B Fc H σ ηc/\Same F1 Fc/\sGo t u (ds.drop i) ηc=some o) (i+1) m' σ' H',λ σ' H' n=>n,λ x H' y=>?_⟩;obtain ⟨F2,g2,rx⟩:=yl x H' y;refine ht B F2 H' σc ηc _ x η1 (src.grow g2) rx e1 _ λ σ3 F3 H3 sr3 g3 _ _=>?_;refine ⟨F3,η1,o1,sr3,e2,?_⟩;have s3:Same F1 F3:=sc.trans (g2.ff.trans g3.ff);cases o1 with
  | nx η2=>exact λ σ' F' H' r s=>cont η2 hgo σ' F' H' r (s3.trans s)
  | ct η2=>exact λ σ' F' H' r s=>cont η2 hgo σ' F' H' r (s3.trans s)
  | bk η2 =>
   cases hgo;exact λ σ' F' H' r s=>q σ' F' H' r (g1.ff.trans (s3.trans s))
  | rt d =>
   cases hgo;exact q
 ·have ei:i=ds.length:=by omega
  subst ei;rw [Ph] at hgo;cases hgo;exact .inl ⟨ip2 rfl,q σc Fc Hc src (g1.ff.trans sc)⟩
noncomputable def asL:Nh->Option (List Nh)
 | .list ds=>some ds
 | _=>none
noncomputable def nH:Nh->Option (List Nh)
 | .tuple ds=>some ds
 | _=>none
noncomputable def lI (k:Nh->Option (List Nh)) (f:En->Option Nh):En->Option (List Nh):=λ η=>(f η).bind k
theorem BZ {K:Ni} {F:Hp} {a:NI} {xs:List V} {ds:List Nh} (h:SqL K F a xs) (r:RelL K F ds xs):ItP K (Itl K a) F ds:=λ F1 H1 i s1 s2=>by
 have q:=s2.seq (s1.seq h);refine ⟨λ d e=>?_,λ e=>⟨xs,q,by rw [r.length,e]; exact Np _⟩⟩;obtain ⟨x,ex,rx⟩:=r.get e;refine ⟨⟨xs,x,q,ex⟩,λ x' H2 y=>?_⟩;obtain ⟨e2,y⟩:=y;subst e2;have z:=y xs q;rw [ex] at z;cases z;exact ⟨F1,.refl s2,rx.mono s1⟩
theorem Ea {K:Ni} {F:Hp} {a:NI} {xs:List V} {ds:List Nh} (h:SqT K F a xs) (r:RelL K F ds xs):ItP K (Itt K a) F ds:=λ F1 H1 i s1 s2=>by
 have q:=dt s2 (dt s1 h);refine ⟨λ d e=>?_,λ e=>⟨xs,q,by rw [r.length,e]; exact Np _⟩⟩;obtain ⟨x,ex,rx⟩:=r.get e;refine ⟨⟨xs,x,q,ex⟩,λ x' H2 y=>?_⟩;obtain ⟨e2,y⟩:=y;subst e2;have z:=y xs q;rw [ex] at z;cases z;exact ⟨F1,.refl s2,rx.mono s1⟩
theorem I.list {tg:Expr} (he:E X B e f):I X B tg e (lI asL f):=PI.imp (DN he) λ σ H Q ⟨F,η,ds,sr,hd,q⟩=>by
 obtain ⟨d,h1,hd⟩:=ab hd;cases d <;> simp only [asL,Option.some.injEq,reduceCtorEq] at hd;subst hd;refine ⟨F,η,_,sr,h1,λ v F1 H1 g1 rv=>?_⟩;obtain ⟨a,xs,rfl,hq,rs⟩:=rv.lst;exact ⟨a,rfl,⟨xs,g1.fh.seq hq⟩,q _ F1 H1 g1 (BZ hq rs)⟩
theorem I.tup {tg:Expr} (he:E X B e f):I X B tg e (lI nH f):=PI.imp (FO he) λ σ H Q ⟨F,η,ds,sr,hd,q⟩=>by
 obtain ⟨d,h1,hd⟩:=ab hd;cases d <;> simp only [nH,Option.some.injEq,reduceCtorEq] at hd;subst hd;refine ⟨F,η,_,sr,h1,λ v F1 H1 g1 rv=>?_⟩;obtain ⟨a,xs,rfl,hq,rs⟩:=rv.tup;exact ⟨a,rfl,⟨xs,dt g1.fh hq⟩,q _ F1 H1 g1 (Ea hq rs)⟩
noncomputable def zc (lo:Int) (n:Nat):List Nh:=(List.range n).map λ (k:Nat)=>NS (lo+k)
theorem IJ {K:Ni} {F:Hp} {lo:Int} {n:Nat}:ItP K (Itr lo n) F (zc lo n):=λ F1 H1 i s1 s2=>by
 have hl:(zc lo n).length=n:=by unfold zc; rw [Nl,Ou]
 refine ⟨λ d e=>?_,λ e=>by show n<=i; omega⟩;have hi:i < n:=by rw [<- hl]; exact (Nr.mp e).1
 refine ⟨hi,λ x H2 y=>?_⟩;obtain ⟨e2,e3⟩:=y;subst e2 e3
 have:d=.int (lo+i):=by
  unfold zc at e;rw [NG,PB hi] at e;exact (Option.some.inj e).symm
 subst this;exact ⟨F1,.refl s2,cz⟩
noncomputable def rng1 (ds:List Nh):Option (List Nh):=match ds with
 | [.int j]=>if -(2 ^ 62)<=j/\j < 2 ^ 62 then some (zc 0 j.toNat) else none
 | _=>none
theorem I.rng1 {tg:Expr} {pp:Pos} (hm:X.mg "range" = none) (ha:A X B [a] fs) (hg:Gl X "range" := by rfl) (hs:Nw [a] X.env=[(false,eval a X.env)]:=by exact aQ rfl):I X B tg (.Call (.Name "range" pp) [a] [] pos) (λ η=>(fs η).bind PU.rng1) :=
 PI.imp (EF hg hm ha hs) λ σ H Q ⟨F,η,ds,sr,hd,q⟩=>by
  obtain ⟨es,h1,hd⟩:=ab hd;unfold PU.rng1 at hd;split at hd
  ·rename_i j;split at hd
   ·rename_i hj;cases hd;refine ⟨F,η,_,sr,h1,λ vs F1 H1 g1 rs=>?_⟩;obtain ⟨x,r,rfl,rx,rr⟩:=rs.cons_of;obtain rfl:=rr.nil_of;exact ⟨j,by rw [rx.int],hj.1,hj.2,q _ F1 H1 g1 IJ⟩
   ·cases hd
  ·cases hd
end
noncomputable def sk (mp:List (Option Nat)) (η:En):En:=mp.map λ o=>match o with
 | some j=>(match η[j]? with | some (.val d)=>.val d | some (.ob fs)=>.ob fs | _=>.un)
 | none=>.un
noncomputable def cGo (t:En->Nh->Option En) (p:En->Option Bool) (f:En->Option Nh) (η:En):List Nh->Option (List Nh)
 | []=>some []
 | d::ds=>(t η d).bind λ η1=>(p η1).bind λ ok=>if ok=true then (f η1).bind λ y=>(cGo t p f η ds).bind λ r=>some (y::r) else cGo t p f η ds
noncomputable def bH (mp:List (Option Nat)) (fi:En->Option (List Nh)) (t:En->Nh->Option En) (p:En->Option Bool) (f:En->Option Nh):En->Option (List Nh):=λ η =>
 (fi η).bind λ ds=>if ds.length<=No then cGo t p f (sk mp η) ds else none
noncomputable def Ts (X:Cx) (B:Bd) (ifs:List Expr) (p:En->Option Bool):Prop:=PTs X ifs (tT X.K B p)
noncomputable def cS:En->Option Bool:=λ _=>some true
section
variable {X:Cx} {B:Bd}
theorem Ts.nil:Ts X B [] cS:=λ pins s σ H Q I ⟨F,η,b,sr,hd,q⟩=>by
 cases hd;exact DI pins s σ H Q I (q F H (.refl sr.same))
theorem Ts.one {c:Expr} {p:En->Option Bool} (h:T X B c p):Ts X B [c] p:=DH h
theorem Eb {mp:List (Option Nat)} {η:En} {i:Nat} {a:Sl} (e:(sk mp η)[i]?=some a):lL a=false:=by
 unfold sk at e;rw [NG] at e;cases q:mp[i]? with
 | none=>rw [q] at e; cases e
 | some o =>
  rw [q] at e;cases o with
  | none=>cases e; rfl
  | some j =>
   have e':(match η[j]? with | some (.val d)=>Sl.val d | some (.ob fs)=>.ob fs | _=>.un)=a:=Option.some.inj e;split at e' <;> (subst e'; rfl)
theorem EnR.inner {K:Ni} {He F H:Hp} {σ:St} {η:En} (r:EnR K He F H σ η) (mp:List (Option Nat)):EnR K He F H (ju mp σ) (sk mp η) where
 len:=by unfold sk ju; rw [Nl,Nl]
 val:=λ i d e=>by
  unfold sk at e;rw [NG] at e;cases q:mp[i]? with
  | none=>rw [q] at e; cases e
  | some o =>
   rw [q] at e;cases o with
   | none=>cases e
   | some j =>
    have e':(match η[j]? with | some (.val d)=>Sl.val d | some (.ob fs)=>.ob fs | _=>.un)=.val d:=Option.some.inj e;split at e'
    ·rename_i d' ed
     have:d'=d:=by injection e'
     subst this;obtain ⟨v,e1,e2⟩:=r.val j d' ed;refine ⟨v,?_,e2⟩;unfold ju;rw [NG,q];show some ((σ[j]?).join)=_;rw [e1];rfl
    ·cases e'
    ·cases e'
 obs:=λ i fs e=>by
  unfold sk at e;rw [NG] at e;cases q:mp[i]? with
  | none=>rw [q] at e; cases e
  | some o =>
   rw [q] at e;cases o with
   | none=>cases e
   | some j =>
    have e':(match η[j]? with | some (.val d)=>Sl.val d | some (.ob fs)=>.ob fs | _=>.un)=.ob fs:=Option.some.inj e;split at e'
    ·cases e'
    ·rename_i d' ed
     have:d'=fs:=by injection e'
     subst this;obtain ⟨p,C,dx,xs,e1,e2⟩:=r.obs j d' ed;refine ⟨p,C,dx,xs,?_,e2⟩;unfold ju;rw [NG,q];show some ((σ[j]?).join)=_;rw [e1];rfl
    ·cases e'
 cel:=λ i a e ha=>by rw [Eb e] at ha; cases ha
 apart:=λ i j a b e _ ha _ _=>by rw [Eb e] at ha; cases ha
variable {elt iter tg:Expr} {ifs:List Expr} {scope:Scope} {pos:Pos} {N':List Str} {mp:List (Option Nat)} {ks:List Nat} {gt:TG} {t:En->Nh->Option En} {fi:En->Option (List Nh)} {p:En->Option Bool} {f:En->Option Nh}
theorem xD {K:Ni} (ht:TgP K ks gt t) (hks:∀ k∈ks,mp[k]?=some none):∀ σ H Q,tO K B (bH mp fi t p f) σ H Q->Bp mp (tI K B fi) gt (tT K B p) (tE K B f) σ H Q:=λ σ H Q ⟨F,η,rs,sr,hd,q⟩=>by
 obtain ⟨ds,h1,hd⟩:=ab hd;split at hd
 rotate_left
 ·cases hd
 rename_i hz;refine ⟨F,η,ds,sr,h1,λ J F1 H1 g1 ip D hD=>?_⟩;have fD:F1 D=none:=g1.fh.free hD;have kept:∀ {σ2:St},σ2.length=(ju mp σ).length->(∀ i,i∉ks->σ2[i]?=(ju mp σ)[i]?)->xG (ju mp σ) σ2:=λ {σ2} hl hn=>⟨hl,λ i v e=>by
  by_cases hi:i∈ks
  ·have z:=hks i hi;unfold ju at e;rw [NG,z] at e;cases e
  ·rw [hn i hi]; exact e⟩
 refine ⟨λ i m Hc=>m=ds.length - i/\i<=ds.length/\∃ Fc ys done rest,Gr F1 H1 Fc Hc/\Fc D=none/\Hc D=some (.lst ys)/\RelL K Fc done ys/\done.length<=i/\cGo t p f (sk mp η) (ds.drop i)=some rest/\rs=done++rest,⟨_,rfl,O5 _,F1,[],[],rs,⟨.refl _,fZ hD _,λ b u z=>fZ hD _ b u (g1.fh b u z),λ b z=>.inl z⟩,fD,au,.nil,Np _,by simpa using hd,rfl⟩,?_⟩
 rintro i m Hc ⟨rfl,hi,Fc,ys,done,rest,gc,fcD,hcD,rd,hdl,hgo,hrs⟩
 obtain ⟨ip1,ip2⟩:=ip Fc Hc i gc.ff gc.fh;by_cases hlt:i < ds.length
 ·have e:ds[i]?=some ds[i]:=NQ hlt;obtain ⟨go,yl⟩:=ip1 _ e;rw [OX hlt] at hgo;unfold cGo at hgo;obtain ⟨η1,e1,hgo⟩:=ab hgo;obtain ⟨ok,e2,hgo⟩:=ab hgo;refine .inr ⟨go,λ H'=>∃ m',m' < ds.length - i/\(m'=ds.length - (i+1)/\i+1<=ds.length/\∃ Fc ys done rest,Gr F1 H1 Fc H'/\Fc D=none/\H' D=some (.lst ys)/\RelL K Fc done ys/\done.length<=i+1/\cGo t p f (sk mp η) (ds.drop (i+1))=some rest/\rs=done++rest),λ H' n=>n,λ x H' y=>?_⟩;obtain ⟨F2,g2,rx⟩:=yl x H' y;have sin:SR K B F2 H' (ju mp σ) (sk mp η):=⟨(sr.gr.trans g1).trans (gc.trans g2),((sr.en.grow g1).inner mp).grow (gc.trans g2)⟩;refine ht B F2 H' (ju mp σ) (sk mp η) _ x η1 sin rx e1 _ λ σ3 F3 H3 sr3 g3 l3 n3=>⟨kept l3 n3,F3,η1,ok,sr3,e2,λ F4 H4 g4=>?_⟩;have gall:Gr Fc Hc F4 H4:=(g2.trans g3).trans g4;have nD:∀ {F5 H5:Hp},Gr Fc Hc F5 H5->F5 D=none:=λ {F5 H5} g=>by
   cases z:F5 D with
   | none=>rfl
   | some o =>
    rcases g.new D (by rw [z]; simp) with w | w
    ·exact absurd fcD w
    ·rw [hcD] at w; cases w
  cases ok with
  | false =>
   rw [if_neg NE] at hgo;refine Mb ?_;exact ⟨ds.length - (i+1),by omega,rfl,hlt,F4,ys,done,rest,gc.trans gall,nD gall,gall.hh _ _ hcD,rd.mono gall.ff,Nat.le_succ_of_le hdl,hgo,hrs⟩
  | true =>
   rw [if_pos rfl] at hgo;refine Ma ?_;obtain ⟨yv,e3,hgo⟩:=ab hgo;obtain ⟨r,e4,hgo⟩:=ab hgo;cases hgo;refine ⟨F4,η1,yv,sr3.grow g4,e3,λ v F5 H5 g5 rv=>?_⟩;have ga:=gall.trans g5;have h5D:=ga.hh _ _ hcD;refine ⟨ys,h5D,by rw [rd.length]; omega,ds.length - (i+1),by omega,rfl,hlt,F5,ys++[v],done++[yv],r,?_,nD ga,au,(rd.mono ga.ff).append (.cons rv .nil),by rw [Nn,OF]; omega,e4,by rw [hrs,NP]; rfl⟩;have gt':=gc.trans ga;refine ⟨gt'.ff,λ b u z=>?_,λ b u z=>?_,gt'.new⟩
   ·have nb:b≠D:=aF z hD;rw [aq nb]; exact gt'.hh b u z
   ·have nb:b≠D:=aF z (nD ga);rw [aq nb]; exact gt'.fh b u z
 ·have ei:i=ds.length:=by omega
  subst ei;rw [Ph] at hgo;cases hgo;rw [Oi] at hrs;subst hrs;exact .inl ⟨ip2 rfl,q D ys Fc Hc (g1.trans gc) (g1.hh.free hD) fcD hcD rd⟩
theorem jn (hc:X.calm=true) (ck:CompSc X scope N' mp) (ht:TgP X.K ks gt t) (hks:∀ k∈ks,mp[k]?=some none) (hi:I X B tg iter fi)
  (hb:∀ s H fp,PG (bZ X scope N' s H fp) tg gt/\Ts (bZ X scope N' s H fp) B ifs p/\E (bZ X scope N' s H fp) B elt f)
  (hs:∀ x,foldedSetIterable iter X.env x=pure x:=by intro _; rfl):EO X B (.ListComp elt [⟨tg,iter,ifs,0⟩] scope pos) (bH mp fi t p f):=PE.imp (Ao hc ck hi hb hs) (xD ht hks)
theorem S.setC (i:Nat) {y:Str} {py spos:Pos} (hc:X.calm=true) (hN:X.N.Nodup) (ck:CompSc X scope N' mp) (ht:TgP X.K ks gt t) (hks:∀ k∈ks,mp[k]?=some none) (hi:I X B tg iter fi)
  (hb:∀ s H fp,PG (bZ X scope N' s H fp) tg gt/\Ts (bZ X scope N' s H fp) B ifs p/\E (bZ X scope N' s H fp) B elt f)
  (hiy:X.N[i]?=some y:=by rfl) (hy:X.env.scope.names.lookup y=some .local:=by rfl) (hsw:swapsWith (.ListComp elt [⟨tg,iter,ifs,0⟩] scope pos) (some (.Name y py)) spos.line X.env=pure true:=by rfl)
  (hs:∀ x,foldedSetIterable iter X.env x=pure x:=by intro _; rfl):S X B (.Assign [.Name y py] (.ListComp elt [⟨tg,iter,ifs,0⟩] scope pos) spos) (m9 i (bH mp fi t p f)) :=
 PS.imp (uE hc hN hiy hy ck hi hb hsw hs) λ D σ H h=>by
  have h':=Er D σ H h;exact xD ht hks σ H _ h'
end
noncomputable def cJ (n m:Nat) (g:En->Option Out) (ds:List Nh):Option Nh:=if ds.length=n then (g (ds.map Sl.val++NV (m - n) .un)).bind λ o=>match o with
 | .rt d=>some d
 | .nx _=>some .none
 | _=>none else none
section
variable {P:NT} {w:World} {K:Ni} {mg:Str->Option Nq} {base:Heap}
theorem Bt {n:Nat} {ds:List Nh} {i:Nat} {a:Sl} (e:(ds.map Sl.val++NV n .un)[i]?=some a):lL a=false:=by
 by_cases hi:i < ds.length
 ·rw [Nm (by rw [Nl]; exact hi),NG] at e;cases q:ds[i]? with
  | none=>rw [q] at e; cases e
  | some d'=>rw [q] at e; cases e; rfl
 ·rw [Nt (by rw [Nl]; omega),OJ] at e;split at e <;> cases e;rfl
theorem EnR.start {F H:Hp} {N:List Str} {ds:List Nh} {vs:List V} (r:RelL K F ds vs):EnR K H F H (L2.start N vs) (ds.map Sl.val++NV (N.length - ds.length) .un) where
 len:=by unfold L2.start; rw [Nn,Nn,Nl,Nl,OQ,OQ,r.length]
 val:=λ i d e=>by
  unfold L2.start;by_cases hi:i < ds.length
  ·rw [Nm (by rw [Nl]; exact hi),NG] at e;rw [Nm (by rw [Nl,r.length]; exact hi),NG];cases q:ds[i]? with
   | none=>rw [q] at e; cases e
   | some d' =>
    rw [q] at e
    have:d'=d:=by injection (Option.some.inj e)
    subst this;obtain ⟨x,e1,e2⟩:=r.get q;exact ⟨x,by rw [e1]; rfl,e2⟩
  ·rw [Nt (by rw [Nl]; omega),OJ] at e;split at e <;> cases e
 cel:=λ i a e ha=>by rw [Bt e] at ha; cases ha
 obs:=λ i fs e=>by
  by_cases hi:i < ds.length
  ·rw [Nm (by rw [Nl]; exact hi),NG] at e;cases q:ds[i]? with
   | none=>rw [q] at e; cases e
   | some d'=>rw [q] at e; cases e
  ·rw [Nt (by rw [Nl]; omega),OJ] at e;split at e <;> cases e
 apart:=λ i _ a _ e _ ha _ _=>by rw [Bt e] at ha; cases ha
theorem fnP {x qual:Str} {st:Stmt} {f:NI} {fd:Oo} {N ps:List Str} {k:Nat} {g:En->Option Out} (Fn:Fun K x qual st f fd) (Sc:aE N ps (ah st))
  (hb:∀ (cdv:Nq) (A:Oh) (outer:List Env) (s:Nu) (H:Hp) (E:XK) (F:Hp),Room k (A.deeper (envOfC qual (ah st) s.heap.objs.size f cdv)) ->
   Ss (Cf CX0 P w K mg base N qual (ah st) f cdv A outer s H E).nox ⟨F,H⟩ (qo st) g) :
  FnOk P w K mg base CX0 (k+1) f fd ps (spP K (cJ ps.length N.length g)):=by
 have len:∀ {F:Hp} {ds:List Nh} {vs:List V} {d:Nh},RelL K F ds vs->cJ ps.length N.length g ds=some d->ds.length=ps.length/\vs.length=ps.length:=λ {F ds vs d} r e=>by
  unfold cJ at e;split at e
  ·rename_i hl;exact ⟨hl,by rw [r.length]; exact hl⟩
  ·cases e
 refine Fn.ok Sc (λ vs H Q E h=>?_) (λ cdv A outer s H vs Q E hr h=>?_)
 ·obtain ⟨F,ds,d,_,r,e,_⟩:=h;exact (len r e).2
 ·obtain ⟨F,ds,d,sm,r,e,q⟩:=h;obtain ⟨l1,l2⟩:=len r e;refine ⟨_,hb cdv A outer s H E F hr,?_⟩;unfold cJ at e;rw [if_pos l1] at e;obtain ⟨o,e1,e2⟩:=ab e;refine ⟨F,_,o,⟨.refl sm,?_⟩,e1,?_⟩
  ·have z:=EnR.start (K:=K) (H:=H) (N:=N) r;rw [l1] at z;exact z
  ·cases o with
   | rt d' =>
    cases e2;exact λ v F' H' g rv=>q v F' H' g rv
   | nx η' =>
    cases e2;exact λ σ' F' H' sr _=>q .non F' H' sr.gr tf
   | bk η'=>cases e2
   | ct η'=>cases e2
theorem fn0 {f:NI} {fd:Oo} {ps:List Str} {k:Nat}:FnOk P w K mg base CX0 k f fd ps (spP K (λ _=>none)) :=
 ⟨λ vs H Q E h=>(by obtain ⟨_,_,_,_,_,e,_⟩:=h; cases e),λ A outer s H args us vs Q E _ _ _ _ h=>(by obtain ⟨_,_,_,_,_,e,_⟩:=h; cases e)⟩
end
section
variable {X:Cx}
mutual
theorem Rel.reads {pins:List (NI×Obj)} {σ:St} {F H:Hp} {s:Nu} (I:Inv X pins σ H s) (sm:Same F H):∀ {d:Nh} {v:V} {u:Nq},Og d=true->Rel X.K F d v->RelV v u->∃ as,Reads s.heap u d as
 | .none,v,u,_,h,r=>by
  rw [h.non] at r; cases r;exact ⟨_,.none⟩
 | .bool b,v,u,_,h,r=>by
  rw [h.bl] at r; cases r;exact ⟨_,.bool b⟩
 | .int i,v,u,_,h,r=>by
  rw [h.int] at r; obtain ⟨t,rfl⟩:=r;exact ⟨_,.int i t⟩
 | .str x,v,u,_,h,r=>by
  rw [h.str] at r; obtain ⟨t,rfl⟩:=r;exact ⟨_,.str x t⟩
 | .tuple ds,v,u,c,h,r=>by
  unfold Og at c;obtain ⟨a,xs,rfl,hq,rs⟩:=h.tup;cases r;obtain ⟨its,rv,⟨o,ho,hc,n,hd⟩,_⟩:=I.tuple (dt sm hq);obtain ⟨as,h'⟩:=RelL.reads I sm c rs rv;exact ⟨as,.tuple ho hc hd (by simpa using h')⟩
 | .list ds,v,u,c,h,r=>by
  unfold Og at c;obtain ⟨a,xs,rfl,hq,rs⟩:=h.lst;cases r;obtain ⟨its,rv,p,_⟩:=I.list (sm.seq hq);obtain ⟨o,ho,hc,n,hd⟩:=p.isList;obtain ⟨as,h'⟩:=RelL.reads I sm c rs rv;exact ⟨a::as,.list ho hc hd (by simpa using h')⟩
 | .dict _,v,u,c,h,r=>by unfold Og at c; cases c
theorem RelL.reads {pins:List (NI×Obj)} {σ:St} {F H:Hp} {s:Nu} (I:Inv X pins σ H s) (sm:Same F H):∀ {ds:List Nh} {vs:List V} {us:List Nq},Oq ds=true->RelL X.K F ds vs->Vals vs us->∃ as,ReadsAll s.heap us ds as
 | [],vs,us,_,h,r=>by
  rw [h.nil_of] at r; cases r;exact ⟨_,.nil⟩
 | d::ds,vs,us,c,h,r=>by
  unfold Oq at c;obtain ⟨c1,c2⟩:=OU.mp c;obtain ⟨x,xs,rfl,h1,h2⟩:=h.cons_of;cases r with
  | cons r1 r2 =>
   obtain ⟨as,e1⟩:=Rel.reads I sm c1 h1 r1;obtain ⟨bs,e2⟩:=RelL.reads I sm c2 h2 r2;exact ⟨as++bs,.cons e1 e2⟩
end
noncomputable def HU (K:Ni) (neg:Bool):R2:=λ x y H Q=>∃ F dx dy,Same F H/\Rel K F dx x/\Rel K F dy y/\Of dx=true/\Of dy=true/\Q (.bl (if neg then !Oc dx dy else Oc dx dy)) H
theorem AE (hu:X.A.units+64 < cLine):OpR X (On .Eq) (HU X.K false):=by
 intro pins s σ H x y v u Q I rx ry h;obtain ⟨F,dx,dy,sm,h1,h2,s1,s2,q⟩:=h;obtain ⟨as,ra⟩:=Rel.reads I sm (SeqAt.canLay_of_shaped s1) h1 rx;obtain ⟨bs,rb⟩:=Rel.reads I sm (SeqAt.canLay_of_shaped s2) h2 ry;exact SeqAt.compareEq_shaped ra rb s1 s2 hu ⟨.bl _,H,I,rfl,q⟩
theorem Ga (hu:X.A.units+64 < cLine):OpR X (On .NotEq) (HU X.K true):=by
 intro pins s σ H x y v u Q I rx ry h;obtain ⟨F,dx,dy,sm,h1,h2,s1,s2,q⟩:=h;obtain ⟨as,ra⟩:=Rel.reads I sm (SeqAt.canLay_of_shaped s1) h1 rx;obtain ⟨bs,rb⟩:=Rel.reads I sm (SeqAt.canLay_of_shaped s2) h2 ry;exact SeqAt.compareNe_shaped ra rb s1 s2 hu ⟨.bl _,H,I,rfl,q⟩
noncomputable def pEq (x y:Nh):Option Nh:=if Of x=true/\Of y=true then some (.bool (Oc x y)) else none
noncomputable def pNe (x y:Nh):Option Nh:=if Of x=true/\Of y=true then some (.bool (!Oc x y)) else none
theorem Et {K:Ni}:Ad2 K (HU K false) pEq:=λ F H x y dx dy d Q sm rx ry e q=>by
 unfold pEq at e;split at e
 ·rename_i hs;cases e;exact ⟨F,dx,dy,sm,rx,ry,hs.1,hs.2,q _ F H (.refl sm) gp⟩
 ·cases e
theorem JO {K:Ni}:Ad2 K (HU K true) pNe:=λ F H x y dx dy d Q sm rx ry e q=>by
 unfold pNe at e;split at e
 ·rename_i hs;cases e;exact ⟨F,dx,dy,sm,rx,ry,hs.1,hs.2,q _ F H (.refl sm) gp⟩
 ·cases e
noncomputable def pI (C:Int->Int->Prop) [∀ i j,Decidable (C i j)] (g:Int->Int->Nh) (x y:Nh):Option Nh:=match x,y with
 | .int i,.int j=>if C i j then some (g i j) else none
 | _,_=>none
instance:∀ i j,Decidable (CMul i j):=λ i j=>by unfold CMul; infer_instance
instance:∀ i j,Decidable (CDiv i j):=λ i j=>by unfold CDiv; infer_instance
theorem K6 {K:Ni} {C:Int->Int->Prop} [∀ i j,Decidable (C i j)] {g:Int->Int->Nh} {gv:Int->Int->V} (hg:∀ F i j,Rel K F (g i j) (gv i j)):Ad2 K (rI C gv) (pI C g):=λ F H x y dx dy d Q sm rx ry e q=>by
 cases dx <;> cases dy <;> simp only [pI,reduceCtorEq] at e;split at e
 ·rename_i hc;cases e;exact ⟨_,_,rx.int,ry.int,hc,q _ F H (.refl sm) (hg F _ _)⟩
 ·cases e
theorem vN {K:Ni} {g:Int->Int->Nh} {gv:Int->Int->V} (hg:∀ F i j,Rel K F (g i j) (gv i j)):Ad2 K (rI0 gv) (pI (λ _ _=>True) g):=λ F H x y dx dy d Q sm rx ry e q=>by
 cases dx <;> cases dy <;> simp only [pI,reduceCtorEq,if_true] at e;cases e;exact ⟨_,_,rx.int,ry.int,q _ F H (.refl sm) (hg F _ _)⟩
noncomputable def wS:=pI (λ _ _=>True) λ i j=>.int (i - j)
noncomputable def nv:=pI CMul λ i j=>.int (i*j)
noncomputable def rG:=pI CDiv λ i j=>.int (i / j)
noncomputable def pH:=pI (λ _ j=>0 < j) λ i j=>.int (i % j)
noncomputable def pLt:=pI (λ _ _=>True) λ i j=>.bool (decide (i < j))
noncomputable def pLe:=pI (λ _ _=>True) λ i j=>.bool (decide (i<=j))
section
variable {B:Bd} {a b:Expr} {f g:En->Option Nh} {pos:Pos}
theorem E.sub (ha:E X B a f) (hb:E X B b g):E X B (.BinOp a .Sub b pos) (l2 wS f g):=E.op F9 (vN λ _ _ _=>cz) ha hb
theorem sY (ha:E X B a f) (hb:E X B b g):E X B (.BinOp a .Mult b pos) (l2 nv f g):=E.op Km (K6 λ _ _ _=>cz) ha hb
theorem E.fdiv (ha:E X B a f) (hb:E X B b g):E X B (.BinOp a .FloorDiv b pos) (l2 rG f g):=E.op Ip (K6 λ _ _ _=>cz) ha hb
theorem E.mod (ha:E X B a f) (hb:E X B b g):E X B (.BinOp a .Mod b pos) (l2 pH f g):=E.op Kn (K6 λ _ _ _=>cz) ha hb
theorem E.eq {k:Nat} (hr:Room k X.A) (ha:E X B a f) (hb:E X B b g):E X B (.Compare a [.Eq] [b] pos) (l2 pEq f g):=E.cmp (AE hr.units) Et (nomark b) ha hb
theorem E.ne {k:Nat} (hr:Room k X.A) (ha:E X B a f) (hb:E X B b g):E X B (.Compare a [.NotEq] [b] pos) (l2 pNe f g):=E.cmp (Ga hr.units) JO (nomark b) ha hb
theorem tX {k:Nat} (hr:Room k X.A) (ha:E X B a f) (hb:E X B b g):T X B (.Compare a [.Eq] [b] pos) (bT (l2 pEq f g)):=T.cmp (AE hr.units) Et (nomark b) ha hb
theorem T.ne {k:Nat} (hr:Room k X.A) (ha:E X B a f) (hb:E X B b g):T X B (.Compare a [.NotEq] [b] pos) (bT (l2 pNe f g)):=T.cmp (Ga hr.units) JO (nomark b) ha hb
theorem T.lt (ha:E X B a f) (hb:E X B b g):T X B (.Compare a [.Lt] [b] pos) (bT (l2 pLt f g)):=T.cmp BJ (vN λ _ _ _=>gp) (nomark b) ha hb
end
noncomputable def FE (K:Ni):R2:=λ x y H Q=>∃ l b xs zs,x=.ref l/\y=.ref b/\SqL K H l xs/\SqL K H b zs/\xs.length+zs.length<=No/\∀ p,H p=none->Q (.ref p) (upd H p (.lst (xs++zs)))
theorem op_catS:OpR X (binaryOp .Add) (FE X.K):=by
 intro pins s σ H x y v u Q I rx ry h;obtain ⟨l,b,xs,zs,rfl,rfl,hH,hB,hz,q⟩:=h;cases rx;cases ry;obtain ⟨its,r,⟨⟨c1,d1,t1,sl1⟩,n,e,ec,ed,es⟩,z⟩:=I.list hH;obtain ⟨its2,r2,⟨⟨c2,d2,t2,sl2⟩,n2,e2,ec2,ed2,es2⟩,z2⟩:=I.list hB;have hl:=r.length;have hl2:=r2.length;simp only at ec ed es ec2 ed2 es2;subst ec ed es ec2 ed2 es2;have ea:its.toArray++its2.toArray=(its++its2).toArray:=by simp
 refine concat_meets ⟨_,e,rfl⟩ ⟨_,e2,rfl⟩ PySem.noFill_list_add PySem.seq_list_add PySem.F.slot_list_add PySem.F.entry_list_add (PySem.F.args_list_add_2 _ _)
   (list_addW l b its.toArray its2.toArray n n2 none none sl1 sl2 (by rw [ND,ND]; omega)) ⟨e,e2,?_⟩
 rw [ea];exact ⟨.ref _,_,I.lnew (t':=s.toks) (r.append r2) (by rw [Nn]; omega),rfl,q _ I.fresh⟩
noncomputable def CL (K:Ni):R2:=λ x y H Q=>∃ a b xs ys,x=.ref a/\y=.ref b/\SqT K H a xs/\SqT K H b ys/\xs.length+ys.length<=No /\
 (xs=[]->Q (.ref b) H)/\(xs≠[]->ys=[]->Q (.ref a) H)/\(∀ p,H p=none->Q (.ref p) (upd H p (.tup (xs++ys))))
theorem Gb:OpR X (binaryOp .Add) (CL X.K):=by
 intro pins s σ H x y v u Q I rx ry h;obtain ⟨a,b,xs,ys,rfl,rfl,ha,hb,hz,q0,q1,q2⟩:=h;cases rx;cases ry;obtain ⟨its,r1,p1,_⟩:=I.tuple ha;obtain ⟨its2,r2,p2,_⟩:=I.tuple hb;by_cases hx:xs=[]
 ·have hi:its=[]:=r1.nil_iff.mpr hx;obtain ⟨⟨cls,dd,data,sl⟩,ho,hc,n,hd⟩:=id p1;obtain ⟨⟨cls2,dd2,data2,sl2⟩,ho2,hc2,n2,hd2⟩:=id p2;simp only at hc hd hc2 hd2;subst hc hd hc2 hd2;exact concat_meets ⟨_,ho,rfl⟩ ⟨_,ho2,rfl⟩ noFill_tuple_add seq_tuple_add PySem.F.slot_tuple_add PySem.F.entry_tuple_add (PySem.F.args_tuple_add_2 _ _)
   (tuple_addW0 a b its.toArray its2.toArray n n2 dd dd2 sl sl2 (by simp [hi])) ⟨ho,ho2,⟨.ref b,H,I,rfl,q0 hx⟩⟩
 ·refine HT.cat_tup p1 p2 (λ z=>hx (r1.nil_iff.mp z)) (λ z=>⟨.ref a,H,I,rfl,q1 hx (r2.nil_iff.mp z)⟩) (λ z=>?_) (by rw [<- r1.length,<- r2.length]; exact hz);refine ⟨.ref s.heap.objs.size,_,I.laid (t':=s.toks) (o:=.tup (xs++ys)) (λ b ob q=>Nv _ q) (Np _) ?_,rfl,q2 _ (I.hok.fresh (Np _))⟩;exact ⟨by rw [Nn]; exact hz,_,r1.append r2,IsTup.new _ _⟩
noncomputable def aM (x y:Nh):Option Nh:=match x,y with
 | .int i,.int j=>some (.int (i+j))
 | .str i,.str j=>if i.length+j.length<=No then some (.str (i++j)) else none
 | .list i,.list j=>if i.length+j.length<=No then some (.list (i++j)) else none
 | .tuple i,.tuple j=>if i.length+j.length<=No then some (.tuple (i++j)) else none
 | _,_=>none
theorem DX:OpR X (binaryOp .Add) (λ x y H Q=>(∃ i j,x=.int i/\y=.int j/\Q (.int (i+j)) H)\/(∃ i j,x=.str i/\y=.str j/\i.length+j.length<=No/\Q (.str (i++j)) H)\/FE X.K x y H Q\/CL X.K x y H Q) :=
 op_add.or (op_add_str.or (op_catS.or Gb))
theorem G5 {K:Ni}:Ad2 K (λ x y H Q=>(∃ i j,x=.int i/\y=.int j/\Q (.int (i+j)) H)\/(∃ i j,x=.str i/\y=.str j/\i.length+j.length<=No/\Q (.str (i++j)) H)\/FE K x y H Q\/CL K x y H Q) aM:=λ F H x y dx dy d Q sm rx ry e q=>by
 unfold aM at e;split at e
 ·cases e;exact .inl ⟨_,_,rx.int,ry.int,q _ F H (.refl sm) cz⟩
 ·split at e
  ·rename_i hz;cases e;exact .inr (.inl ⟨_,_,rx.str,ry.str,hz,q _ F H (.refl sm) qa⟩)
  ·cases e
 ·split at e
  ·rename_i hz;cases e;obtain ⟨a,xs,rfl,h1,r1⟩:=rx.lst;obtain ⟨b,ys,rfl,h2,r2⟩:=ry.lst;refine .inr (.inr (.inl ⟨a,b,xs,ys,rfl,rfl,sm.seq h1,sm.seq h2,by rw [r1.length,r2.length]; exact hz,λ p hp=>?_⟩));have g:=Gr.one (o:=.lst (xs++ys)) sm hp;exact q _ _ _ g (jO (SqL.of au) ((r1.append r2).mono g.ff))
  ·cases e
 ·rename_i i j;split at e
  ·rename_i hz;cases e;obtain ⟨a,xs,rfl,h1,r1⟩:=rx.tup;obtain ⟨b,ys,rfl,h2,r2⟩:=ry.tup;refine .inr (.inr (.inr ⟨a,b,xs,ys,rfl,rfl,dt sm h1,dt sm h2,by rw [r1.length,r2.length]; exact hz,λ z=>?_,λ z1 z2=>?_,λ p hp=>?_⟩))
   ·subst z
    have:=O6 r1.length.symm
    subst this;exact q _ F H (.refl sm) (jc h2 (by simpa using r2))
   ·subst z2
    have:=O6 r2.length.symm
    subst this;exact q _ F H (.refl sm) (jc h1 (by simpa using r1))
   ·have g:=Gr.one (o:=.tup (xs++ys)) sm hp;exact q _ _ _ g (jc (SqT.of au) ((r1.append r2).mono g.ff))
  ·cases e
 ·cases e
section
variable {B:Bd} {a b e:Expr} {es:List Expr} {f g:En->Option Nh} {fs:En->Option (List Nh)} {pos pp:Pos}
theorem cL (ha:E X B a f) (hb:E X B b g):E X B (.BinOp a .Add b pos) (l2 aM f g):=E.op DX G5 ha hb
noncomputable def EH:Nh->Option Nh
 | .int i=>some (.int (-i))
 | _=>none
theorem E.neg (ha:E X B a f):E X B (.UnaryOp .USub a pos) (l1 EH f):=PE.imp (LS JT ha) λ σ H Q ⟨F,η,d,sr,hd,q⟩=>by
 obtain ⟨x,hx,hd⟩:=ab hd;cases x <;> simp only [EH,reduceCtorEq,Option.some.injEq] at hd;subst hd;exact ⟨F,η,_,sr,hx,λ v F1 H1 g1 rv=>⟨_,rv.int,q _ F1 H1 g1 cz⟩⟩
noncomputable def pIx (x y:Nh):Option Nh:=match x,y with
 | .list ds,.int i=>atI ds i
 | .tuple ds,.int i=>atI ds i
 | .str z,.int i=>if z.length<=No then (atI z.cps.toList i).bind λ c=>some (.str ⟨#[c]⟩) else none
 | _,_=>none
theorem Ep {K:Ni} {F:Hp} {ds:List Nh} {xs:List V} {i:Int} {d:Nh} (r:RelL K F ds xs) (e:atI ds i=some d):∃ x,atI xs i=some x/\Rel K F d x:=by
 unfold atI at e ⊢;rw [r.length];obtain ⟨j,h1,h2⟩:=ab e;rw [h1];obtain ⟨x,h3,h4⟩:=r.get h2;exact ⟨x,h3,h4⟩
theorem JP {K:Ni}:Ad2 K (rIx K) pIx:=λ F H x y dx dy d Q sm rx ry e q=>by
 unfold pIx at e;split at e
 ·obtain ⟨a,xs,rfl,h1,r1⟩:=rx.lst;obtain ⟨v,h2,h3⟩:=Ep r1 e;exact .inl ⟨a,xs,_,v,rfl,ry.int,sm.seq h1,h2,q _ F H (.refl sm) h3⟩
 ·obtain ⟨a,xs,rfl,h1,r1⟩:=rx.tup;obtain ⟨v,h2,h3⟩:=Ep r1 e;exact .inr (.inl ⟨a,xs,_,v,rfl,ry.int,dt sm h1,h2,q _ F H (.refl sm) h3⟩)
 ·split at e
  ·rename_i hz;obtain ⟨c,h1,h2⟩:=ab e;cases h2;exact .inr (.inr ⟨_,_,c,rx.str,ry.int,hz,h1,q _ F H (.refl sm) qa⟩)
  ·cases e
 ·cases e
theorem bA (ha:E X B a f) (hb:E X B b g) (hs:vO b:=by intro _ _; rfl):E X B (.Subscript a b pos) (l2 pIx f g):=E.ix GA JP ha hb hs
noncomputable def kF:Nh->Bool
 | .none=>true
 | .bool _=>true
 | .int _=>true
 | .str _=>true
 | _=>false
theorem AX {K:Ni} {F:Hp} {d:Nh} {v:V} (h:kF d=true) (r:Rel K F d v):uu v=true:=by
 cases d <;> simp [kF] at h
 ·rw [r.non]; rfl
 ·rw [r.bl]; rfl
 ·rw [r.int]; rfl
 ·rw [r.str]; rfl
theorem yC {K:Ni} {F:Hp}:∀ {ds:List Nh} {vs:List V},ds.all kF=true->RelL K F ds vs->vs.all uu=true
 | [],vs,_,r=>by rw [r.nil_of]; rfl
 | d::ds,vs,h,r=>by
  obtain ⟨x,xs,rfl,r1,r2⟩:=r.cons_of;rw [OR,Ol] at h ⊢;exact ⟨AX h.1 r1,yC h.2 r2⟩
theorem KM {K:Ni} {F:Hp} {d e:Nh} {x y:V} (hd:kF d=true) (he:kF e=true) (r:Rel K F d x) (s:Rel K F e y):eqV x y=Oc d e:=by
 cases d <;> simp [kF] at hd <;> cases e <;> simp [kF] at he
 all_goals (first | rw [r.non] | rw [r.bl] | rw [r.int] | rw [r.str]) <;> (first | rw [s.non] | rw [s.bl] | rw [s.int] | rw [s.str])
 all_goals first | rfl | simp [eqV,Oc]
theorem C7 {K:Ni} {F:Hp} {d:Nh} {x:V} (hd:kF d=true) (r:Rel K F d x):∀ {ds:List Nh} {vs:List V},ds.all kF=true->RelL K F ds vs->inV x vs=ds.any λ y=>Oc y d
 | [],vs,_,rs=>by rw [rs.nil_of]; rfl
 | e::ds,vs,h,rs=>by
  obtain ⟨y,xs,rfl,r1,r2⟩:=rs.cons_of;rw [OR,Ol] at h;have ih:=C7 hd r h.2 r2;unfold inV at ih ⊢;rw [Oz,Oz,ih,KM h.1 hd r1 r]
noncomputable def pIn (neg:Bool) (x y:Nh):Option Nh:=match y with
 | .list ds=>if kF x=true/\ds.all kF=true then some (.bool (if neg then !(ds.any λ y=>Oc y x) else ds.any λ y=>Oc y x)) else none
 | .tuple ds=>if kF x=true/\ds.all kF=true then some (.bool (if neg then !(ds.any λ y=>Oc y x) else ds.any λ y=>Oc y x)) else none
 | .str j=>match x with
  | .str i=>some (.bool (if neg then !(!(Builtin.Str.occurrences j i 0 j.length 1).isEmpty) else !(Builtin.Str.occurrences j i 0 j.length 1).isEmpty))
  | _=>none
 | _=>none
noncomputable def J8 (K:Ni) (neg:Bool):R2:=λ x y H Q=>rIn K neg x y H Q\/(∃ i j,x=.str i/\y=.str j/\Q (.bl (if neg then !(!(Builtin.Str.occurrences j i 0 j.length 1).isEmpty) else !(Builtin.Str.occurrences j i 0 j.length 1).isEmpty)) H)
theorem AD:OpR X (On .In) (J8 X.K false):=op_in_seq.or EI
theorem zL:OpR X (On .NotIn) (J8 X.K true):=op_notIn_seq.or AC
theorem Ad {K:Ni} {neg:Bool}:Ad2 K (J8 K neg) (pIn neg):=λ F H x y dx dy d Q sm rx ry e q=>by
 unfold pIn at e;split at e
 ·split at e
  ·rename_i hf;cases e;obtain ⟨b,ys,rfl,h2,r2⟩:=ry.lst;refine .inl ⟨b,ys,rfl,.inl (sm.seq h2),AX hf.1 rx,yC hf.2 r2,?_⟩;rw [C7 hf.1 rx hf.2 r2];exact q _ F H (.refl sm) gp
  ·cases e
 ·split at e
  ·rename_i hf;cases e;obtain ⟨b,ys,rfl,h2,r2⟩:=ry.tup;refine .inl ⟨b,ys,rfl,.inr (dt sm h2),AX hf.1 rx,yC hf.2 r2,?_⟩;rw [C7 hf.1 rx hf.2 r2];exact q _ F H (.refl sm) gp
  ·cases e
 ·split at e
  ·cases e;exact .inr ⟨_,_,rx.str,ry.str,q _ F H (.refl sm) gp⟩
  ·cases e
 ·cases e
theorem T.in (ha:E X B a f) (hb:E X B b g) (hm:Oa .In b=false:=by with_unfolding_all rfl):T X B (.Compare a [.In] [b] pos) (bT (l2 (pIn false) f g)):=T.cmp AD Ad hm ha hb
theorem T.notIn (ha:E X B a f) (hb:E X B b g) (hm:Oa .NotIn b=false:=by with_unfolding_all rfl):T X B (.Compare a [.NotIn] [b] pos) (bT (l2 (pIn true) f g)):=T.cmp zL Ad hm ha hb
theorem E.in (ha:E X B a f) (hb:E X B b g) (hm:Oa .In b=false:=by with_unfolding_all rfl):E X B (.Compare a [.In] [b] pos) (l2 (pIn false) f g):=E.cmp AD Ad hm ha hb
noncomputable def AdA (K:Ni) (r:List V->Hp->VK->Prop) (o:List Nh->Option Nh):Prop :=
 ∀ F H xs ds d Q,Same F H->RelL K F ds xs->o ds=some d->(∀ v F' H',Gr F H F' H'->Rel K F' d v->Q v H')->r xs H Q
theorem Fu {K:Ni} {r:List V->Hp->VK->Prop} {o:List Nh->Option Nh} (ad:AdA K r o):∀ σ H Q,tE K B (lA o fs) σ H Q->tCB r (tA K B fs) σ H Q:=λ σ H Q ⟨F,η,d,sr,hd,q⟩=>by
 obtain ⟨ds,hx,hd⟩:=ab hd;exact ⟨F,η,ds,sr,hx,λ vs F1 H1 g1 rs=>ad F1 H1 vs ds d Q g1.fh rs hd λ v F2 H2 g2 rv=>q v F2 H2 (g1.trans g2) rv⟩
theorem E.callB {x:Str} {id:String} {r:List V->Hp->VK->Prop} {o:List Nh->Option Nh} (hc:CallR X (.builtin id) r) (ad:AdA X.K r o) (hm:X.mg x=none) (hv:bootBuiltins x=some (.builtin id)) (ha:A X B (e::es) fs) (hg:Gl X x:=by rfl) (hn:x ≠ "__name__" := by decide) (hdb:(x==("__debug__" : Str))=false:=by decide)
  (he:Nw (e::es) X.env=(false,eval e X.env)::Nw es X.env:=by exact aQ rfl) (hpl:(backTo pos (Nw es X.env)).any (·.1)=false:=by exact iK rfl):E X B (.Call (.Name x pp) (e::es) [] pos) (lA o fs) :=
 PE.imp (BF hc hg hm hv ha hn hdb he hpl) (Fu ad)
theorem E.callTy {x:Str} {id:String} {r:List V->Hp->VK->Prop} {o:List Nh->Option Nh} (hc:CallR X (.type id) r) (ad:AdA X.K r o) (hm:X.mg x=none) (hv:bootBuiltins x=some (.type id)) (ha:A X B (e::es) fs) (hg:Gl X x:=by rfl) (hn:x ≠ "__name__" := by decide) (hdb:(x==("__debug__" : Str))=false:=by decide)
  (he:Nw (e::es) X.env=(false,eval e X.env)::Nw es X.env:=by exact aQ rfl) (hpl:(backTo pos (Nw es X.env)).any (·.1)=false:=by exact iK rfl):E X B (.Call (.Name x pp) (e::es) [] pos) (lA o fs) :=
 PE.imp (zJ hc hg hm hv ha hn hdb he hpl) (Fu ad)
noncomputable def oI (ds:List Nh):Option Nh:=match ds with
 | [.list xs]=>some (.int xs.length)
 | [.tuple xs]=>some (.int xs.length)
 | [.str z]=>if z.length<=No then some (.int z.length) else none
 | _=>none
theorem K3 {K:Ni}:AdA K (λ xs H Q=>(∃ p ys,xs=[.ref p]/\(SqL K H p ys\/SqT K H p ys)/\Q (.int ys.length) H)\/(∃ z,xs=[.str z]/\z.length<=No/\Q (.int z.length) H)) oI:=λ F H xs ds d Q sm rs e q=>by
 unfold oI at e;split at e
 ·cases e;obtain ⟨x,r,rfl,rx,rr⟩:=rs.cons_of;obtain rfl:=rr.nil_of;obtain ⟨a,ys,rfl,h1,r1⟩:=rx.lst;exact .inl ⟨a,ys,rfl,.inl (sm.seq h1),by rw [r1.length]; exact q _ F H (.refl sm) cz⟩
 ·cases e;obtain ⟨x,r,rfl,rx,rr⟩:=rs.cons_of;obtain rfl:=rr.nil_of;obtain ⟨a,ys,rfl,h1,r1⟩:=rx.tup;exact .inl ⟨a,ys,rfl,.inr (dt sm h1),by rw [r1.length]; exact q _ F H (.refl sm) cz⟩
 ·split at e
  ·rename_i hz;cases e;obtain ⟨x,r,rfl,rx,rr⟩:=rs.cons_of;obtain rfl:=rr.nil_of;exact .inr ⟨_,by rw [rx.str],hz,q _ F H (.refl sm) cz⟩
  ·cases e
 ·cases e
theorem E.len (hm:X.mg "len" = none) (ha:A X B [e] fs) (hg:Gl X "len" := by rfl) (he:Nw [e] X.env=(false,eval e X.env)::Nw [] X.env:=by exact aQ rfl) (hpl:(backTo pos (Nw [] X.env)).any (·.1)=false:=by rfl):E X B (.Call (.Name "len" pp) [e] [] pos) (lA oI fs) :=
 E.callB (call_len_seq.or A8) K3 hm PySem.boot_len ha hg (by decide) (by decide) he hpl
noncomputable def wR (ds:List Nh):Option Nh:=match ds with
 | [.list xs]=>some (.tuple xs)
 | [.tuple xs]=>some (.tuple xs)
 | _=>none
theorem G2 {K:Ni}:AdA K (λ xs H Q=>∃ p ys,xs=[.ref p]/\((SqL K H p ys/\∀ l,H l=none->Q (.ref l) (upd H l (.tup ys)))\/(SqT K H p ys/\Q (.ref p) H))) wR:=λ F H xs ds d Q sm rs e q=>by
 unfold wR at e;split at e
 ·cases e;obtain ⟨x,r,rfl,rx,rr⟩:=rs.cons_of;obtain rfl:=rr.nil_of;obtain ⟨a,ys,rfl,h1,r1⟩:=rx.lst;refine ⟨a,ys,rfl,.inl ⟨sm.seq h1,λ p hp=>?_⟩⟩;have g:=Gr.one (o:=.tup ys) sm hp;exact q _ _ _ g (jc (SqT.of au) (r1.mono g.ff))
 ·cases e;obtain ⟨x,r,rfl,rx,rr⟩:=rs.cons_of;obtain rfl:=rr.nil_of;obtain ⟨a,ys,rfl,h1,r1⟩:=rx.tup;exact ⟨a,ys,rfl,.inr ⟨dt sm h1,q _ F H (.refl sm) (jc h1 r1)⟩⟩
 ·cases e
theorem E.tuple (hm:X.mg "tuple" = none) (ha:A X B [e] fs) (hg:Gl X "tuple" := by rfl) (he:Nw [e] X.env=(false,eval e X.env)::Nw [] X.env:=by exact aQ rfl) (hpl:(backTo pos (Nw [] X.env)).any (·.1)=false:=by rfl):E X B (.Call (.Name "tuple" pp) [e] [] pos) (lA wR fs) :=
 E.callTy uw G2 hm (by decide +kernel) ha hg (by decide) (by decide) he hpl
end
end
noncomputable def vH {α:Type} (xs:List α) (lo hi:Option Int):List α:=(xs.drop (HT.sIx xs.length 0 lo)).take (HT.sIx xs.length xs.length hi - HT.sIx xs.length 0 lo)
section
variable {X:Cx}
theorem RelL.cut {K:Ni} {F:Hp} {ds:List Nh} {xs:List V} (r:RelL K F ds xs) (lo hi:Option Int):RelL K F (vH ds lo hi) (xk xs lo hi):=by
 unfold vH xk;rw [r.length];exact (r.drop _).take _
theorem HH:SlR X (λ x lo hi H Q=>∃ a xs,x=.ref a/\SqT X.K H a xs/\(HT.sIx xs.length 0 lo=0/\HT.sIx xs.length xs.length hi=xs.length)/\Q (.ref a) H):=by
 intro pins s σ H x v vl vu lo hi sl Q I rx hs pl pu h;obtain ⟨a,xs,rfl,hx,hw,q⟩:=h;cases rx;obtain ⟨its,r,ht,hz⟩:=I.tuple hx;have hlen:its.toArray.size=xs.length:=by rw [ND]; exact r.length.symm
 refine ⟨"tuple", _,PyProof.Rows.slot_tuple_getitem.lookup,ht.typeIs,?_⟩;obtain ⟨os,hos,hcs,hds⟩:=id hs;have hTs:s.TypeIs (.ref sl) "slice" := ⟨os,hos,hcs⟩;unfold getItem
 try with_reducible refine wpAny_holding ?_
 first | refine NH (NR ?_) | skip
 refine NH (wpAny_sequenceKey ht.typeIs (by decide) ?_);refine NH (wpAny_callSpecial?_slot (name:=Str.ofString "__getitem__") ht.typeIs PyProof.Rows.slot_tuple_getitem
  (wpAny_call_entry PyProof.Rows.slot_tuple_getitem ht.typeIs entry_tuple_getitem ?_ (args_tuple_getitem _ _)))
 show N7 _ _ (Builtin.Tuple.tupleItemsOf (.ref a) >>= _) _ _ s;refine NH (tupleItemsOf_ ht ?_);refine NH (wpAny_typeOf hTs ?_);rw [if_pos (by decide)];refine NH (HT.sliceApplied_gen hs pl pu ?_);rw [hlen];have hyes:((((HT.sIx xs.length 0 lo:Nat):Int)==0&&(1:Int)==1&&(HT.sIx xs.length xs.length hi - HT.sIx xs.length 0 lo)==xs.length)=true):=by
  rw [hw.1,hw.2]; simp
 show N7 _ _ (if (((HT.sIx xs.length 0 lo:Nat):Int)==0&&(1:Int)==1&&(HT.sIx xs.length xs.length hi - HT.sIx xs.length 0 lo)==xs.length)=true then _ else _) _ _ s;rw [if_pos hyes];have fin:EP X pins σ Q (.ref a) s:=⟨.ref a,H,I,rfl,q⟩;refine NH ?_;unfold Builtin.Tuple.tupleIsExact;refine NH (wpAny_typeOf ht.typeIs (NR ?_));rw [if_pos (by decide)];exact NH (wpAny_rule (NR ⟨_,rfl,NR fin⟩))
noncomputable def pSl (x:Nh) (lo hi:Option Int):Option Nh:=match x with
 | .list ds=>some (.list (vH ds lo hi))
 | .tuple ds=>some (.tuple (vH ds lo hi))
 | _=>none
noncomputable def LK (K:Ni):V->Option Int->Option Int->Hp->VK->Prop:=λ x lo hi H Q=>LJ K x lo hi H Q\/LI K x lo hi H Q\/(∃ a xs,x=.ref a/\SqT K H a xs/\(HT.sIx xs.length 0 lo=0/\HT.sIx xs.length xs.length hi=xs.length)/\Q (.ref a) H)
theorem LB:SlR X (LK X.K):=sl_list.or (sl_tup.or HH)
theorem JN {K:Ni} {F H:Hp} {x:V} {dx d:Nh} {lo hi:Option Int} {Q:VK} (sm:Same F H) (rx:Rel K F dx x) (e:pSl dx lo hi=some d) (q:∀ v F' H',Gr F H F' H'->Rel K F' d v->Q v H'):LK K x lo hi H Q:=by
 unfold pSl at e;split at e
 ·cases e;obtain ⟨a,xs,rfl,h1,r1⟩:=rx.lst;refine .inl ⟨a,xs,rfl,sm.seq h1,λ p hp=>?_⟩;have g:=Gr.one (o:=.lst (xk xs lo hi)) sm hp;exact q _ _ _ g (jO (SqL.of au) ((r1.cut lo hi).mono g.ff))
 ·cases e;obtain ⟨a,xs,rfl,h1,r1⟩:=rx.tup;by_cases hw:HT.sIx xs.length 0 lo=0/\HT.sIx xs.length xs.length hi=xs.length
  ·refine .inr (.inr ⟨a,xs,rfl,dt sm h1,hw,q _ F H (.refl sm) (jc h1 ?_)⟩)
   have:=r1.cut lo hi
   have e2:xk xs lo hi=xs:=by
    unfold xk;rw [hw.1,hw.2]
    simp
   rw [e2] at this;exact this
  ·refine .inr (.inl ⟨a,xs,rfl,dt sm h1,hw,λ p hp=>?_⟩);have g:=Gr.one (o:=.tup (xk xs lo hi)) sm hp;exact q _ _ _ g (jc (SqT.of au) ((r1.cut lo hi).mono g.ff))
 ·cases e
section
variable {B:Bd} {a b e:Expr} {es:List Expr} {f g:En->Option Nh} {fs:En->Option (List Nh)} {pos pp p2:Pos} {lo hi:Option Expr} {fl fh:En->Option (Option Int)}
noncomputable def tP (K:Ni) (B:Bd) (f:En->Option (Option Int)):TO:=λ σ H Q=>∃ F η o,SR K B F H σ η/\f η=some o/\∀ F' H',Gr F H F' H'->Q o H'
noncomputable def P (X:Cx) (B:Bd) (e:Option Expr) (f:En->Option (Option Int)):Prop:=PO X e (tP X.K B f)
noncomputable def pN:En->Option (Option Int):=λ _=>some none
noncomputable def asI:Nh->Option Int
 | .int i=>some i
 | _=>none
theorem yS {d:Nh} {i:Int} (h:asI d=some i):d=.int i:=by
 cases d <;> simp [asI] at h;rw [h]
noncomputable def pS (f:En->Option Nh):En->Option (Option Int):=λ η=>(f η).bind λ d=>(asI d).bind λ i=>some (some i)
theorem PO.imp {X:Cx} {e:Option Expr} {t t':TO} (h:PO X e t) (i:∀ σ H Q,t' σ H Q->t σ H Q):PO X e t':=λ pins s σ H Q I q=>h pins s σ H Q I (i σ H Q q)
theorem P.none:P X B none pN:=PO.imp HZ λ σ H Q ⟨F,η,d,sr,hd,q⟩=>by
 cases hd;exact q F H (.refl sr.same)
theorem P.some (h:E X B e f):P X B (some e) (pS f):=PO.imp (HY h) λ σ H Q ⟨F,η,d,sr,hd,q⟩=>by
 obtain ⟨x,hx,hd⟩:=ab hd;obtain ⟨i,hi,hd⟩:=ab hd;cases hd;obtain rfl:=yS hi;exact ⟨F,η,_,sr,hx,λ v F1 H1 g1 rv=>⟨i,rv.int,q F1 H1 g1⟩⟩
noncomputable def eSl (f:En->Option Nh) (fl fh:En->Option (Option Int)):En->Option Nh:=λ η=>(f η).bind λ x=>(fl η).bind λ l=>(fh η).bind λ h=>pSl x l h
theorem E.sl (he:E X B e f) (hl:P X B lo fl) (hu:P X B hi fh):E X B (.Subscript e (.Slice lo hi none p2) pos) (eSl f fl fh):=PE.imp (BC LB he hl hu) λ σ H Q ⟨F,η,d,sr,hd,q⟩=>by
 obtain ⟨x,hx,hd⟩:=ab hd;obtain ⟨l,hl,hd⟩:=ab hd;obtain ⟨h,hh,hd⟩:=ab hd;refine ⟨F,η,x,sr,hx,λ v F1 H1 g1 rv=>⟨F1,η,l,sr.grow g1,hl,λ F2 H2 g2=>⟨F2,η,h,(sr.grow g1).grow g2,hh,λ F3 H3 g3=>?_⟩⟩⟩;exact JN g3.fh (rv.mono (g2.ff.trans g3.ff)) hd λ w F4 H4 g4 rw'=>q w F4 H4 (((g1.trans g2).trans g3).trans g4) rw'
noncomputable def LH (K:Ni):List V->Hp->VK->Prop:=λ xs H Q=>∃ (p:NI) (ns:List Int),xs=[.ref p]/\SqL K H p (ns.map V.int)/\Q (.int ns.sum) H
theorem xU:∀ (ns:List Int) (n:Nat),n<=ns.length->preSum (λ i=>ns.getD i 0) n=(ns.take n).sum
 | ns,0,_=>by simp [preSum]
 | ns,n+1,h=>by
  have hn:n < ns.length:=by omega
  rw [preSum,xU ns n (by omega),List.take_succ_eq_append_getElem hn,List.sum_append];show _+ns.getD n 0=_;rw [N8,NQ hn]
  simp
theorem GS (hc:X.calm=true):CallR X (.builtin "sum") (LH X.K):=by
 intro pins s σ H xs us Q I r h;obtain ⟨p,ns,rfl,hq,q⟩:=h;obtain ⟨u,rfl,rx⟩:=qv r;cases rx;obtain ⟨its,rv,pl,hz⟩:=I.list hq;have iv:IntsAre its ns:=C6 rv;have hlt:p < s.heap.objs.size:=by
  obtain ⟨o,ho,_⟩:=pl.isList;exact NM ho
 refine call_sum_walkG (wpAny_pyIter_list pl.isList ?_);refine ⟨s.heap.objs.size,_,_,_,_,_,λ i=>ns.getD i 0,rfl,Walks.list (A:=X.A.in1) (I.ok.hd hc) s.heap.objs.size p (NZ hlt) its.toArray,⟨⟨_,NX _ rfl,rfl,rfl⟩,pl.isList.at λ o e=>Nv _ e⟩,?_,?_,λ h' tk t' hk=>?_⟩
 ·intro b hb;show b < (s.heap.push _).objs.size;rw [Heap.size_push];rcases NO.mp hb with e | hb
  ·rw [e]; exact O7 _
  ·rw [NF.mp hb]; exact Nat.lt_succ_of_lt hlt
 ·intro i v hv;have hv':its[i]?=some v:=by simpa using hv
  obtain ⟨hi,e⟩:=Nr.mp hv';have hl:=rv.length;rw [Nl] at hl;have hn:ns[i]?=some ns[i]:=NQ (by omega);obtain ⟨u,hu,ru⟩:=rv.get (i:=i) (x:=.int ns[i]) (by rw [NG,hn]; rfl);rw [hv'] at hu;cases hu;obtain ⟨t,rfl⟩:=ru;exact ⟨t,by show Value.int ns[i] t=Value.int (ns.getD i 0) t; rw [N8,hn]; rfl⟩
 ·have hl:=rv.length;rw [Nl] at hl;have e:preSum (λ i=>ns.getD i 0) its.toArray.size=ns.sum:=by
   rw [ND,xU ns _ (by omega),Pm (by omega)]
  rw [e];refine ⟨.int ns.sum,H,I.kept (t':=tk) λ b o eb=>hk b o ?_ (Nv _ eb),⟨t',rfl⟩,q⟩;intro hb;exact absurd (NM eb) (by rw [NF.mp hb]; exact OT _)
noncomputable def GZ:List Nh->Option (List Int)
 | []=>some []
 | .int i::r=>(GZ r).bind λ ns=>some (i::ns)
 | _::_=>none
theorem Ab:∀ {ds:List Nh} {ns:List Int},GZ ds=some ns->ds=ns.map NS
 | [],ns,h=>by cases h; rfl
 | .int i::r,ns,h=>by
  obtain ⟨ms,h1,h2⟩:=ab h;cases h2;rw [Ab h1]; rfl
 | .none::_,_,h=>by cases h
 | .bool _::_,_,h=>by cases h
 | .str _::_,_,h=>by cases h
 | .list _::_,_,h=>by cases h
 | .tuple _::_,_,h=>by cases h
 | .dict _::_,_,h=>by cases h
theorem E9 (ns:List Int):GZ (ns.map NS)=some ns:=by
 induction ns with
 | nil=>rfl
 | cons n r ih=>rw [Ny]; unfold GZ; rw [ih]; rfl
theorem RelL.ints_of {K:Ni} {F:Hp}:∀ {ns:List Int} {xs:List V},RelL K F (ns.map NS) xs->xs=ns.map V.int
 | [],xs,h=>h.nil_of
 | n::r,xs,h=>by
  obtain ⟨x,ys,rfl,h1,h2⟩:=h.cons_of;rw [h1.int,RelL.ints_of h2]; rfl
noncomputable def At (ds:List Nh):Option Nh:=match ds with
 | [.list xs]=>(GZ xs).bind λ ns=>some (.int ns.sum)
 | _=>none
theorem K0 {K:Ni}:AdA K (LH K) At:=λ F H xs ds d Q sm rs e q=>by
 unfold At at e;split at e
 ·obtain ⟨ns,h1,h2⟩:=ab e;cases h2
  have:=Ab h1
  subst this;obtain ⟨x,r,rfl,rx,rr⟩:=rs.cons_of;obtain rfl:=rr.nil_of;obtain ⟨a,ys,rfl,hq,r1⟩:=rx.lst
  have:=r1.ints_of
  subst this;exact ⟨a,ns,rfl,sm.seq hq,q _ F H (.refl sm) cz⟩
 ·cases e
theorem E.sum (hc:X.calm=true) (hm:X.mg "sum" = none) (ha:A X B [e] fs) (hg:Gl X "sum" := by rfl) (he:Nw [e] X.env=(false,eval e X.env)::Nw [] X.env:=by exact aQ rfl) (hpl:(backTo pos (Nw [] X.env)).any (·.1)=false:=by rfl):E X B (.Call (.Name "sum" pp) [e] [] pos) (lA At fs) :=
 E.callB (GS hc) K0 hm (by decide +kernel) ha hg (by decide) (by decide) he hpl
theorem AT (l b:NI) (items items2:Array Nq) (n n2:Nat) (dd2:Option NI) (sl2:Array (Option Nq)) (hc0:¬(!items.isEmpty&&Builtin.List.listTooLong (items.size+items2.size))=true) (hc1:items.size<=No) (hs2:items.size+items2.size<=No+1) :
  Meets (Builtin.«list.extend» ⟨[.ref l,.ref b],[]⟩) (λ _ R s=>s.heap.get? l=some { cls:=.type "list", dict:=none,data:=.seq items n,slots:=#[] }/\s.heap.get? b=some { cls:=.type "list", dict:=dd2,data:=.seq items2 n2,slots:=sl2 }/\R (.ok (.ret Value.none)) { s with heap:=s.heap.update l (Obj.mapSeq λ x=>x++items2),toks:=s.toks }) :=
 .of_wp λ prog w A R s h=>by
  obtain ⟨hp,g,d,tk,os⟩:=s; obtain ⟨hl,hb,h⟩:=h; have f1:=AutoSeq1.idx_int; have f2:=AutoSeq1.sub_tuple_tuple; have f3:=AutoSeq1.sub_list_list; have f4:=AutoSeq1.sub_tuple_list; have f5:=AutoSeq1.sub_list_tuple;have hz':(items++items2).size<=No+1:=by rw [Array.size_append]; exact hs2
  wp_walk using (wpAny_updateSeq hl rfl (hz:=hc1) (_hz':=hz')),AutoSeq1.wpAny_loadPart' hl,AutoSeq1.wpAny_loadPart' hb; exact ⟨_,rfl,h⟩
noncomputable def LO (K:Ni):V->List V->Hp->VK->Prop:=λ x vs H Q=>∃ l b xs zs,x=.ref l/\vs=[.ref b]/\H l=some (.lst xs)/\SqL K H b zs/\xs.length+zs.length<=No/\Q .non (upd H l (.lst (xs++zs)))
theorem D0:MtM X "list.extend" (LO X.K):=by
 intro pins s σ H x vs v us Q I rx rv h;obtain ⟨l,b,xs,zs,rfl,rfl,hH,hB,hz,q⟩:=h;cases rx;obtain ⟨u,rfl,ru⟩:=rv.one;cases ru;obtain ⟨z,its,n,r,hl,e⟩:=I.lstM hH;obtain ⟨its2,r2,⟨⟨c2,d2,t2,sl2⟩,n2,e2,ec2,ed2,es2⟩,z2⟩:=I.list hB;simp only at ec2 ed2 es2;subst ec2 ed2 es2;have hl2:=r2.length;have hsz:its.toArray.size+its2.toArray.size<=No:=by rw [ND,ND]; omega
 have hlong:¬ (!its.toArray.isEmpty&&Builtin.List.listTooLong (its.toArray.size+its2.toArray.size))=true:=by
  rw [BL hsz,Bool.and_false];exact NE
 refine call_meets F.slot_list_extend ⟨_,e,rfl⟩ F.entry_list_extend (F.args_list_extend_2 _ _)
  (AT l b its.toArray its2.toArray n n2 none sl2 hlong (by rw [ND]; omega) (by omega)) ⟨e,e2,?_⟩
 refine ⟨.non,_,I.lset (its':=its++its2) hH e (by simp) (r.append r2) ?_,rfl,q⟩;rw [Nn];omega
variable {apos cpos:Pos}
theorem S.ext (i:Nat) {x:Str} {npos:Pos} (he:E X B e f) (hN:X.N[i]?=some x:=by rfl) (hv:Vis X.env.scope x:=by first | exact Or.inl rfl | exact Or.inr (Or.inl rfl) | exact Or.inr (Or.inr rfl)) (hd:(x==("__debug__" : Str))=false:=by decide) (hcd:(x==("__classdict__" : Str))=false:=by decide)
  (hbase:attributeBase (.Name x npos) "extend" X.env (eval (.Name x npos) X.env)=eval (.Name x npos) X.env:=by rfl)
  (hfew:((backTo cpos (Nw [e] X.env)).all (λ x=>!x.1)&&(backToKw cpos (keywordEach [] X.env)).all (λ x=>x.1.isSome)
   && decide ([e].length+([]:List Keyword).length+(if ([]:List Keyword).isEmpty then 0 else 1) < 30))=true:=by rfl)
  (hline:(apos.endLine==cpos.line)=true:=by rfl) (hs:Nw [e] X.env=(false,eval e X.env)::Nw [] X.env:=by exact aQ rfl) (hplain:(backTo cpos (Nw [] X.env)).any (·.1)=false:=by rfl)
  (hsw:swapsWith (.Call (.Attribute (.Name x npos) "extend" apos) [e] [] cpos) none pos.line X.env=pure false:=by rfl) :
  S X B (.Expr (.Call (.Attribute (.Name x npos) "extend" apos) [e] [] cpos) pos) (xS i (lI asL f)) :=
 PS.imp (An (DP PySem.F.plainAttrs_list PySem.F.slot_list_extend PySem.F.type_list_extend D0 (rB hN hv hd hcd) (ac he ao hs) hbase hfew hline hs hplain) hsw) λ D σ H ⟨F,η,o,sr,hd,q⟩=>by
  obtain ⟨es,h1,hd⟩:=ab hd;split at hd
  ·rename_i ds ed;split at hd
   ·rename_i hz;cases hd;obtain ⟨dl,h2,h3⟩:=ab h1;cases dl <;> simp only [asL,Option.some.injEq,reduceCtorEq] at h3;subst h3;obtain ⟨p,xs,e1,e2,e3,e4,e5⟩:=sr.en.own i ds ed;refine ⟨_,e1,.inl ⟨rfl,xs,SqL.of e4⟩,F,η,_,sr,(by show (f η).bind _=_; rw [h2]; rfl),λ vs F1 H1 g1 rs=>?_⟩;obtain ⟨y,r,rfl,ry,rr⟩:=rs.cons_of;obtain rfl:=rr.nil_of;obtain ⟨b,zs,rfl,hq,r1⟩:=ry.lst;have sr1:=sr.grow g1;obtain ⟨p',xs',q1,q2,q3,q4,q5⟩:=sr1.en.own i ds ed;rw [e1] at q1;have ep:p=p':=by injection (Option.some.inj (Option.some.inj q1))
    subst ep;refine ⟨p,b,xs',zs,rfl,rfl,q4,g1.fh.seq hq,by rw [q5.length,r1.length]; exact hz,?_⟩;refine q σ F1 _ ⟨⟨sr1.gr.ff,λ c u z=>?_,λ c u z=>?_,sr1.gr.new⟩,sr1.en.putOwn ed e1 (q5.append r1)⟩ g1.ff
    ·have nb:c≠p:=aF z q3;rw [aq nb]; exact sr1.gr.hh c u z
    ·have nb:c≠p:=aF z q2;rw [aq nb]; exact sr1.gr.fh c u z
   ·cases hd
  ·cases hd
theorem S.app (i:Nat) {x:Str} {npos:Pos} (he:E X B e f) (hN:X.N[i]?=some x:=by rfl) (hv:Vis X.env.scope x:=by first | exact Or.inl rfl | exact Or.inr (Or.inl rfl) | exact Or.inr (Or.inr rfl)) (hd:(x==("__debug__" : Str))=false:=by decide) (hcd:(x==("__classdict__" : Str))=false:=by decide)
  (hbase:attributeBase (.Name x npos) "append" X.env (eval (.Name x npos) X.env)=eval (.Name x npos) X.env:=by rfl)
  (hfew:((backTo cpos (Nw [e] X.env)).all (λ x=>!x.1)&&(backToKw cpos (keywordEach [] X.env)).all (λ x=>x.1.isSome)
   && decide ([e].length+([]:List Keyword).length+(if ([]:List Keyword).isEmpty then 0 else 1) < 30))=true:=by rfl)
  (hline:(apos.endLine==cpos.line)=true:=by rfl) (hs:Nw [e] X.env=(false,eval e X.env)::Nw [] X.env:=by exact aQ rfl) (hplain:(backTo cpos (Nw [] X.env)).any (·.1)=false:=by rfl)
  (hsw:swapsWith (.Call (.Attribute (.Name x npos) "append" apos) [e] [] cpos) none pos.line X.env=pure false:=by rfl) :
  S X B (.Expr (.Call (.Attribute (.Name x npos) "append" apos) [e] [] cpos) pos) (FB i f) :=
 PS.imp (An (DP PySem.F.plainAttrs_list PySem.F.slot_list_append PySem.F.type_list_append v9 (rB hN hv hd hcd) (ac he ao hs) hbase hfew hline hs hplain) hsw) λ D σ H ⟨F,η,o,sr,hd,q⟩=>by
  obtain ⟨dv,h1,hd⟩:=ab hd;split at hd
  ·rename_i ds ed;split at hd
   ·rename_i hz;cases hd;obtain ⟨p,xs,e1,e2,e3,e4,e5⟩:=sr.en.own i ds ed;refine ⟨_,e1,.inl ⟨rfl,xs,SqL.of e4⟩,F,η,_,sr,(by show (f η).bind _=_; rw [h1]; rfl),λ vs F1 H1 g1 rs=>?_⟩;obtain ⟨y,r,rfl,ry,rr⟩:=rs.cons_of;obtain rfl:=rr.nil_of;have sr1:=sr.grow g1;obtain ⟨p',xs',q1,q2,q3,q4,q5⟩:=sr1.en.own i ds ed;rw [e1] at q1;have ep:p=p':=by injection (Option.some.inj (Option.some.inj q1))
    subst ep;refine ⟨p,xs',y,rfl,rfl,q4,by rw [q5.length]; exact hz,?_⟩;refine q σ F1 _ ⟨⟨sr1.gr.ff,λ c u z=>?_,λ c u z=>?_,sr1.gr.new⟩,sr1.en.putOwn ed e1 (q5.append (.cons ry .nil))⟩ g1.ff
    ·have nb:c≠p:=aF z q3;rw [aq nb]; exact sr1.gr.hh c u z
    ·have nb:c≠p:=aF z q2;rw [aq nb]; exact sr1.gr.fh c u z
   ·cases hd
  ·cases hd
end
end
noncomputable def zG (x:Str):List Nh:=x.cps.toList.map λ c=>PyData.str ⟨#[c]⟩
noncomputable def mM (ds:List Nh) (i:Nat):List Nh:=match ds with
 | []=>[]
 | d::r=>.tuple [.int i,d]::mM r (i+1)
theorem wj:∀ (ds:List Nh) (k i:Nat) (d:Nh),(mM ds k)[i]?=some d->∃ c,ds[i]?=some c/\d=.tuple [.int ((k+i:Nat):Int),c]
 | [],k,i,d,h=>by simp [mM] at h
 | c::r,k,0,d,h=>by
  simp [mM] at h;exact ⟨c,rfl,h.symm⟩
 | c::r,k,i+1,d,h=>by
  have h':(mM r (k+1))[i]?=some d:=by simpa [mM] using h
  obtain ⟨c',h1,h2⟩:=wj r (k+1) i d h';exact ⟨c',by simpa using h1,by rw [h2,show k+1+i=k+(i+1) by omega]⟩
theorem tq:∀ (ds:List Nh) (k:Nat),(mM ds k).length=ds.length
 | [],_=>rfl
 | _::r,k=>by rw [mM,NN,NN,tq r]
noncomputable def Ite (x:Str):It:=⟨λ i _=>i < x.cps.size,λ i H v H'=>∃ T c,H T=none/\x.cps[i]?=some c/\v=.ref T/\H'=upd H T (.tup [.int (i:Nat),.str ⟨#[c]⟩]),λ i _=>i=x.cps.size⟩
section
theorem zD {P:NT} {w:World} {K:Ni} {elts:List Expr} {k:Nat} {tp:Pos} {e it:NI} {x:Str} {St:Nat->Heap->Prop} (hei:e≠it)
  (D:∀ A:Oh,A.handled=none->Draws P w A it [it] x.cps.size (λ i v=>∃ c u,x.cps[i]?=some c/\v=.str ⟨#[c]⟩ u) St) (hcell:∀ i h,St i h->∃ o,h.get? it=some o/\∀ v,o.data≠.cell v) :
  Turn P w K (.Tuple elts k tp) (Ite x) [e,it] e (λ i h=>(∃ old,IsEnum h e it i old)/\St i h) where
 mem:=by simp
 obj:=λ i h st b hb=>by
  obtain ⟨⟨old,he⟩,hs⟩:=st;rcases NO.mp hb with rfl | hb
  ·exact ⟨_,he,λ v z=>by cases z⟩
  ·rw [NF.mp hb];exact hcell i h hs
 keep:=λ i h h' st kk=>by
  obtain ⟨⟨old,he⟩,hs⟩:=st;refine ⟨⟨old,kk e (by simp) _ he⟩,?_⟩;exact (D { frames:=none,units:=0,depth:=0,handled:=none } rfl).frame i h h' hs λ b hb o q=>kk b (by rw [NF.mp hb]; simp) o q
 item:=by
  intro X hP hw hK hc i pins s σ H E I hf st hg;subst hP hw hK;have W:=WalksT.enumerateD (prog:=X.prog) (w:=X.w) (A:=X.A) (D X.A.in1 (I.ok.hd hc)) e hei (by simpa using hei) (by simp);refine W.item i s _ _ hg st λ T vals h' tk Pt hT hIs Md kp=>⟨.ref T,rfl,?_⟩;refine W.go elts k tp i T _ _ _ Md λ h'' st'' kp''=>?_;obtain ⟨t,xv,⟨c,u,hcx,rfl⟩,rfl⟩:=Pt;have nT:H T=none:=I.hok.fresh hT;have aT:T∉[e,it]:=W.apart i T _ Md;have kall:∀ b o,b∉[e,it]->s.heap.get? b=some o->h''.get? b=some o:=λ b o hb q=>kp'' b o hb (kp b o hb q);have hIs'':IsTup h'' T #[.int i t,.str ⟨#[c]⟩ u]:=by
   obtain ⟨o,ho,hcl,n,hd⟩:=hIs;exact ⟨o,kp'' T o aT ho,hcl,n,hd⟩
  have ltT:∀ b o,s.heap.get? b=some o->b≠T:=λ b o q=>NZ (NK (NM q) hT);have nfp:∀ b o,H b=some o->b∉[e,it]:=λ b o q hb=>by rw [(hf b hb).1] at q; cases q
  have J:Inv X pins σ (upd H T (.tup [.int (i:Nat),.str ⟨#[c]⟩])) { s with heap:=h'',toks:=tk }:=by
   refine I.step (h':=h'') (g':=s.gens) (d':=s.drawn) (t':=tk) (ch:=[e,it]) (λ b hb=>⟨(hf b hb).2.2.2.1,(hf b hb).2.1,(hf b hb).2.2.2.2.1,(hf b hb).2.2.2.2.2⟩)
    (λ b o _ _ hb q _=>kall b o hb q) (λ b o _ _ hb q _=>⟨o.slots,kall b o hb q⟩) (λ b o _ q n=>by rw [aq (ltT b o q)]; exact n) (λ b o hb q=>⟨o,kall b o hb q⟩)
    (λ b xs q=>by rw [aq (aF q nT)]; exact q) (λ b o xs q=>by rw [aq (aF q nT)]; exact q) (λ b ps q=>⟨#[],by rw [aq (aF q nT),q]; simp⟩) (λ m hm=>?_) (λ b o q=>?_) I.bare
   ·obtain ⟨o,es,ep,ho,r⟩:=hm;refine ⟨o,es,ep,kall _ o (λ hb=>?_) ho,r⟩;exact (hf _ hb).2.1 rfl
   ·by_cases hb:b=T
    ·subst hb;rw [au] at q;cases q;exact ⟨by show 2<=No; decide,[.int i t,.str ⟨#[c]⟩ u],.cons ⟨t,rfl⟩ (.cons ⟨u,rfl⟩ .nil),hIs''⟩
    ·rw [aq hb] at q;refine (I.hok b o q).stay (λ c' v hc' z=>kall c' v ?_ z) (λ c' z=>by rw [aq (aF z nT)]; exact z) λ c' xs z=>by rw [aq (aF z nT)]; exact z
     rcases hc' with rfl | hc'
     ·exact nfp _ _ q
     ·exact nfp _ _ hc'
  refine ⟨.ref T,upd H T (.tup [.int (i:Nat),.str ⟨#[c]⟩]),J,rfl,⟨T,c,nT,hcx,rfl,rfl⟩,st'',λ b hb=>?_⟩;have nb:b≠T:=λ z=>aT (by rw [<- z]; exact hb);rw [aq nb]; exact (hf b hb).1
 done:=by
  intro X hP hw hK hc i pins s σ H E I hf st hg;subst hP hw hK;have W:=WalksT.enumerateD (prog:=X.prog) (w:=X.w) (A:=X.A) (D X.A.in1 (I.ok.hd hc)) e hei (by simpa using hei) (by simp);have hg':i=x.cps.size:=hg;rw [hg'] at st;refine W.done s _ _ st λ h' tk kp=>⟨rfl,?_⟩;have nfp:∀ b o,H b=some o->b∉[e,it]:=λ b o q hb=>by rw [(hf b hb).1] at q; cases q
  refine I.step (h':=h') (g':=s.gens) (d':=s.drawn) (t':=tk) (ch:=[e,it]) (λ b hb=>⟨(hf b hb).2.2.2.1,(hf b hb).2.1,(hf b hb).2.2.2.2.1,(hf b hb).2.2.2.2.2⟩)
   (λ b o _ _ hb q _=>kp b o hb q) (λ b o _ _ hb q _=>⟨o.slots,kp b o hb q⟩) (λ _ _ _ _ n=>n) (λ b o hb q=>⟨o,kp b o hb q⟩)
   (λ _ _ q=>q) (λ _ _ _ q=>q) (λ b ps q=>⟨#[],by rw [q]; simp⟩) (λ m hm=>?_) (λ b o q=>?_) I.bare
  ·obtain ⟨o,es,ep,ho,r⟩:=hm;exact ⟨o,es,ep,kp _ o (λ hb=>(hf _ hb).2.1 rfl) ho,r⟩
  ·refine (I.hok b o q).stay (λ c' v hc' z=>kp c' v ?_ z) (λ _ z=>z) λ _ _ z=>z;rcases hc' with rfl | hc'
   ·exact nfp _ _ q
   ·exact nfp _ _ hc'
 self:=λ A i s Q E st h=>by
  obtain ⟨⟨old,he⟩,hs⟩:=st;exact wpAny_pyIter_enum he h
variable {X:Cx} {B:Bd} {a:Expr} {fs:En->Option (List Nh)} {pos pp:Pos}
noncomputable def enS (ds:List Nh):Option (List Nh):=match ds with
 | [.str x]=>some (mM (zG x) 0)
 | _=>none
theorem B0 {K:Ni} {F:Hp} {x:Str}:ItP K (Ite x) F (mM (zG x) 0):=λ F1 H1 i s1 s2=>by
 have hl:(mM (zG x) 0).length=x.cps.size:=by rw [tq]; unfold zG; rw [Nl,Array.length_toList]
 refine ⟨λ d e=>?_,λ e=>by show i=_; rw [e,hl]⟩;have hi:i < x.cps.size:=by rw [<- hl]; exact (Nr.mp e).1
 refine ⟨hi,λ v H2 y=>?_⟩;obtain ⟨T,c,hT,hc,rfl,rfl⟩:=y;obtain ⟨cd,h1,h2⟩:=wj _ _ _ _ e
 have:cd=.str ⟨#[c]⟩:=by
  unfold zG at h1;rw [NG] at h1;have hc':x.cps.toList[i]?=some c:=by simpa using hc
  rw [hc'] at h1;exact (Option.some.inj h1).symm
 subst this;rw [Nat.zero_add] at h2;subst h2;have g:=Gr.one (o:=.tup [.int (i:Nat),.str ⟨#[c]⟩]) s2 hT;exact ⟨_,g,jc (SqT.of au) (.cons cz (.cons qa .nil))⟩
theorem I.enum {elts:List Expr} {k:Nat} {tp:Pos} (hc:X.calm=true) (hm:X.mg "enumerate" = none) (ha:A X B [a] fs) (hg:Gl X "enumerate" := by rfl) (hs:Nw [a] X.env=[(false,eval a X.env)]:=by exact aQ rfl) :
  I X B (.Tuple elts k tp) (.Call (.Name "enumerate" pp) [a] [] pos) (λ η=>(fs η).bind enS):=by
 intro pins s σ H R I ⟨F,η,ds,sr,hd,q⟩;obtain ⟨es,h1,hd⟩:=ab hd;unfold enS at hd;split at hd
 ·rename_i x;cases hd;refine Call_ (uK I hg hm boot_enumerate (PyProof.Rows.callWith_type1 (thn (ha pos pins s σ H (λ vs H1=>∃ F',Gr F H F' H1/\RelL X.K F' [.str x] vs) I ⟨F,η,_,sr,h1,λ vs F' H' g r=>⟨F',g,r⟩⟩) λ us s1 ⟨vs,H1,I1,r1,F1,g1,rl⟩=>?_) hs rfl));obtain ⟨y,r,rfl,ry,rr⟩:=rl.cons_of;obtain rfl:=rr.nil_of;obtain ⟨u,rfl,ru⟩:=qv r1;rw [ry.str] at ru;obtain ⟨t,rfl⟩:=ru;refine call_enumerate_str λ h' he hit hsz hk=>?_;refine wpAny_pyIter_enum he ?_;have I2:Inv X pins σ H1 { s1 with heap:=h' }:=I1.kept (t':=s1.toks) hk;have nw:∀ b,s1.heap.objs.size<=b->sU X pins H1 b:=λ b hb=>I1.fpOk hb (I1.hok.fresh hb);have fpo:∀ b∈[s1.heap.objs.size+1,s1.heap.objs.size],sU X pins H1 b:=λ b hb=>by
   rcases NO.mp hb with rfl | hb
   ·exact nw _ (Nat.le_succ _)
   ·rw [NF.mp hb]; exact nw _ (Np _)
  have cel:∀ (ty:String) (i:Nat) (h:Heap),h.IsStrIter s1.heap.objs.size ty x t i->∃ o,h.get? s1.heap.objs.size=some o/\∀ v,o.data≠.cell v:=λ ty i h st=>by
   obtain ⟨o,ho,hcl,hd⟩:=st;exact ⟨o,ho,λ v z=>by rw [hd] at z; cases z⟩
  cases ha':x.cps.all (· < 128)
  ·have hit':h'.IsStrIter s1.heap.objs.size "str_iterator" x t 0:=by simpa [strIterType,ha'] using hit
   exact ⟨_,_,_,_,H1,rfl,I2,zD (Nat.succ_ne_self _) (λ A hA=>Draws.strWide hA _ x t) (cel _),⟨⟨_,he⟩,hit'⟩,fpo,q _ F1 H1 g1 B0⟩
  ·have hit':h'.IsStrIter s1.heap.objs.size "str_ascii_iterator" x t 0:=by simpa [strIterType,ha'] using hit
   exact ⟨_,_,_,_,H1,rfl,I2,zD (Nat.succ_ne_self _) (λ A hA=>Draws.strAscii hA _ x t) (cel _),⟨⟨_,he⟩,hit'⟩,fpo,q _ F1 H1 g1 B0⟩
 ·cases hd
end
theorem HC {a b:Str} (h:a.cps.toList=b.cps.toList):a=b:=by
 obtain ⟨a⟩:=a;obtain ⟨b⟩:=b
 have:a=b:=Array.toList_inj.mp h
 rw [this]
noncomputable def Ey (ns:List Int):List Int:=ns.mergeSort λ a b=>decide (a<=b)
theorem HF (ns:List Int):(Ey ns).Pairwise (·<=·):=by
 have h:=List.pairwise_mergeSort (le:=λ (a b:Int)=>decide (a<=b)) (λ a b c h k=>by simp at h k ⊢; omega) (λ a b=>by simp; omega) ns;exact h.imp λ h=>by simpa using h
theorem zF {ns ms:List Int} (p:ms.Perm ns) (h:ms.Pairwise (·<=·)):ms=Ey ns :=
 List.Perm.eq_of_pairwise (le:=(·<=·)) (λ a b _ _ h k=>by omega) h (HF ns) (p.trans (List.mergeSort_perm ns _).symm)
section
variable {X:Cx}
variable {B:Bd} {a b e:Expr} {es:List Expr} {f g:En->Option Nh} {fs:En->Option (List Nh)} {pos pp apos cpos:Pos}
end
noncomputable def A6 (N:List Str) (sc scope:Scope) (N':List Str) (mp:List (Option Nat)):Bool :=
 decide (scope.kind=.function)&&decide (sc.kind=.function)&&decide (∀ x∈scope.names,x.2≠.cell)&&decide (∀ x∈scope.names,x.2=.local->scope.names.lookup x.1=some .local) &&
 decide (∀ x∈scope.names,x.2=.free->sc.names.lookup x.1=some .cell)&&decide (mp.length=N'.length) &&
 (N'.zip mp).all λ p=>match p.2 with
  | none=>true
  | some j=>decide (N[j]?=some p.1)&&decide (scope.names.lookup p.1=some .free)
theorem ng {env:Env} (hk:env.scope.kind=.function):∀ {names:List (Str×NameKind)} {x:Str},names.lookup x=some .free->env.kindOf x=some .cell ->
  (names.map λ (n,k)=>if (k==NameKind.free&&env.scope.kind==.function&&env.kindOf n==some .cell) then (n,NameKind.cell) else (n,k)).lookup x=some .cell
 | [],_,h,_=>by simp at h
 | (n,k)::r,x,h,hc=>by
  have ih:=@ng env hk r x;show O0 x ((if (k==NameKind.free&&env.scope.kind==.function&&env.kindOf n==some .cell)=true then (n,NameKind.cell) else (n,k))::_)=_;cases hx:x==n with
  | true =>
   have en:x=n:=by simpa using hx
   subst en;simp only [OL,hx] at h;cases h;rw [if_pos (by rw [hk,hc]; rfl)];simp [OL]
  | false =>
   simp only [OL,hx] at h
   split <;> simp only [OL,hx] <;> exact ih h hc
theorem CompSc.of {X:Cx} {scope:Scope} {N':List Str} {mp:List (Option Nat)} (h:A6 X.N X.env.scope scope N' mp=true):CompSc X scope N' mp:=by
 unfold A6 at h;simp only [Ol,decide_eq_true_eq] at h;obtain ⟨⟨⟨⟨⟨⟨h1,h0⟩,h2⟩,h3⟩,h4⟩,h5⟩,h6⟩:=h;refine ⟨h1,h2,h3,λ x hx hf=>.inl (h4 x hx hf),h5,λ i x j e1 e2=>?_⟩;have hm:(x,some j)∈N'.zip mp:=by
  have:(N'.zip mp)[i]?=some (x,some j):=by rw [List.getElem?_zip_eq_some]; exact ⟨e1,e2⟩
  exact OV this
 have h7:=Pj.mp h6 _ hm;simp only [Ol,decide_eq_true_eq] at h7;have hmem:(x,NameKind.free)∈scope.names:=PySem.mem_of_lookup h7.2;exact ⟨h7.1,hmem,.inl (ng h0 h7.2 (h4 _ hmem rfl))⟩
theorem dm {X:Cx} {B:Bd} {x:Str} {i:Int} {t:Tok} {pos:Pos} (hm:X.mg x=some (.int i t)) (hg:Gl X x:=by rfl) (hd:(x==("__debug__" : Str))=false:=by decide):E X B (.Name x pos) (eC (.int i)):=E.glob hm (v:=.int i) ⟨t,rfl⟩ (λ _=>cz) hg hd
theorem E.globS {X:Cx} {B:Bd} {x:Str} {i:Str} {t:Tok} {pos:Pos} (hm:X.mg x=some (.str i t)) (hg:Gl X x:=by rfl) (hd:(x==("__debug__" : Str))=false:=by decide):E X B (.Name x pos) (eC (.str i)):=E.glob hm (v:=.str i) ⟨t,rfl⟩ (λ _=>qa) hg hd
theorem Hy {t:En->Nh->Option En}:∀ η ds η',aX t gX η ds=some η'->ds.length=1:=λ η ds η' h=>by
 match ds,h with
 | [_],_=>rfl
 | _::_::_,h=>obtain ⟨_,_,h⟩:=ab h; cases h
theorem oO {t u:En->Nh->Option En}:∀ η ds η',aX t (aX u gX) η ds=some η'->ds.length=2:=λ η ds η' h=>by
 match ds,h with
 | d::r,h =>
  obtain ⟨η1,_,h⟩:=ab h;rw [NN,Hy _ _ _ h]
theorem ba {X:Cx} {scope:Scope} {N':List Str} {mp:List (Option Nat)} (N:List Str) (sc:Scope) (hN:X.N=N) (hs:X.env.scope=sc) (h:A6 N sc scope N' mp=true):CompSc X scope N' mp:=CompSc.of (by rw [hN,hs]; exact h)
section
variable {X:Cx}
variable {B:Bd} {a b e:Expr} {es:List Expr} {f g:En->Option Nh} {fs:En->Option (List Nh)} {pos pp tp apos cpos pos':Pos} {sts:List Stmt} {u:En->Option Out} {p:En->Option Bool}
noncomputable def G0:List Nh->Option (List Bool)
 | []=>some []
 | .bool i::r=>(G0 r).bind λ ns=>some (i::ns)
 | _::_=>none
theorem Ac:∀ {ds:List Nh} {ns:List Bool},G0 ds=some ns->ds=ns.map PyData.bool
 | [],ns,h=>by cases h; rfl
 | .bool i::r,ns,h=>by
  obtain ⟨ms,h1,h2⟩:=ab h;cases h2;rw [Ac h1]; rfl
 | .none::_,_,h=>by cases h
 | .str _::_,_,h=>by cases h
 | .int _::_,_,h=>by cases h
 | .list _::_,_,h=>by cases h
 | .tuple _::_,_,h=>by cases h
 | .dict _::_,_,h=>by cases h
theorem Dl (ns:List Bool):G0 (ns.map PyData.bool)=some ns:=by
 induction ns with
 | nil=>rfl
 | cons n r ih=>rw [Ny]; unfold G0; rw [ih]; rfl
theorem RelL.bools_of {K:Ni} {F:Hp}:∀ {ns:List Bool} {xs:List V},RelL K F (ns.map PyData.bool) xs->xs=ns.map V.bl
 | [],xs,h=>h.nil_of
 | n::r,xs,h=>by
  obtain ⟨x,ys,rfl,h1,h2⟩:=h.cons_of;rw [h1.bl,RelL.bools_of h2]; rfl
theorem EC (bs:List Bool):(List.range bs.length).any (λ i=>bs.getD i false)=bs.any id:=by
 rw [OH,OM,OM]
 constructor
 ·rintro ⟨i,hi,h⟩
  have hi:=OO.mp hi;rw [N8,NQ hi] at h;exact ⟨_,List.getElem_mem hi,h⟩
 ·rintro ⟨x,hx,h⟩
  obtain ⟨i,hi,rfl⟩:=List.mem_iff_getElem.mp hx;exact ⟨i,OO.mpr hi,by rw [N8,NQ hi]; exact h⟩
noncomputable def FF (K:Ni) (r:List Bool->Bool):List V->Hp->VK->Prop:=λ xs H Q=>∃ (p:NI) (bs:List Bool),xs=[.ref p]/\SqL K H p (bs.map V.bl)/\Q (.bl (r bs)) H
theorem Dj (hc:X.calm=true) {pins:List (NI×Obj)} {s:Nu} {σ:St} {H:Hp} {p:NI} {bs:List Bool} {Q:Bool->Nq->Nu->Prop} {r:(Nat->Bool)->Nat->Bool} (I:Inv X pins σ H s) (hq:SqL X.K H p (bs.map V.bl))
  (hQ:∀ h' tk,(∀ b o,s.heap.get? b=some o->h'.get? b=some o)->Q true (.bool (r (λ i=>bs.getD i false) bs.length)) { s with heap:=h',toks:=tk }) :
  N7 (N9 X.prog X.w) X.A.in1 (pyIter (.ref p)) (λ it s₂=>∃ I fp wr n P St tr,it=.ref I/\Walks X.prog X.w X.A.in1 I fp wr n P St/\St 0 s₂.heap/\TruthOf X.prog X.w X.A.in1 P tr /\
   ∀ h' tk,(∀ b o,b∉wr->s₂.heap.get? b=some o->h'.get? b=some o)->Q true (.bool (r tr n)) { s₂ with heap:=h',toks:=tk }) X.xe s:=by
 obtain ⟨its,rv,pl,hz⟩:=I.list hq;have hl:=rv.length;rw [Nl] at hl;have hlt:p < s.heap.objs.size:=by
  obtain ⟨o,ho,_⟩:=pl.isList;exact NM ho
 refine wpAny_pyIter_list pl.isList ?_;refine ⟨s.heap.objs.size,_,_,_,_,_,λ i=>bs.getD i false,rfl,Walks.list (A:=X.A.in1) (I.ok.hd hc) s.heap.objs.size p (NZ hlt) its.toArray,⟨⟨_,NX _ rfl,rfl,rfl⟩,pl.isList.at λ o e=>Nv _ e⟩,?_,λ h' tk hk=>?_⟩
 ·intro i v s' Q' E' hv hq';have hv':its[i]?=some v:=by simpa using hv
  obtain ⟨hi,_⟩:=Nr.mp hv';have hn:bs[i]?=some bs[i]:=NQ (by omega);obtain ⟨w,hw,rw'⟩:=rv.get (i:=i) (x:=.bl bs[i]) (by rw [NG,hn]; rfl);rw [hv'] at hw;cases hw;cases rw';have e:bs.getD i false=bs[i]:=by rw [N8,hn]; rfl
  rw [show (λ i=>bs.getD i false) i=bs[i] from e] at hq';exact wpAny_truthy_bool hq'
 ·have e:its.toArray.size=bs.length:=by rw [ND]; exact hl.symm
  rw [e];refine hQ h' tk λ b o eb=>hk b o ?_ (Nv _ eb);intro hb;exact absurd (NM eb) (by rw [NF.mp hb]; exact OT _)
theorem GT (hc:X.calm=true):CallR X (.builtin "any") (FF X.K λ bs=>bs.any id):=by
 intro pins s σ H xs us Q I r h;obtain ⟨p,bs,rfl,hq,q⟩:=h;obtain ⟨u,rfl,rx⟩:=qv r;cases rx;refine call_any_walk (Dj hc (Q:=λ _ v s'=>EP X pins σ Q v s') (r:=λ tr n=>(List.range n).any tr) I hq λ h' tk k=>?_);rw [EC];exact ⟨.bl _,H,I.kept k,rfl,q⟩
noncomputable def AA (r:List Bool->Bool) (ds:List Nh):Option Nh:=match ds with
 | [.list xs]=>(G0 xs).bind λ bs=>some (.bool (r bs))
 | _=>none
theorem G4 {K:Ni} {r:List Bool->Bool}:AdA K (FF K r) (AA r):=λ F H xs ds d Q sm rs e q=>by
 unfold AA at e;split at e
 ·obtain ⟨bs,h1,h2⟩:=ab e;cases h2
  have:=Ac h1
  subst this;obtain ⟨x,r,rfl,rx,rr⟩:=rs.cons_of;obtain rfl:=rr.nil_of;obtain ⟨a,ys,rfl,hq,r1⟩:=rx.lst
  have:=r1.bools_of
  subst this;exact ⟨a,bs,rfl,sm.seq hq,q _ F H (.refl sm) gp⟩
 ·cases e
noncomputable def F8:=AA λ bs=>bs.any id
theorem E.any (hc:X.calm=true) (hm:X.mg "any" = none) (ha:A X B [e] fs) (hg:Gl X "any" := by rfl) (he:Nw [e] X.env=(false,eval e X.env)::Nw [] X.env:=by exact aQ rfl) (hpl:(backTo pos (Nw [] X.env)).any (·.1)=false:=by rfl):E X B (.Call (.Name "any" pp) [e] [] pos) (lA F8 fs) :=
 E.callB (GT hc) G4 hm (by decide +kernel) ha hg (by decide) (by decide) he hpl
noncomputable def Im (ds:List Nh):Option Nh:=match ds with
 | [.int i,.int j]=>some (.int (if j > i then j else i))
 | _=>none
noncomputable def Il (ds:List Nh):Option Nh:=match ds with
 | [.int i,.int j]=>some (.int (if j < i then j else i))
 | _=>none
theorem G1 {K:Ni} {g:Int->Int->Int}:AdA K (λ xs H Q=>∃ i j,xs=[.int i,.int j]/\Q (.int (g i j)) H) (λ ds=>match ds with | [.int i,.int j]=>some (.int (g i j)) | _=>none):=λ F H xs ds d Q sm rs e q=>by
 dsimp only at e;split at e
 ·cases e;obtain ⟨x,r,rfl,rx,rr⟩:=rs.cons_of;obtain ⟨y,r2,rfl,ry,rr2⟩:=rr.cons_of;obtain rfl:=rr2.nil_of;exact ⟨_,_,by rw [rx.int,ry.int],q _ F H (.refl sm) cz⟩
 ·cases e
theorem E.max (hc:X.calm=true) (hm:X.mg "max" = none) (ha:A X B [a,b] fs) (hg:Gl X "max" := by rfl) (he:Nw [a,b] X.env=(false,eval a X.env)::Nw [b] X.env:=by rfl) (hpl:(backTo pos (Nw [b] X.env)).any (·.1)=false:=by rfl):E X B (.Call (.Name "max" pp) [a,b] [] pos) (lA Im fs) :=
 E.callB (E5 hc) G1 hm (by decide +kernel) ha hg (by decide) (by decide) he hpl
theorem E.min (hc:X.calm=true) (hm:X.mg "min" = none) (ha:A X B [a,b] fs) (hg:Gl X "min" := by rfl) (he:Nw [a,b] X.env=(false,eval a X.env)::Nw [b] X.env:=by rfl) (hpl:(backTo pos (Nw [b] X.env)).any (·.1)=false:=by rfl):E X B (.Call (.Name "min" pp) [a,b] [] pos) (lA Il fs) :=
 E.callB (E4 hc) G1 hm (by decide +kernel) ha hg (by decide) (by decide) he hpl
noncomputable def xX (ds:List Nh):Option Nh:=match ds with
 | [.int i]=>some (.int i)
 | [.bool k]=>some (.int (if k then 1 else 0))
 | _=>none
theorem K5 {K:Ni}:AdA K (λ xs H Q=>(∃ i,xs=[.int i]/\Q (.int i) H)\/∃ k,xs=[.bl k]/\Q (.int (if k then 1 else 0)) H) xX:=λ F H xs ds d Q sm rs e q=>by
 unfold xX at e;split at e
 ·cases e;obtain ⟨x,r,rfl,rx,rr⟩:=rs.cons_of;obtain rfl:=rr.nil_of;exact .inl ⟨_,by rw [rx.int],q _ F H (.refl sm) cz⟩
 ·cases e;obtain ⟨x,r,rfl,rx,rr⟩:=rs.cons_of;obtain rfl:=rr.nil_of;exact .inr ⟨_,by rw [rx.bl],q _ F H (.refl sm) cz⟩
 ·cases e
theorem E.toInt (hm:X.mg "int" = none) (ha:A X B [e] fs) (hg:Gl X "int" := by rfl) (he:Nw [e] X.env=(false,eval e X.env)::Nw [] X.env:=by exact aQ rfl) (hpl:(backTo pos (Nw [] X.env)).any (·.1)=false:=by rfl):E X B (.Call (.Name "int" pp) [e] [] pos) (lA xX fs) :=
 E.callTy E6 K5 hm (by decide +kernel) ha hg (by decide) (by decide) he hpl
noncomputable def sWh (c:En->Option Bool) (body:En->Option Out):Nat->En->Option Out
 | 0,_=>none
 | n+1,η=>(c η).bind λ b=>if b=true then (body η).bind λ o=>match o with
  | .nx η'=>sWh c body n η'
  | .ct η'=>sWh c body n η'
  | .bk η'=>some (.nx η')
  | .rt d=>some (.rt d) else some (.nx η)
theorem S.while (n:Nat) {c:Expr} (hp:PassesOwn (N9 X.prog X.w) X.A X.env X.xe) (hc:T X B c p) (hb:Ss X B sts u):S X B (.While c sts [] pos) (sWh p u n):=PS.imp (FJ hp hc hb) λ D σ H ⟨F,η,o,sr,hd,q⟩=>by
 refine ⟨λ m σ H=>∃ Fc ηc,SR X.K B Fc H σ ηc/\Same F Fc/\sWh p u m ηc=some o,⟨n,F,η,sr,.refl _,hd⟩,?_⟩
 rintro m σc Hc ⟨Fc,ηc,src,sc,hgo⟩
 cases m with
 | zero=>cases hgo
 | succ m =>
  unfold sWh at hgo;obtain ⟨b,hb',hgo⟩:=ab hgo;refine ⟨Fc,ηc,b,src,hb',λ F1 H1 g1=>?_⟩;cases b with
  | false =>
   rw [if_neg NE] at hgo;cases hgo;refine Mb ?_;exact q σc F1 H1 (src.grow g1) (sc.trans g1.ff)
  | true =>
   rw [if_pos rfl] at hgo;refine Ma ?_;obtain ⟨o1,e2,hgo⟩:=ab hgo;refine ⟨λ σ' H'=>∃ m',m' < m+1/\∃ Fc ηc,SR X.K B Fc H' σ' ηc/\Same F Fc/\sWh p u m' ηc=some o,λ σ' H' z=>z,F1,ηc,o1,src.grow g1,e2,?_⟩;have s1:Same F F1:=sc.trans g1.ff;cases o1 with
   | nx η2=>exact λ σ' F' H' r s=>⟨m,O7 _,F',η2,r,s1.trans s,hgo⟩
   | ct η2=>exact λ σ' F' H' r s=>⟨m,O7 _,F',η2,r,s1.trans s,hgo⟩
   | bk η2 =>
    cases hgo;exact λ σ' F' H' r s=>q σ' F' H' r (s1.trans s)
   | rt d =>
    cases hgo;exact q
end
section
variable {X:Cx} {B:Bd} {e:Expr} {f:En->Option Nh} {tg:Expr}
end
section
variable {X:Cx} {B:Bd} {a b e:Expr} {f g:En->Option Nh} {apos cpos:Pos}
end
section
variable {X:Cx} {B:Bd} {a b e:Expr} {f g:En->Option Nh} {pos:Pos}
noncomputable def KI:Nh->Bool
 | .none=>true
 | _=>false
noncomputable def Av (neg:Bool) (x y:Nh):Option Nh:=match y with
 | .none=>some (.bool (if neg then !KI x else KI x))
 | _=>none
theorem DZ {K:Ni} {F:Hp} {d:Nh} {x:V} (r:Rel K F d x):decide (x=.non)=KI d:=by
 cases d with
 | none=>rw [r.non]; rfl
 | bool b=>rw [r.bl]; rfl
 | int i=>rw [r.int]; rfl
 | str s=>rw [r.str]; rfl
 | list ds=>obtain ⟨a,xs,rfl,_⟩:=r.lst; rfl
 | tuple ds=>obtain ⟨a,xs,rfl,_⟩:=r.tup; rfl
 | dict es=>obtain ⟨a,xs,rfl,_⟩:=r.dct; rfl
theorem K4 {K:Ni}:Ad2 K (λ x y H Q=>y=.non/\Q (.bl (decide (x=.non))) H) (Av false):=λ F H x y dx dy d Q sm rx ry e q=>by
 unfold Av at e;split at e
 ·cases e;refine ⟨ry.non,?_⟩;rw [DZ rx];exact q _ F H (.refl sm) gp
 ·cases e
theorem Jd {K:Ni}:Ad2 K (λ x y H Q=>y=.non/\Q (.bl (!decide (x=.non))) H) (Av true):=λ F H x y dx dy d Q sm rx ry e q=>by
 unfold Av at e;split at e
 ·cases e;refine ⟨ry.non,?_⟩;rw [DZ rx];exact q _ F H (.refl sm) gp
 ·cases e
theorem T.isN (ha:E X B a f) (hb:E X B b g) (hm:Oa .Is b=false:=by rfl):T X B (.Compare a [.Is] [b] pos) (bT (l2 (Av false) f g)):=T.cmp Ko K4 hm ha hb
theorem T.notN (ha:E X B a f) (hb:E X B b g) (hm:Oa .IsNot b=false:=by rfl):T X B (.Compare a [.IsNot] [b] pos) (bT (l2 (Av true) f g)):=T.cmp Io Jd hm ha hb
end
noncomputable def Itv (K:Ni) (a:NI) (n:Nat):It :=
 ⟨λ i H=>i < n/\∃ xs x,SqL K H a xs/\xs[n - 1 - i]?=some x,λ i H x H'=>H'=H/\∀ xs,SqL K H a xs->xs[n - 1 - i]?=some x,λ i _=>i=n⟩
theorem Fp {P:NT} {w:World} {K:Ni} {tg:Expr} (a it:NI) (n:Nat):Turn P w K tg (Itv K a n) [it] it (λ i h=>h.IsRevIter it a ((n:Int) - 1 - (i:Nat))) where
 mem:=by simp
 obj:=λ i h st b hb=>by
  have e:b=it:=by simpa using hb
  subst e;obtain ⟨o,e,c,d⟩:=st;exact ⟨o,e,λ v z=>by rw [d] at z; cases z⟩
 keep:=λ i h h' st k=>st.at λ o e=>k it (by simp) o e
 item:=by
  intro X hP hw hK hc i pins s σ H E I hf st hg;subst hP hw hK;obtain ⟨hi,xs,x,hq,hx⟩:=hg;obtain ⟨its,rv,p,hz⟩:=I.list hq;obtain ⟨u,hu,ru⟩:=rv.get hx;obtain ⟨f0,f1,f2,f3,f4,f5⟩:=hf it (by simp);have ei:(n:Int) - 1 - (i:Nat)=((n - 1 - i:Nat):Int):=by omega
  rw [ei] at st;refine wpAny_pyNext_rev_item st p.isList (x:=u) (by simpa using hu) λ h' st' sb=>?_;have I1:Inv X pins σ H { s with heap:=h' }:=I.turned (t':=s.toks) (λ b o hb e=>(sb.2 b hb).trans e) f0 f1 f3 f4 f5;have st2:h'.IsRevIter it a ((n:Int) - 1 - ((i+1:Nat):Nat)):=by
   have e2:((n - 1 - i:Nat):Int) - 1=(n:Int) - 1 - ((i+1:Nat):Nat):=by omega
   rw [<- e2]; exact st'
  obtain ⟨o,e,c,d⟩:=id st';exact ⟨u,rfl,Ec (s:={ s with heap:=h' }) e c d (by decide) ⟨x,H,I1,ru,⟨rfl,λ ys hy=>by rw [I.list_inj hy hq]; exact hx⟩,st2,λ b hb=>(hf b hb).1⟩⟩
 done:=by
  intro X hP hw hK hc i pins s σ H E I hf st hg;subst hP hw hK;obtain ⟨f0,f1,f2,f3,f4,f5⟩:=hf it (by simp);have hg:i=n:=hg;have ei:(n:Int) - 1 - (i:Nat)=-1:=by omega
  rw [ei] at st;exact wpAny_pyNext_rev_end (I.ok.hd hc) st λ h' eb=>⟨rfl,I.turned (t':=s.toks) (λ b o hb e=>eb b o hb e) f0 f1 f3 f4 f5⟩
 self:=λ _ _ _ _ _ st h=>wpAny_pyIter_revIter st h
section
variable {X:Cx} {B:Bd} {a:Expr} {fs:En->Option (List Nh)} {pos pp:Pos}
noncomputable def rvS (ds:List Nh):Option (List Nh):=match ds with
 | [.list xs]=>some xs.reverse
 | _=>none
theorem IK {K:Ni} {F:Hp} {p:NI} {ds:List Nh} {xs:List V} (hq:SqL K F p xs) (rs:RelL K F ds xs):ItP K (Itv K p ds.length) F ds.reverse:=λ F1 H1 i s1 s2=>by
 refine ⟨λ d e=>?_,λ e=>by show i=ds.length; rw [e,Ot]⟩;have hi:i < ds.length:=by
  have:=(Nr.mp e).1
  rwa [Ot] at this
 rw [List.getElem?_reverse hi] at e;obtain ⟨x,hx,rx⟩:=rs.get e;have hq1:SqL K H1 p xs:=s2.seq (s1.seq hq);refine ⟨⟨hi,xs,x,hq1,hx⟩,λ v H2 y=>?_⟩;obtain ⟨rfl,y⟩:=y
 have:=(y xs hq1).symm.trans hx
 cases this;exact ⟨F1,.refl s2,rx.mono s1⟩
theorem I.rev {tg:Expr} (hc:X.calm=true) (hm:X.mg "reversed" = none) (ha:A X B [a] fs) (hg:Gl X "reversed" := by rfl) (hs:Nw [a] X.env=[(false,eval a X.env)]:=by exact aQ rfl) :
  I X B tg (.Call (.Name "reversed" pp) [a] [] pos) (λ η=>(fs η).bind rvS):=by
 intro pins s σ H R I ⟨F,η,ds,sr,hd,q⟩;obtain ⟨es,h1,hd⟩:=ab hd;unfold rvS at hd;split at hd
 ·rename_i x;cases hd;refine Call_ (uK I hg hm (show bootBuiltins "reversed" = some (.type "reversed") by decide +kernel) (PyProof.Rows.callWith_type1 (thn (ha pos pins s σ H (λ vs H1=>∃ F',Gr F H F' H1/\RelL X.K F' [.list x] vs) I ⟨F,η,_,sr,h1,λ vs F' H' g r=>⟨F',g,r⟩⟩) λ us s1 ⟨vs,H1,I1,r1,F1,g1,rl⟩=>?_) hs rfl));obtain ⟨y,r,rfl,ry,rr⟩:=rl.cons_of;obtain rfl:=rr.nil_of;obtain ⟨u,rfl,ru⟩:=qv r1;obtain ⟨p,xs,rfl,hq,rs⟩:=ry.lst;cases ru;obtain ⟨its,rv,pl,hz⟩:=I1.list (g1.fh.seq hq);refine call_reversed_list pl.isList ?_;have hl:its.toArray.size=x.length:=by
   have h1:=rv.length;have h2:=rs.length;rw [ND];omega
  have st:(s1.heap.push (revObj p ((its.toArray.size:Int) - 1))).IsRevIter s1.heap.objs.size p ((x.length:Int) - 1 - ((0:Nat):Nat)):=by
   refine ⟨_,NX _ rfl,rfl,?_⟩;have e2:(its.toArray.size:Int) - 1=(x.length:Int) - 1 - ((0:Nat):Nat):=by rw [hl]; omega
   rw [<- e2]; rfl
  refine wpAny_pyIter_revIter st ?_;refine ⟨_,[s1.heap.objs.size],_,_,H1,rfl,I1.kept (t':=s1.toks) λ b o e=>Nv _ e,Fp p _ x.length,st,λ b hb=>?_,q _ F1 H1 g1 (IK hq rs)⟩;rw [NF.mp hb];exact I1.fpOk (Np _) (I1.hok.fresh (Np _))
 ·cases hd
end
section
variable {X:Cx} {B:Bd} {a b e:Expr} {f g:En->Option Nh} {fs:En->Option (List Nh)} {pos:Pos}
theorem RelL.rep {K:Ni} {F:Hp} {ds:List Nh} {xs:List V} (r:RelL K F ds xs):∀ k:Nat,RelL K F (NV k ds).flatten (NV k xs).flatten
 | 0=>by simpa using RelL.nil
 | k+1=>by
  rw [OC,OS,OC,OS];exact r.append (r.rep k)
noncomputable def GK (fs:En->Option (List Nh)) (g:En->Option Nh):En->Option Nh:=λ η=>(fs η).bind λ ds=>(g η).bind λ y=>(asI y).bind λ k =>
 if 0<=k/\k < 1000/\ds.length*k.toNat<=1000 then some (.list (NV k.toNat ds).flatten) else none
theorem E.rep (ha:EO X B a fs) (hb:E X B b g):E X B (.BinOp a .Mult b pos) (GK fs g):=PE.imp (FR Kl ha hb) λ σ H Q ⟨F,η,d,sr,hd,q⟩=>by
 obtain ⟨ds,hx,hd⟩:=ab hd;obtain ⟨y,hy,hd⟩:=ab hd;obtain ⟨k,hk,hd3⟩:=ab hd;obtain rfl:=yS hk;split at hd3
 ·rename_i hc;cases hd3;refine ⟨F,η,ds,sr,hx,λ p xs F1 H1 g1 hp fp hp' rs=>⟨F1,η,_,sr.grow g1,hy,λ v F2 H2 g2 rv=>?_⟩⟩;have hH:H2 p=some (.lst xs):=g2.hh p _ hp';have hz:xs.length*k.toNat<=1000:=by rw [rs.length]; exact hc.2.2
  refine ⟨p,k,xs,rfl,rv.int,hH,by omega,by omega,Po (Ez hz),λ l hl=>?_⟩;have g3:=Gr.one (o:=.lst (NV k.toNat xs).flatten) g2.fh hl;exact q _ _ _ ((g1.trans g2).trans g3) (jO (SqL.of au) ((rs.rep k.toNat).mono (g2.ff.trans g3.ff)))
 ·cases hd3
end
section
variable {X:Cx} {B:Bd} {e st:Expr} {f g:En->Option Nh} {pos p2:Pos}
noncomputable def pRv (x y:Nh):Option Nh:=match x with
 | .list ds=>(asI y).bind λ k=>if k=-1 then some (.list ds.reverse) else none
 | _=>none
theorem Ik {g:En->Option Nh} {η:En} {k:Int} (h:g η=some (.int k)):pS g η=some (some k):=by
 unfold pS;rw [h]; rfl
theorem E.slRev (he:E X B e f) (hs:E X B st g) (hsub:∀ o i,subscripted (.Slice none none (some st) p2) false o i=operate [o,i] (getItem o i):=by intro _ _; with_unfolding_all rfl):E X B (.Subscript e (.Slice none none (some st) p2) pos) (l2 pRv f g):=by
 intro pins s σ H Q I ⟨F,η,d,sr,hd,q⟩;obtain ⟨x,hx,hd⟩:=ab hd;obtain ⟨y,hy,hd2⟩:=ab hd;unfold pRv at hd2;split at hd2
 ·rename_i ds;obtain ⟨k,hk,hd3⟩:=ab hd2;obtain rfl:=yS hk;split at hd3
  ·rename_i hk1;subst hk1;cases hd3;refine Subscript_ (thn (he pins s σ H (λ v H1=>∃ F1,Gr F H F1 H1/\Rel X.K F1 (.list ds) v) I ⟨F,η,_,sr,hx,λ v F1 H1 g1 r=>⟨F1,g1,r⟩⟩) λ v s1 ⟨x,H1,I1,r1,F1,g1,rx⟩=>?_);refine wpAny_Slice ?_;rw [evalPart_none];refine NR (NR ?_);refine thn ((P.some hs) pins s1 σ H1 (λ o H2=>∃ F2,Gr F1 H1 F2 H2/\o=some (-1)) I1 ⟨F1,η,some (-1),sr.grow g1,Ik hy,λ F2 H2 g2=>⟨F2,g2,rfl⟩⟩) λ vs s2 ⟨o,H2,I2,ps,F2,g2,eo⟩=>?_;subst eo;have I4:Inv X pins σ H2 { s2 with heap:=s2.heap.push { cls:=.type "slice", data:=.fields #[.none,.none,vs] } }:=I2.kept (t':=s2.toks) λ b ob q=>Nv _ q;obtain ⟨a,xs,rfl,hq,rs⟩:=rx.lst;cases r1;obtain ⟨its,r,ht,hz⟩:=I4.list (g2.hh.seq (g1.fh.seq hq));have hlen:=r.length;show N7 (N9 X.prog X.w) X.A (subscriptTail e (.Slice none none (some st) p2) (.ref a) (.ref s2.heap.objs.size)) (EP X pins σ Q) X.xe { s2 with heap:=s2.heap.push { cls:=.type "slice", data:=.fields #[.none,.none,vs] } };refine tail_any (ops:=[.ref a,.ref s2.heap.objs.size]) ht.isList.typeIs slot_list_getitem.lookup ?_ (hsub _ _);refine wpAny_getItem_list_slice ht.isList (Heap.IsSliceOf.new ..) .none .none ps (by decide) ?_ (by rw [ND] <;> omega);rw [PySem.W.krv_pick,show its.toArray.toList.reverse=its.reverse by simp];have g3:∀ l,H2 l=none->Gr F2 H2 (upd F2 l (.lst xs.reverse)) (upd H2 l (.lst xs.reverse)):=λ l hl=>Gr.one g2.fh hl;refine ⟨.ref _,_,I4.laid (t':=s2.toks) (o:=.lst xs.reverse) (λ b ob q=>Nv _ q) (Np _) ?_,rfl,q _ _ _ ((g1.trans g2).trans (g3 _ (I4.hok.fresh (Np _)))) (jO (SqL.of au) (rs.reverse.mono (g2.ff.trans (g3 _ (I4.hok.fresh (Np _))).ff)))⟩;refine ⟨by rw [Ot]; exact hz,its.reverse,0,?_,NX _ rfl⟩;exact r.reverse
  ·cases hd3
 ·cases hd2
end
section
variable {X:Cx} {B:Bd} {pos pp:Pos}
end
noncomputable def JG:Nh->Option Key
 | .int i=>some (.inl i)
 | .str x=>some (.inr x)
 | _=>none
theorem BW (k:Key):JG (kD k)=some k:=by cases k <;> rfl
theorem Gz {a b:Key} (h:kD a=kD b):a=b:=by
 have:=congrArg JG h
 rw [BW,BW] at this;exact Option.some.inj this
section
variable {X:Cx} {B:Bd} {o e e2 a b:Expr} {f g h:En->Option Nh} {pos pos' apos cpos npos:Pos}
theorem Room.one {k:Nat} {A:Oh} (hr:Room k A):A.units+1 < cLine:=by have:=hr.units; omega
end
section
variable {X:Cx}
variable {B:Bd} {a:Expr} {f:En->Option Nh} {pos:Pos}
end
section
variable {K:Ni} {F F':Hp}
theorem B3 {d:Nh} {v:V} (h:kF d=true) (r:Rel K F' d v):Rel K F d v:=by
 cases d with
 | none=>rw [r.non]; exact tf
 | bool b=>rw [r.bl]; exact gp
 | int i=>rw [r.int]; exact cz
 | str x=>rw [r.str]; exact qa
 | list ds=>cases h
 | tuple ds=>cases h
 | dict es=>cases h
theorem zZ:∀ {ds:List Nh} {vs:List V},ds.all kF=true->RelL K F' ds vs->RelL K F ds vs
 | [],vs,_,r=>by rw [r.nil_of]; exact .nil
 | d::ds,vs,h,r=>by
  rw [OR,Ol] at h;obtain ⟨x,xs,rfl,h1,h2⟩:=r.cons_of;exact .cons (B3 h.1 h1) (zZ h.2 h2)
end
theorem Gr.back {F H F1 F' H':Hp} (sm:Same F H) (g:Gr F1 H F' H'):Gr F H F H':=⟨.refl _,g.hh,sm.trans g.hh,λ _ z=>.inl z⟩
section
variable {X:Cx} {B:Bd} {e:Expr} {f:En->Option Nh} {fs:En->Option (List Nh)} {p:En->Option Bool}
end
section
variable {X:Cx} {B:Bd} {e o:Expr} {f g:En->Option Nh} {fs:En->Option (List Nh)} {pos pp rp rpos:Pos}
end
theorem yR {P:NT} {w:World} {H:Hp} {h:Heap} {p:NI} {ob:Obj} {ks:List (Key×V)} {es:Array DictEntry} {ep:Nat} (hd:ob.data=.dict es ep) (ok:HOk P w H h) (e:H p=some (.frz ob (.dK ks))) :
  (p==sysModules)=false/\∃ vs,KV ks vs/\h.DictAt (dk P w) p vs ep:=by
 obtain ⟨h1,z,y,vs,r,o2,es2,ep2,g,c,d,rest⟩:=(show ObjOk P w H h p (.frz ob (.dK ks)) from ok p _ e);rw [h1] at g;cases g;rw [hd] at d;cases d;exact ⟨y,vs,r,ob,es,h1,c,hd,rest⟩
theorem D9 {k:Key} {v:Nq} (h:wC k v=true):RelV (kV k) v:=by
 rcases eT h with ⟨i,t,rfl,rfl⟩ | ⟨x,t,rfl,rfl⟩
 ·exact ⟨t,rfl⟩
 ·exact ⟨t,rfl⟩
section
variable {X:Cx} {B:Bd} {pos npos:Pos} {tg:Expr}
theorem RelD.keys {K:Ni} {F:Hp}:∀ {kvs:List (Key×Nh)} {ks:List (Key×V)},RelD K F (prs kvs) ks->kvs.map (·.1)=ks.map (·.1)
 | [],ks,h=>by rw [h.nil_of]; rfl
 | (k',d)::kvs,ks,h=>by
  obtain ⟨k2,x,r,rfl,e,h3,h4⟩:=RelD.cons_of (d:=kD k') (e:=d) (es:=prs kvs) h
  have:=Gz e
  subst this;rw [Ny,Ny,RelD.keys h4]
end
section
variable {X:Cx} {B:Bd} {e o:Expr} {f g:En->Option Nh} {fs:En->Option (List Nh)} {pos pos' pp rp rpos:Pos}
end
section
variable {X:Cx} {B:Bd}
end
section
variable {X:Cx} {B:Bd} {a b:Expr} {f g:En->Option Nh} {pos:Pos}
theorem E.lt (ha:E X B a f) (hb:E X B b g):E X B (.Compare a [.Lt] [b] pos) (l2 pLt f g):=E.cmp BJ (vN λ _ _ _=>gp) (nomark b) ha hb
end
noncomputable def Itel (K:Ni) (l:NI) (n:Nat):It :=
 ⟨λ i H=>i < n/\∃ xs x,SqL K H l xs/\xs.length=n/\xs[i]?=some x,λ i H v H'=>∃ T x,H T=none/\(∀ xs,SqL K H l xs->xs[i]?=some x)/\v=.ref T/\H'=upd H T (.tup [.int (i:Nat),x]),λ i H=>i=n/\∃ xs,SqL K H l xs/\xs.length=n⟩
theorem CF {P:NT} {w:World} {K:Ni} {elts:List Expr} {k:Nat} {tp:Pos} {e it l:NI} {n:Nat} (hei:e≠it) (hel:e≠l) (hli:l≠it) :
  Turn P w K (.Tuple elts k tp) (Itel K l n) [e,it] e (λ i h=>(∃ old,IsEnum h e it i old)/\h.IsListIter it l i) where
 mem:=by simp
 obj:=λ i h st b hb=>by
  obtain ⟨⟨old,he⟩,hs⟩:=st;rcases NO.mp hb with rfl | hb
  ·exact ⟨_,he,λ v z=>by cases z⟩
  ·rw [NF.mp hb];obtain ⟨o,ho,hcl,hd⟩:=hs;exact ⟨o,ho,λ v z=>by rw [hd] at z; cases z⟩
 keep:=λ i h h' st kk=>by
  obtain ⟨⟨old,he⟩,hs⟩:=st;exact ⟨⟨old,kk e (by simp) _ he⟩,hs.at λ o q=>kk it (by simp) o q⟩
 item:=by
  intro X hP hw hK hc i pins s σ H E I hf st hg;subst hP hw hK;obtain ⟨hin,xs,x,hq,hxl,hx⟩:=hg;obtain ⟨its,rv,pl,hz⟩:=I.list hq;obtain ⟨u,hu,ru⟩:=rv.get hx;have hlen:its.toArray.size=n:=by rw [ND,<- rv.length]; exact hxl
  have W:=WalksT.enumerateD (prog:=X.prog) (w:=X.w) (A:=X.A) (Draws.list (A:=X.A.in1) (I.ok.hd hc) it l hli its.toArray) e hei (by simp; exact ⟨hei,hel⟩) (by simp);refine W.item i s _ _ (by rw [hlen]; exact hin) ⟨st.1,st.2,pl.isList⟩ λ T vals h' tk Pt hT hIs Md kp=>⟨.ref T,rfl,?_⟩;refine W.go elts k tp i T _ _ _ Md λ h'' st'' kp''=>?_;obtain ⟨t,xv,hxv,rfl⟩:=Pt;have exu:xv=u:=by
   have:its.toArray[i]?=some u:=by simpa using hu
   rw [this] at hxv;exact (Option.some.inj hxv).symm
  subst exu;have nT:H T=none:=I.hok.fresh hT;have aT:T∉[e,it]:=λ hb=>by
   have:=W.apart i T _ Md
   refine this ?_;rcases NO.mp hb with z | z
   ·rw [z]; simp
   ·rw [NF.mp z]; simp
  have kall:∀ b o,b∉[e,it]->s.heap.get? b=some o->h''.get? b=some o:=λ b o hb q=>kp'' b o hb (kp b o hb q);have hIs'':IsTup h'' T #[.int i t,xv]:=by
   obtain ⟨o,ho,hcl,n,hd⟩:=hIs;exact ⟨o,kp'' T o aT ho,hcl,n,hd⟩
  have ltT:∀ b o,s.heap.get? b=some o->b≠T:=λ b o q=>NZ (NK (NM q) hT);have nfp:∀ b o,H b=some o->b∉[e,it]:=λ b o q hb=>by rw [(hf b hb).1] at q; cases q
  have J:Inv X pins σ (upd H T (.tup [.int (i:Nat),x])) { s with heap:=h'',toks:=tk }:=by
   refine I.step (h':=h'') (g':=s.gens) (d':=s.drawn) (t':=tk) (ch:=[e,it]) (λ b hb=>⟨(hf b hb).2.2.2.1,(hf b hb).2.1,(hf b hb).2.2.2.2.1,(hf b hb).2.2.2.2.2⟩)
    (λ b o _ _ hb q _=>kall b o hb q) (λ b o _ _ hb q _=>⟨o.slots,kall b o hb q⟩) (λ b o _ q n=>by rw [aq (ltT b o q)]; exact n) (λ b o hb q=>⟨o,kall b o hb q⟩)
    (λ b xs q=>by rw [aq (aF q nT)]; exact q) (λ b o xs q=>by rw [aq (aF q nT)]; exact q) (λ b ps q=>⟨#[],by rw [aq (aF q nT),q]; simp⟩) (λ m hm=>?_) (λ b o q=>?_) I.bare
   ·obtain ⟨o,es,ep,ho,r⟩:=hm;refine ⟨o,es,ep,kall _ o (λ hb=>?_) ho,r⟩;exact (hf _ hb).2.1 rfl
   ·by_cases hb:b=T
    ·subst hb;rw [au] at q;cases q;exact ⟨by show 2<=No; decide,[.int i t,xv],.cons ⟨t,rfl⟩ (.cons ru .nil),hIs''⟩
    ·rw [aq hb] at q;refine (I.hok b o q).stay (λ c' v hc' z=>kall c' v ?_ z) (λ c' z=>by rw [aq (aF z nT)]; exact z) λ c' xs z=>by rw [aq (aF z nT)]; exact z
     rcases hc' with rfl | hc'
     ·exact nfp _ _ q
     ·exact nfp _ _ hc'
  refine ⟨.ref T,upd H T (.tup [.int (i:Nat),x]),J,rfl,⟨T,x,nT,λ ys hy=>by rw [I.list_inj hy hq]; exact hx,rfl,rfl⟩,⟨st''.1,st''.2.1⟩,λ b hb=>?_⟩;have nb:b≠T:=λ z=>aT (by rw [<- z]; exact hb);rw [aq nb]; exact (hf b hb).1
 done:=by
  intro X hP hw hK hc i pins s σ H E I hf st hg;subst hP hw hK;obtain ⟨hin,xs,hq,hxl⟩:=hg;obtain ⟨its,rv,pl,hz⟩:=I.list hq;have hlen:its.toArray.size=n:=by rw [ND,<- rv.length]; exact hxl
  have W:=WalksT.enumerateD (prog:=X.prog) (w:=X.w) (A:=X.A) (Draws.list (A:=X.A.in1) (I.ok.hd hc) it l hli its.toArray) e hei (by simp; exact ⟨hei,hel⟩) (by simp);rw [hin,<- hlen] at st;refine W.done s _ _ ⟨st.1,st.2,pl.isList⟩ λ h' tk kp=>⟨rfl,?_⟩;have nfp:∀ b o,H b=some o->b∉[e,it]:=λ b o q hb=>by rw [(hf b hb).1] at q; cases q
  refine I.step (h':=h') (g':=s.gens) (d':=s.drawn) (t':=tk) (ch:=[e,it]) (λ b hb=>⟨(hf b hb).2.2.2.1,(hf b hb).2.1,(hf b hb).2.2.2.2.1,(hf b hb).2.2.2.2.2⟩)
   (λ b o _ _ hb q _=>kp b o hb q) (λ b o _ _ hb q _=>⟨o.slots,kp b o hb q⟩) (λ _ _ _ _ n=>n) (λ b o hb q=>⟨o,kp b o hb q⟩)
   (λ _ _ q=>q) (λ _ _ _ q=>q) (λ b ps q=>⟨#[],by rw [q]; simp⟩) (λ m hm=>?_) (λ b o q=>?_) I.bare
  ·obtain ⟨o,es,ep,ho,r⟩:=hm;exact ⟨o,es,ep,kp _ o (λ hb=>(hf _ hb).2.1 rfl) ho,r⟩
  ·refine (I.hok b o q).stay (λ c' v hc' z=>kp c' v ?_ z) (λ _ z=>z) λ _ _ z=>z;rcases hc' with rfl | hc'
   ·exact nfp _ _ q
   ·exact nfp _ _ hc'
 self:=λ A i s Q E st h=>by
  obtain ⟨⟨old,he⟩,hs⟩:=st;exact wpAny_pyIter_enum he h
section
variable {X:Cx} {B:Bd} {a:Expr} {fs:En->Option (List Nh)} {pos pp:Pos}
noncomputable def enL (ds:List Nh):Option (List Nh):=match ds with
 | [.list xs]=>some (mM xs 0)
 | _=>none
theorem EX {K:Ni} {F:Hp} {l:NI} {ds:List Nh} {xs:List V} (hq:SqL K F l xs) (rs:RelL K F ds xs):ItP K (Itel K l ds.length) F (mM ds 0):=λ F1 H1 i s1 s2=>by
 have hq1:SqL K H1 l xs:=s2.seq (s1.seq hq);refine ⟨λ d e=>?_,λ e=>⟨by rw [e,tq],xs,hq1,rs.length⟩⟩;have hi:i < ds.length:=by
  have:=(Nr.mp e).1
  rwa [tq] at this
 obtain ⟨cd,h1,h2⟩:=wj _ _ _ _ e;obtain ⟨x,hx,rx⟩:=rs.get h1;refine ⟨⟨hi,xs,x,hq1,rs.length,hx⟩,λ v H2 y=>?_⟩;obtain ⟨T,x',hT,hxx,rfl,rfl⟩:=y
 have:=(hxx xs hq1).symm.trans hx
 cases this;rw [Nat.zero_add] at h2;subst h2;have g:=Gr.one (o:=.tup [.int (i:Nat),x]) s2 hT;exact ⟨_,g,jc (SqT.of au) (.cons cz (.cons (rx.mono (s1.trans g.ff)) .nil))⟩
theorem I.enumL {elts:List Expr} {k:Nat} {tp:Pos} (hc:X.calm=true) (hm:X.mg "enumerate" = none) (ha:A X B [a] fs) (hg:Gl X "enumerate" := by rfl) (hs:Nw [a] X.env=[(false,eval a X.env)]:=by exact aQ rfl) :
  I X B (.Tuple elts k tp) (.Call (.Name "enumerate" pp) [a] [] pos) (λ η=>(fs η).bind enL):=by
 intro pins s σ H R I ⟨F,η,ds,sr,hd,q⟩;obtain ⟨es,h1,hd⟩:=ab hd;unfold enL at hd;split at hd
 ·rename_i x;cases hd;refine Call_ (uK I hg hm boot_enumerate (PyProof.Rows.callWith_type1 (thn (ha pos pins s σ H (λ vs H1=>∃ F',Gr F H F' H1/\RelL X.K F' [.list x] vs) I ⟨F,η,_,sr,h1,λ vs F' H' g r=>⟨F',g,r⟩⟩) λ us s1 ⟨vs,H1,I1,r1,F1,g1,rl⟩=>?_) hs rfl));obtain ⟨y,r,rfl,ry,rr⟩:=rl.cons_of;obtain rfl:=rr.nil_of;obtain ⟨u,rfl,ru⟩:=qv r1;obtain ⟨p,xs,rfl,hq,rs⟩:=ry.lst;cases ru;obtain ⟨its,rv,pl,hz⟩:=I1.list (g1.fh.seq hq);have hpl:p < s1.heap.objs.size:=by
   obtain ⟨o,ho,_⟩:=pl.isList;exact NM ho
  refine call_enumerate_list pl.isList λ h' he hit hsz hk=>?_;refine wpAny_pyIter_enum he ?_;have I2:Inv X pins σ H1 { s1 with heap:=h' }:=I1.kept (t':=s1.toks) hk;have nw:∀ b,s1.heap.objs.size<=b->sU X pins H1 b:=λ b hb=>I1.fpOk hb (I1.hok.fresh hb);have fpo:∀ b∈[s1.heap.objs.size+1,s1.heap.objs.size],sU X pins H1 b:=λ b hb=>by
   rcases NO.mp hb with rfl | hb
   ·exact nw _ (Nat.le_succ _)
   ·rw [NF.mp hb]; exact nw _ (Np _)
  exact ⟨_,_,_,_,H1,rfl,I2,CF (e:=s1.heap.objs.size+1) (it:=s1.heap.objs.size) (l:=p) (n:=x.length) (Nat.succ_ne_self _) (Pp (Nat.lt_succ_of_lt hpl)) (NZ hpl),⟨⟨_,he⟩,hit⟩,fpo,q _ F1 H1 g1 (EX hq rs)⟩
 ·cases hd
end
section
variable {prog:NT} {w:World} {A:Oh} {E:Nq->Nu->Prop} {s:Nu} {T:String} {r d:NI} {n:Nat} {P:Nat->Nq->Prop} {OK:Heap->Prop}
theorem Cg {Q:List Nq->Nu->Prop} (K:PySem.W.KdlSrc prog w T r d n P OK) (hh:A.handled=none) (hok:OK s.heap) (hn:n<=No)
  (hQ:∀ h' tk (acc':Array Nq),(∀ b o,s.heap.get? b=some o->h'.get? b=some o)->s.heap.objs.size < h'.objs.size->ItemsOf P acc' n->Q acc'.toList { s with heap:=h',toks:=tk }) :
  N7 (N9 prog w) A (collect (.ref r)) Q E s:=by
 unfold collect;refine NH (wpAny_runValue (codeAny_builtin entry_proto_collect' ?_));show N7 _ _ (do again (.builtin "list.__iadd__" ⟨[<- newList [],.ref r],[]⟩)) _ _ s;refine NH (wpAny_newList (NR ⟨Code.quiet_builtin _ (by decide +kernel),codeAny_builtin entry_list_iadd' ?_⟩));show N7 _ _ (Builtin.List.listExtendWith (.ref s.heap.objs.size) (.ref r) (.ref s.heap.objs.size)) _ _ { s with heap:=s.heap.push (seqObj "list" #[] 0) };have hlt:=K.there _ hok;rw [Around.under_plainId (by decide +kernel)];have fin:∀ h' tk (acc':Array Nq) c',(∀ b o,s.heap.get? b=some o->h'.get? b=some o)->h'.get? s.heap.objs.size=some { cls:=.type "list", dict:=none,data:=.seq acc' c',slots:=#[] }->ItemsOf P acc' n ->
   N7 (N9 prog w) A (do
   let o <- load s.heap.objs.size
   match o.data with
   | .seq xs _=>pure xs.toList
   | _=>unsupported "internal:collect") Q E { s with heap:=h',toks:=tk }:=λ h' tk acc' c' hk hS' hacc=>NH (wpAny_load hS' (NR (hQ h' tk acc' hk (NM hS') hacc)))
 refine wpAny_mono (PySem.W.kdl_extend (s:={ s with heap:=s.heap.push (seqObj "list" #[] 0) }) (R:=λ r s'=>∃ h' tk acc' c',r=.ok (.ret (.ref s.heap.objs.size))/\s'={ s with heap:=h',toks:=tk }/\(∀ b o,s.heap.get? b=some o->h'.get? b=some o) /\
   h'.get? s.heap.objs.size=some { cls:=.type "list", dict:=none,data:=.seq acc' c',slots:=#[] }/\ItemsOf P acc' n) K hh (K.keep _ _ hok λ b _ o e=>Nv _ e) s.heap.objs.size (Pp hlt.1) (Pp hlt.2) (.ref s.heap.objs.size) 0 (NX _ rfl)
   (λ h' tk acc' c' hk hS' hacc=>⟨h',tk,acc',c',rfl,rfl,λ b o e=>hk b o (NZ (NM e)) (Nv _ e),hS',hacc⟩) hn) (λ f s' hf=>?_) λ e s' he=>?_
 ·cases f with
  | done f =>
   obtain ⟨h',tk,acc',c',e1,e2,e3,e4,e5⟩:=hf;cases e1;subst e2;exact fin h' tk acc' c' e3 e4 e5
  | again c =>
   refine ⟨hf.1,codeAny_mono hf.2 λ r s' hr=>?_⟩;obtain ⟨h',tk,acc',c',e1,e2,e3,e4,e5⟩:=hr;subst e1 e2;exact fin h' tk acc' c' e3 e4 e5
 ·obtain ⟨h',tk,acc',c',e1,_⟩:=he;cases e1
end
section
variable {prog:NT} {w:World} {A:Oh} {E:Nq->Nu->Prop} {s:Nu} {T:String} {r d:NI} {n:Nat} {P:Nat->Nq->Prop} {OK:Heap->Prop}
theorem Bu {Q:Nq->Nu->Prop} {ns:List Int} (K:PySem.W.KdlSrc prog w T r d n P OK) (hh:A.handled=none) (hok:OK s.heap) (h64:n < 64)
  (hP:∀ acc:Array Nq,ItemsOf P acc n->IntsAre acc.toList ns)
  (h:∀ (h':Heap) (p:NI) (tk c:Nat) (out:Array Nq) (ns':List Int),IntsAre out.toList ns'->ns'.Perm ns->ns'.Pairwise (·<=·)->(∀ b o,s.heap.get? b=some o->h'.get? b=some o)->s.heap.objs.size<=p->h'.get? p=some (seqObj "list" out c)->Q (.ref p) { s with heap:=h',toks:=tk }) :
  N7 (N9 prog w) A (call (.builtin "sorted") [.ref r]) Q E s:=by
 refine Calls.call_function_entry kind_sorted plain_sorted entry_sorted (args_sorted1 _) ?_;unfold Builtin.«sorted»;refine NH (m:=checkCount "sorted" 1 1 _) (NR ?_);refine NH (Cg K hh hok (by rw [sizeLine_eq]; omega) λ h' tk acc' kp hsz hit=>?_);have hl:acc'.toList.length < 64:=by rw [Array.length_toList,hit.1]; exact h64
 refine NH (wpAny_newList ?_ (hsz:=by rw [sizeLine_eq]; omega));have hoL:(h'.push (seqObj "list" acc'.toList.toArray 0)).get? h'.objs.size=some (seqObj "list" acc'.toList.toArray 0):=NX _ rfl;show N7 _ _ _ _ _ { s with heap:=h'.push (seqObj "list" acc'.toList.toArray 0),toks:=tk };refine NH (wpAny_holding (wpAny_call_entry slot_list_sort ⟨_,hoL,rfl⟩ entry_list_sort (list_sort_tree hoL (hP acc' hit) hl λ out ns' a1 a2 a3=>⟨_,rfl,?_⟩) (args_list_sort _)));obtain ⟨c,hc⟩:=sortedHeap_at (out:=out) hoL;refine NR ⟨_,rfl,h _ _ tk c out ns' a1 a2 a3 (λ b o e=>?_) ?_ hc⟩
 ·have h1:=kp b o e;have lt:=NM h1;show (sortedHeap (h'.push (seqObj "list" acc'.toList.toArray 0)) h'.objs.size acc'.toList out).get? b=some o;rw [sortedHeap_old (NZ lt) (by rw [size_push']; exact Nat.lt_succ_of_lt lt)];exact Nv _ h1
 ·exact Po hsz
end
section
variable {X:Cx} {B:Bd} {e:Expr} {f g:En->Option Nh} {fs:En->Option (List Nh)} {pos pp:Pos}
noncomputable def HS:List V->Hp->VK->Prop:=λ xs H Q=>∃ (p:NI) (ks:List (Key×V)) (ns:List Int),xs=[.ref p]/\Rd H p (.dK ks)/\ks.map (·.1)=ns.map Sum.inl/\ns.length < 64/\∀ l,H l=none->Q (.ref l) (upd H l (.lst ((Ey ns).map V.int)))
theorem zT {P:NT} {w:World}:∀ (ns:List Int) (vs:List (Key×Nq)) (l:List Nq),vs.map (·.1)=ns.map Sum.inl->l.length=vs.length->(∀ (j:Nat) v,l[j]?=some v->∃ k x,vs[j]?=some (k,x)/\(dk P w).is k v=true)->IntsAre l ns
 | [],vs,l,h1,h2,_=>by
  have:vs=[]:=by simpa using h1
  subst this
  have:l=[]:=O6 h2
  subst this;exact .nil
 | n::ns,vs,l,h1,h2,h3=>by
  cases vs with
  | nil=>simp at h1
  | cons b bs =>
   cases l with
   | nil=>simp at h2
   | cons v l =>
    obtain ⟨k,x,e1,e2⟩:=h3 0 v rfl;have eb:b=(k,x):=by simpa using e1
    rw [Ny,Ny] at h1;injection h1 with h4 h5
    have hk:k=Sum.inl n:=by rw [eb] at h4; exact h4
    subst hk;obtain ⟨t,rfl⟩:=(show ∃ t,v=Value.int n t from D9 (k:=Sum.inl n) (show wC (Sum.inl n) v=true from e2));refine .cons n t (zT (P:=P) (w:=w) ns bs l h5 (by simpa using h2) λ j v' hv=>?_);obtain ⟨k',x',f1,f2⟩:=h3 (j+1) v' (by simpa using hv);exact ⟨k',x',by simpa using f1,f2⟩
theorem Cn (hh:X.A.handled=none):CallR X (.builtin "sorted") HS:=by
 intro pins s σ H xs us Q I r h;obtain ⟨p,ks,ns,rfl,hp,hk,h64,q⟩:=h;obtain ⟨u,rfl,ru⟩:=qv r;cases ru;obtain ⟨z,hd,vs,rel,o,es,ep,g,c⟩:=yH I.hok hp;have hl:ks.length=vs.length:=rel.length;have da:s.heap.DictAt (dk X.prog X.w) p vs ep:=⟨o,es,g,c.1,c.2.1,c.2.2⟩;have hkv:vs.map (·.1)=ns.map Sum.inl:=by rw [<- rel.keys]; exact hk
 have hln:vs.length=ns.length:=by have:=congrArg List.length hkv; simpa using this
 refine Bu (ns:=ns) (PySem.W.kdl_dict hd) hh da (by rw [hln]; exact h64) (λ acc hit=>zT ns vs acc.toList hkv (by rw [Array.length_toList]; exact hit.1) λ k v hv=>hit.2 k v (by simpa using hv)) λ h' l tk c out ns' hS hpm hs kp hle hat=>?_;have e:=zF hpm hs;subst e;have hv:=vV hS;refine ⟨.ref l,_,I.laid (t':=tk) (o:=.lst ((Ey ns).map V.int)) kp hle ?_,rfl,q _ (I.hok.fresh hle)⟩;refine ⟨?_,out.toList,c,hv,by simpa using hat⟩;rw [Nl,hpm.length_eq,<- hln,<- hl];exact z
end
noncomputable def Itz (K:Ni) (l1 l2:NI) (n:Nat):It :=
 ⟨λ i H=>i < n/\∃ xs ys x y,SqL K H l1 xs/\SqL K H l2 ys/\min xs.length ys.length=n/\xs[i]?=some x/\ys[i]?=some y,λ i H v H'=>∃ T x y,H T=none/\(∀ xs,SqL K H l1 xs->xs[i]?=some x)/\(∀ ys,SqL K H l2 ys->ys[i]?=some y)/\v=.ref T/\H'=upd H T (.tup [x,y]),λ i H=>i=n/\∃ xs ys,SqL K H l1 xs/\SqL K H l2 ys/\min xs.length ys.length=n⟩
theorem Fo {P:NT} {w:World} {K:Ni} {elts:List Expr} {k:Nat} {tp:Pos} {z TI TO i1 i2 l1 l2:NI} {n:Nat} (D:ZipApart z TI TO i1 i2 l1 l2) :
  Turn P w K (.Tuple elts k tp) (Itz K l1 l2 n) [z,TI,TO,i1,i2] z (λ i h=>IsZip h z TI TO .none/\IsPair h TI (.ref i1) (.ref i2)/\(∃ a b,IsPair h TO a b)/\h.IsListIter i1 l1 i/\h.IsListIter i2 l2 i) where
 mem:=by simp
 obj:=λ i h st b hb=>by
  obtain ⟨hz,h1,⟨a,c,h2⟩,h3,h4⟩:=st;simp only [NO,ON,or_false] at hb;rcases hb with rfl | rfl | rfl | rfl | rfl
  ·exact ⟨_,hz,λ v z=>by cases z⟩
  ·exact ⟨_,h1,λ v z=>by cases z⟩
  ·exact ⟨_,h2,λ v z=>by cases z⟩
  ·obtain ⟨o,ho,hcl,hd⟩:=h3;exact ⟨o,ho,λ v z=>by rw [hd] at z; cases z⟩
  ·obtain ⟨o,ho,hcl,hd⟩:=h4;exact ⟨o,ho,λ v z=>by rw [hd] at z; cases z⟩
 keep:=λ i h h' st kk=>by
  obtain ⟨hz,h1,⟨a,c,h2⟩,h3,h4⟩:=st;exact ⟨kk z (by simp) _ hz,kk TI (by simp) _ h1,⟨a,c,kk TO (by simp) _ h2⟩,h3.at λ o q=>kk i1 (by simp) o q,h4.at λ o q=>kk i2 (by simp) o q⟩
 item:=by
  intro X hP hw hK hc i pins s σ H E I hf st hg;subst hP hw hK;obtain ⟨hin,xs,ys,x,y,hq1,hq2,hxl,hx,hy⟩:=hg;obtain ⟨its1,rv1,pl1,hz1⟩:=I.list hq1;obtain ⟨its2,rv2,pl2,hz2⟩:=I.list hq2;obtain ⟨u1,hu1,ru1⟩:=rv1.get hx;obtain ⟨u2,hu2,ru2⟩:=rv2.get hy;have hlen:min its1.toArray.size its2.toArray.size=n:=by rw [ND,ND,<- rv1.length,<- rv2.length]; exact hxl
  have W:=WalksT.zip2 (prog:=X.prog) (w:=X.w) (A:=X.A) (I.ok.hd hc) z TI TO i1 i2 l1 l2 D its1.toArray its2.toArray;obtain ⟨s1,s2,s3,s4,s5⟩:=st;refine W.item i s _ _ (by rw [hlen]; exact hin) ⟨s1,s2,s3,s4,s5,pl1.isList,pl2.isList⟩ λ T vals h' tk Pt hT hIs Md kp=>⟨.ref T,rfl,?_⟩;refine W.go elts k tp i T _ _ _ Md λ h'' st'' kp''=>?_;obtain ⟨xv,yv,hxv,hyv,rfl⟩:=Pt;have exu:xv=u1:=by
   have:its1.toArray[i]?=some u1:=by simpa using hu1
   rw [this] at hxv;exact (Option.some.inj hxv).symm
  have eyu:yv=u2:=by
   have:its2.toArray[i]?=some u2:=by simpa using hu2
   rw [this] at hyv;exact (Option.some.inj hyv).symm
  subst exu eyu;have nT:H T=none:=I.hok.fresh hT;have aT0:T∉[z,TO,i1,i2]:=W.apart i T _ Md;have ltT:∀ b o,s.heap.get? b=some o->b≠T:=λ b o q=>NZ (NK (NM q) hT);have aT:T∉[z,TI,TO,i1,i2]:=λ hb=>by
   simp only [NO,ON,or_false,not_or] at hb aT0;rcases hb with e | e | e | e | e
   ·exact aT0.1 e
   ·exact ltT TI _ s2 e.symm
   ·exact aT0.2.1 e
   ·exact aT0.2.2.1 e
   ·exact aT0.2.2.2 e
  have wr:∀ b,b∉[z,TI,TO,i1,i2]->b∉[z,TO,i1,i2]:=λ b hb hm=>hb (by simp only [NO,ON,or_false] at hm ⊢; rcases hm with e | e | e | e <;> simp [e]);have kall:∀ b o,b∉[z,TI,TO,i1,i2]->s.heap.get? b=some o->h''.get? b=some o:=λ b o hb q=>kp'' b o (wr b hb) (kp b o (wr b hb) q);have hIs'':IsTup h'' T #[xv,yv]:=by
   obtain ⟨o,ho,hcl,n,hd⟩:=hIs;exact ⟨o,kp'' T o aT0 ho,hcl,n,hd⟩
  have nfp:∀ b o,H b=some o->b∉[z,TI,TO,i1,i2]:=λ b o q hb=>by rw [(hf b hb).1] at q; cases q
  have J:Inv X pins σ (upd H T (.tup [x,y])) { s with heap:=h'',toks:=tk }:=by
   refine I.step (h':=h'') (g':=s.gens) (d':=s.drawn) (t':=tk) (ch:=[z,TI,TO,i1,i2]) (λ b hb=>⟨(hf b hb).2.2.2.1,(hf b hb).2.1,(hf b hb).2.2.2.2.1,(hf b hb).2.2.2.2.2⟩)
    (λ b o _ _ hb q _=>kall b o hb q) (λ b o _ _ hb q _=>⟨o.slots,kall b o hb q⟩) (λ b o _ q n=>by rw [aq (ltT b o q)]; exact n) (λ b o hb q=>⟨o,kall b o hb q⟩)
    (λ b xs q=>by rw [aq (aF q nT)]; exact q) (λ b o xs q=>by rw [aq (aF q nT)]; exact q) (λ b ps q=>⟨#[],by rw [aq (aF q nT),q]; simp⟩) (λ m hm=>?_) (λ b o q=>?_) I.bare
   ·obtain ⟨o,es,ep,ho,r⟩:=hm;refine ⟨o,es,ep,kall _ o (λ hb=>?_) ho,r⟩;exact (hf _ hb).2.1 rfl
   ·by_cases hb:b=T
    ·subst hb;rw [au] at q;cases q;exact ⟨by show 2<=No; decide,[xv,yv],.cons ru1 (.cons ru2 .nil),hIs''⟩
    ·rw [aq hb] at q;refine (I.hok b o q).stay (λ c' v hc' z=>kall c' v ?_ z) (λ c' z=>by rw [aq (aF z nT)]; exact z) λ c' xs z=>by rw [aq (aF z nT)]; exact z
     rcases hc' with rfl | hc'
     ·exact nfp _ _ q
     ·exact nfp _ _ hc'
  refine ⟨.ref T,upd H T (.tup [x,y]),J,rfl,⟨T,x,y,nT,λ zs hz=>by rw [I.list_inj hz hq1]; exact hx,λ zs hz=>by rw [I.list_inj hz hq2]; exact hy,rfl,rfl⟩,⟨st''.1,st''.2.1,st''.2.2.1,st''.2.2.2.1,st''.2.2.2.2.1⟩,λ b hb=>?_⟩;have nb:b≠T:=λ z=>aT (by rw [<- z]; exact hb);rw [aq nb]; exact (hf b hb).1
 done:=by
  intro X hP hw hK hc i pins s σ H E I hf st hg;subst hP hw hK;obtain ⟨hin,xs,ys,hq1,hq2,hxl⟩:=hg;obtain ⟨its1,rv1,pl1,hz1⟩:=I.list hq1;obtain ⟨its2,rv2,pl2,hz2⟩:=I.list hq2;have hlen:min its1.toArray.size its2.toArray.size=n:=by rw [ND,ND,<- rv1.length,<- rv2.length]; exact hxl
  have W:=WalksT.zip2 (prog:=X.prog) (w:=X.w) (A:=X.A) (I.ok.hd hc) z TI TO i1 i2 l1 l2 D its1.toArray its2.toArray;rw [hin,<- hlen] at st;obtain ⟨s1,s2,s3,s4,s5⟩:=st;have wr:∀ b,b∉[z,TI,TO,i1,i2]->b∉[z,TO,i1,i2]:=λ b hb hm=>hb (by simp only [NO,ON,or_false] at hm ⊢; rcases hm with e | e | e | e <;> simp [e]);refine W.done s _ _ ⟨s1,s2,s3,s4,s5,pl1.isList,pl2.isList⟩ λ h' tk kp=>⟨rfl,?_⟩;have nfp:∀ b o,H b=some o->b∉[z,TI,TO,i1,i2]:=λ b o q hb=>by rw [(hf b hb).1] at q; cases q
  refine I.step (h':=h') (g':=s.gens) (d':=s.drawn) (t':=tk) (ch:=[z,TI,TO,i1,i2]) (λ b hb=>⟨(hf b hb).2.2.2.1,(hf b hb).2.1,(hf b hb).2.2.2.2.1,(hf b hb).2.2.2.2.2⟩)
   (λ b o _ _ hb q _=>kp b o (wr b hb) q) (λ b o _ _ hb q _=>⟨o.slots,kp b o (wr b hb) q⟩) (λ _ _ _ _ n=>n) (λ b o hb q=>⟨o,kp b o (wr b hb) q⟩)
   (λ _ _ q=>q) (λ _ _ _ q=>q) (λ b ps q=>⟨#[],by rw [q]; simp⟩) (λ m hm=>?_) (λ b o q=>?_) I.bare
  ·obtain ⟨o,es,ep,ho,r⟩:=hm;exact ⟨o,es,ep,kp _ o (wr _ λ hb=>(hf _ hb).2.1 rfl) ho,r⟩
  ·refine (I.hok b o q).stay (λ c' v hc' z=>kp c' v (wr _ ?_) z) (λ _ z=>z) λ _ _ z=>z;rcases hc' with rfl | hc'
   ·exact nfp _ _ q
   ·exact nfp _ _ hc'
 self:=λ A i s Q E st h=>wpAny_pyIter_zip st.1 h
section
variable {X:Cx} {B:Bd} {a b:Expr} {fs:En->Option (List Nh)} {pos pp:Pos}
noncomputable def zpD:List Nh->List Nh->List Nh
 | x::xs,y::ys=>.tuple [x,y]::zpD xs ys
 | _,_=>[]
noncomputable def zpL (ds:List Nh):Option (List Nh):=match ds with
 | [.list xs,.list ys]=>some (zpD xs ys)
 | _=>none
theorem Ae:∀ xs ys:List Nh,(zpD xs ys).length=min xs.length ys.length
 | [],ys=>by simp [zpD]
 | x::xs,[]=>by simp [zpD]
 | x::xs,y::ys=>by rw [zpD,NN,Ae xs ys,NN,NN]; omega
theorem Dt:∀ (xs ys:List Nh) (i:Nat) (d:Nh),(zpD xs ys)[i]?=some d->∃ x y,xs[i]?=some x/\ys[i]?=some y/\d=.tuple [x,y]
 | [],ys,i,d,h=>by simp [zpD] at h
 | x::xs,[],i,d,h=>by simp [zpD] at h
 | x::xs,y::ys,0,d,h=>by simp [zpD] at h; exact ⟨x,y,rfl,rfl,h.symm⟩
 | x::xs,y::ys,i+1,d,h=>by
  rw [zpD,List.getElem?_cons_succ] at h;obtain ⟨a,b,h1,h2,h3⟩:=Dt xs ys i d h;exact ⟨a,b,by simpa using h1,by simpa using h2,h3⟩
theorem II {K:Ni} {F:Hp} {l1 l2:NI} {ds es:List Nh} {xs ys:List V} (hq1:SqL K F l1 xs) (hq2:SqL K F l2 ys) (r1:RelL K F ds xs) (r2:RelL K F es ys):ItP K (Itz K l1 l2 (min ds.length es.length)) F (zpD ds es):=λ F1 H1 i s1 s2=>by
 have q1:SqL K H1 l1 xs:=s2.seq (s1.seq hq1);have q2:SqL K H1 l2 ys:=s2.seq (s1.seq hq2);have hl:min xs.length ys.length=min ds.length es.length:=by rw [r1.length,r2.length]
 refine ⟨λ d e=>?_,λ e=>⟨by rw [e,Ae],xs,ys,q1,q2,hl⟩⟩;have hi:i < min ds.length es.length:=by
  have:=(Nr.mp e).1
  rwa [Ae] at this
 obtain ⟨x,y,h1,h2,h3⟩:=Dt _ _ _ _ e;obtain ⟨vx,hx,rx⟩:=r1.get h1;obtain ⟨vy,hy,ry⟩:=r2.get h2;refine ⟨⟨hi,xs,ys,vx,vy,q1,q2,hl,hx,hy⟩,λ v H2 z=>?_⟩;obtain ⟨T,x',y',hT,hxx,hyy,rfl,rfl⟩:=z;have e1:=(hxx xs q1).symm.trans hx;have e2:=(hyy ys q2).symm.trans hy;cases e1;cases e2;subst h3;have g:=Gr.one (o:=.tup [vx,vy]) s2 hT;exact ⟨_,g,jc (SqT.of au) (.cons (rx.mono (s1.trans g.ff)) (.cons (ry.mono (s1.trans g.ff)) .nil))⟩
end
section
variable {X:Cx} {B:Bd} {a b:Expr} {fs:En->Option (List Nh)} {pos pp:Pos}
theorem I.zip {elts:List Expr} {k:Nat} {tp:Pos} (hm:X.mg "zip" = none) (ha:A X B [a,b] fs) (hg:Gl X "zip" := by rfl) (hs:Nw [a,b] X.env=(false,eval a X.env)::Nw [b] X.env:=by exact aQ rfl) (hpl:(backTo pos (Nw [b] X.env)).any (·.1)=false:=by exact iK rfl) :
  I X B (.Tuple elts k tp) (.Call (.Name "zip" pp) [a,b] [] pos) (λ η=>(fs η).bind zpL):=by
 intro pins s σ H R I ⟨F,η,ds,sr,hd,q⟩;obtain ⟨es,h1,hd⟩:=ab hd;unfold zpL at hd;split at hd
 ·rename_i x y;cases hd;refine Call_ (uK I hg hm boot_zip (PyProof.Rows.callWith_type1 (thn (ha pos pins s σ H (λ vs H1=>∃ F',Gr F H F' H1/\RelL X.K F' [.list x,.list y] vs) I ⟨F,η,_,sr,h1,λ vs F' H' g r=>⟨F',g,r⟩⟩) λ us s1 ⟨vs,H1,I1,r1,F1,g1,rl⟩=>?_) hs hpl));obtain ⟨v1,r,rfl,ry1,rr⟩:=rl.cons_of;obtain ⟨v2,r',rfl,ry2,rr⟩:=rr.cons_of;obtain rfl:=rr.nil_of;obtain ⟨p1,xs,rfl,hq1,rs1⟩:=ry1.lst;obtain ⟨p2,ys,rfl,hq2,rs2⟩:=ry2.lst;obtain ⟨u1,u2,rfl,ru1,ru2⟩:=Fi r1;cases ru1;cases ru2;obtain ⟨its1,rv1,pl1,hz1⟩:=I1.list (g1.fh.seq hq1);obtain ⟨its2,rv2,pl2,hz2⟩:=I1.list (g1.fh.seq hq2);have hpl1:p1 < s1.heap.objs.size:=by
   obtain ⟨o,ho,_⟩:=pl1.isList;exact NM ho
  have hpl2:p2 < s1.heap.objs.size:=by
   obtain ⟨o,ho,_⟩:=pl2.isList;exact NM ho
  refine call_zip_2 pl1.isList pl2.isList λ h' hz hTI hTO hi1 hi2 hsz hk=>?_;refine wpAny_pyIter_zip hz ?_;have I2:Inv X pins σ H1 { s1 with heap:=h' }:=I1.kept (t':=s1.toks) hk;have nw:∀ b,s1.heap.objs.size<=b->sU X pins H1 b:=λ b hb=>I1.fpOk hb (I1.hok.fresh hb);have fpo:∀ b∈[s1.heap.objs.size+4,s1.heap.objs.size+2,s1.heap.objs.size+3,s1.heap.objs.size,s1.heap.objs.size+1],sU X pins H1 b:=λ b hb=>nw b (by
   simp only [NO,ON,or_false] at hb;rcases hb with rfl | rfl | rfl | rfl | rfl <;> omega)
  exact ⟨_,_,_,_,H1,rfl,I2,Fo (n:=min x.length y.length) (zipApart_new hpl1 hpl2),⟨hz,hTI,⟨_,_,hTO⟩,hi1,hi2⟩,fpo,q _ F1 H1 g1 (II hq1 hq2 rs1 rs2)⟩
 ·cases hd
end
section
variable {X:Cx} {B:Bd} {e:Expr} {fs:En->Option (List Nh)} {pos pp:Pos}
noncomputable def FD (K:Ni):List V->Hp->VK->Prop:=λ xs H Q=>∃ (p:NI) (ys:List V),xs=[.ref p]/\SqL K H p ys/\∀ l,H l=none->Q (.ref l) (upd H l (.lst ys))
theorem Di:CallR X (.type "list") (FD X.K):=by
 intro pins s σ H xs us Q I r h;obtain ⟨p,ys,rfl,hp,q⟩:=h;obtain ⟨u,rfl,ru⟩:=qv r;cases ru;obtain ⟨its,rv,pl,hz⟩:=I.list hp;obtain ⟨o,ho,hc,n,hd⟩:=pl.isList;have hz':ys.length<=No:=by first | exact hz | (rw [rv.length]; exact hz)
 refine call_list_seq (hsz:=by rw [ND,<- rv.length]; exact hz') p (.inl rfl) ho hc hd λ h' c' hk hD=>?_;exact ⟨.ref s.heap.objs.size,_,I.laid (t':=s.toks) hk (Np _) (o:=.lst ys) ⟨hz',its,c',rv,hD⟩,rfl,q _ (I.hok.fresh (Np _))⟩
noncomputable def Au (ds:List Nh):Option Nh:=match ds with
 | [.list xs]=>some (.list xs)
 | _=>none
theorem G3 {K:Ni}:AdA K (FD K) Au:=λ F H xs ds d Q sm rs e q=>by
 unfold Au at e;split at e
 ·rename_i es;cases e;obtain ⟨x,r,rfl,rx,rr⟩:=rs.cons_of;obtain rfl:=rr.nil_of;obtain ⟨a,ys,rfl,hq,r1⟩:=rx.lst;refine ⟨a,ys,rfl,sm.seq hq,λ p hp=>?_⟩;have g:=Gr.one (o:=.lst ys) sm hp;exact q _ _ _ g (jO (SqL.of au) (r1.mono g.ff))
 ·cases e
theorem E.listL (hm:X.mg "list" = none) (ha:A X B [e] fs) (hg:Gl X "list" := by rfl) (he:Nw [e] X.env=(false,eval e X.env)::Nw [] X.env:=by exact aQ rfl) (hpl:(backTo pos (Nw [] X.env)).any (·.1)=false:=by rfl):E X B (.Call (.Name "list" pp) [e] [] pos) (lA Au fs) :=
 E.callTy Di G3 hm (by decide +kernel) ha hg (by decide) (by decide) he hpl
noncomputable def sBk:En->Option Out:=λ η=>some (.bk η)
theorem S.brk:S X B (.Break pos) sBk:=PS.imp FL λ D σ H ⟨F,η,o,sr,hd,q⟩=>by
 cases hd;exact q σ F H sr (.refl _)
end
inductive D where
 | d (x:Nh)
 | r (n:Nat)
inductive Cell where
 | obj (k:Nat) (fs:List (Str×D))
 | lst (ds:List D)
 | dct (kvs:List (Key×D))
 | fz (x:Nh)
noncomputable abbrev Sto:=List Cell
noncomputable abbrev MEn:=List (Option D)
noncomputable def DR (K:Ni) (θ:List NI) (F:Hp):D->V->Prop
 | .d x,v=>Rel K F x v
 | .r n,v=>∃ a,θ[n]?=some a/\v=.ref a
noncomputable abbrev DRs (K:Ni) (θ:List NI) (F:Hp):List D->List V->Prop:=Paired (DR K θ F)
noncomputable abbrev DRf (K:Ni) (θ:List NI) (F:Hp):List (Str×D)->List (Str×V)->Prop:=Paired λ p q=>p.1=q.1/\DR K θ F p.2 q.2
noncomputable abbrev DRk (K:Ni) (θ:List NI) (F:Hp):List (Key×D)->List (Key×V)->Prop:=Paired λ p q=>p.1=q.1/\DR K θ F p.2 q.2
noncomputable def CelR (K:Ni) (cl:Nat->NI) (θ:List NI) (F H:Hp) (a:NI):Cell->Prop
 | .obj k fs=>F a=none/\Cls K (cl k)/\(∀ f∈fs.map (·.1),NoAttr K (cl k) f)/\∃ dx xs,H a=some (.ins (cl k) dx xs)/\DRf K θ F fs xs
 | .lst ds=>F a=none/\∃ xs,H a=some (.lst xs)/\DRs K θ F ds xs
 | .dct kvs=>F a=none/\∃ ks,H a=some (.dK ks)/\DRk K θ F kvs ks
 | .fz x=>Rel K F x (.ref a)/\∃ o,H a=some o
structure MR (K:Ni) (cl:Nat->NI) (θ:List NI) (F H:Hp) (s:Sto):Prop where
 sm:Same F H
 len:θ.length=s.length
 nd:θ.Nodup
 cel:∀ (n:Nat) a c,θ[n]?=some a->s[n]?=some c->CelR K cl θ F H a c
structure MV (K:Ni) (θ:List NI) (F:Hp) (σ:St) (η:MEn):Prop where
 len:η.length=σ.length
 val:∀ (i:Nat) d,η[i]?=some (some d)->∃ v,σ[i]?=some (some v)/\DR K θ F d v
section
variable {K:Ni} {cl:Nat->NI} {θ θ':List NI} {F F' H H':Hp} {s:Sto} {σ:St} {η:MEn}
theorem kO {α:Type} {l l':List α} (h:l<+:l') {n:Nat} {a:α} (e:l[n]?=some a):l'[n]?=some a:=by
 obtain ⟨t,rfl⟩:=h;rw [Nm (Nr.mp e).1]; exact e
theorem DR.mono (hp:θ<+:θ') (hs:Same F F'):∀ {d:D} {v:V},DR K θ F d v->DR K θ' F' d v
 | .d _,_,h=>Rel.mono hs h
 | .r _,_,⟨a,e1,e2⟩=>⟨a,kO hp e1,e2⟩
theorem DRs.mono (hp:θ<+:θ') (hs:Same F F') {ds:List D} {vs:List V} (h:DRs K θ F ds vs):DRs K θ' F' ds vs:=Paired.mapP h λ _ _ r=>DR.mono hp hs r
theorem DRf.mono (hp:θ<+:θ') (hs:Same F F') {ds:List (Str×D)} {vs:List (Str×V)} (h:DRf K θ F ds vs):DRf K θ' F' ds vs:=Paired.mapP h λ _ _ r=>⟨r.1,DR.mono hp hs r.2⟩
theorem DRk.mono (hp:θ<+:θ') (hs:Same F F') {ds:List (Key×D)} {vs:List (Key×V)} (h:DRk K θ F ds vs):DRk K θ' F' ds vs:=Paired.mapP h λ _ _ r=>⟨r.1,DR.mono hp hs r.2⟩
theorem MV.mono (hp:θ<+:θ') (hs:Same F F') (h:MV K θ F σ η):MV K θ' F' σ η:=⟨h.len,λ i d e=>let ⟨v,e1,e2⟩:=h.val i d e; ⟨v,e1,e2.mono hp hs⟩⟩
theorem MV.set (h:MV K θ F σ η) (i:Nat) {d:D} {v:V} (r:DR K θ F d v):MV K θ F (σ.set i (some v)) (η.set i (some d)):=by
 refine ⟨by rw [NC,NC]; exact h.len,λ j d' e=>?_⟩;by_cases hj:i=j
 ·subst hj;by_cases hl:i < η.length
  ·rw [Nz hl] at e;have e':d=d':=Option.some.inj (Option.some.inj e);subst e';exact ⟨v,by rw [Nz (by rw [<- h.len]; exact hl)],r⟩
  ·rw [N3 (by rw [NC]; omega)] at e; cases e
 ·rw [Nj hj] at e ⊢; exact h.val j d' e
theorem DRs.get {ds:List D} {vs:List V} (h:DRs K θ F ds vs) {i:Nat} {d:D} (e:ds[i]?=some d):∃ v,vs[i]?=some v/\DR K θ F d v:=by
 induction h generalizing i with
 | nil=>simp at e
 | @cons a b as bs r t ih =>
  cases i with
  | zero=>simp at e; subst e; exact ⟨b,rfl,r⟩
  | succ i=>exact ih (by simpa using e)
theorem MR.grow (m:MR K cl θ F H s) (g:Gr F H F' H'):MR K cl θ F' H' s where
 sm:=g.fh
 len:=m.len
 nd:=m.nd
 cel:=λ n a c e1 e2=>by
  have q:=m.cel n a c e1 e2;have fr:F a=none->∀ o,H a=some o->F' a=none:=λ hF o hH=>by
   cases z:F' a with
   | none=>rfl
   | some u =>
    rcases g.new a (by rw [z]; simp) with y | y
    ·exact absurd hF y
    ·rw [hH] at y; cases y
  cases c with
  | obj k fs =>
   obtain ⟨h1,h2,h3,dx,xs,h4,h5⟩:=q;exact ⟨fr h1 _ h4,h2,h3,dx,xs,g.hh _ _ h4,h5.mono (NY _) g.ff⟩
  | lst ds =>
   obtain ⟨h1,xs,h4,h5⟩:=q;exact ⟨fr h1 _ h4,xs,g.hh _ _ h4,h5.mono (NY _) g.ff⟩
  | dct kvs =>
   obtain ⟨h1,xs,h4,h5⟩:=q;exact ⟨fr h1 _ h4,xs,g.hh _ _ h4,h5.mono (NY _) g.ff⟩
  | fz x=>exact ⟨Rel.mono g.ff q.1,let ⟨o,e⟩:=q.2; ⟨o,g.hh _ _ e⟩⟩
noncomputable def Mu:Cell->Bool
 | .fz _=>false
 | _=>true
theorem CelR.mut {a:NI} {c:Cell} (h:CelR K cl θ F H a c) (hm:Mu c=true):F a=none/\∃ o,H a=some o:=by
 cases c with
 | obj k fs=>obtain ⟨h1,_,_,dx,xs,h4,_⟩:=h; exact ⟨h1,_,h4⟩
 | lst ds=>obtain ⟨h1,xs,h4,_⟩:=h; exact ⟨h1,_,h4⟩
 | dct kvs=>obtain ⟨h1,xs,h4,_⟩:=h; exact ⟨h1,_,h4⟩
 | fz x=>cases hm
theorem CelR.else {a b:NI} {o:HO} {c:Cell} (h:CelR K cl θ F H a c) (hne:a≠b):CelR K cl θ F (upd H b o) a c:=by
 cases c with
 | obj k fs=>obtain ⟨h1,h2,h3,dx,xs,h4,h5⟩:=h; exact ⟨h1,h2,h3,dx,xs,by rw [aq hne]; exact h4,h5⟩
 | lst ds=>obtain ⟨h1,xs,h4,h5⟩:=h; exact ⟨h1,xs,by rw [aq hne]; exact h4,h5⟩
 | dct kvs=>obtain ⟨h1,xs,h4,h5⟩:=h; exact ⟨h1,xs,by rw [aq hne]; exact h4,h5⟩
 | fz x=>exact ⟨h.1,let ⟨o,e⟩:=h.2; ⟨o,by rw [aq hne]; exact e⟩⟩
theorem CelR.pre {a:NI} {c:Cell} (hp:θ<+:θ') (h:CelR K cl θ F H a c):CelR K cl θ' F H a c:=by
 cases c with
 | obj k fs=>obtain ⟨h1,h2,h3,dx,xs,h4,h5⟩:=h; exact ⟨h1,h2,h3,dx,xs,h4,h5.mono hp (.refl _)⟩
 | lst ds=>obtain ⟨h1,xs,h4,h5⟩:=h; exact ⟨h1,xs,h4,h5.mono hp (.refl _)⟩
 | dct kvs=>obtain ⟨h1,xs,h4,h5⟩:=h; exact ⟨h1,xs,h4,h5.mono hp (.refl _)⟩
 | fz x=>exact h
theorem JD {l:List NI} (h:l.Nodup) {i j:Nat} {a b:NI} (e1:l[i]?=some a) (e2:l[j]?=some b) (hne:i≠j):a≠b:=λ z=>by
 subst z;obtain ⟨l1,q1⟩:=Nr.mp e1;obtain ⟨l2,q2⟩:=Nr.mp e2;have pw:=List.pairwise_iff_getElem.mp h;rcases Nat.lt_or_gt_of_ne hne with z | z
 ·exact pw i j l1 l2 z (q1.trans q2.symm)
 ·exact pw j i l2 l1 z (q2.trans q1.symm)
theorem MR.put (m:MR K cl θ F H s) {n:Nat} {a:NI} {c c':Cell} {o:HO} (e1:θ[n]?=some a) (e2:s[n]?=some c) (hm:Mu c=true) (h:CelR K cl θ F (upd H a o) a c'):MR K cl θ F (upd H a o) (s.set n c') where
 sm:=λ b u q=>by
  have nb:b≠a:=aF q (CelR.mut (m.cel n a c e1 e2) hm).1;rw [aq nb]; exact m.sm b u q
 len:=by rw [NC]; exact m.len
 nd:=m.nd
 cel:=λ k b c2 f1 f2=>by
  by_cases hk:n=k
  ·subst hk;rw [Nz (Nr.mp e2).1] at f2;cases f2;rw [e1] at f1;cases f1;exact h
  ·rw [Nj hk] at f2;exact (m.cel k b c2 f1 f2).else (JD m.nd f1 e1 (Ne.symm hk))
theorem CelR.there {a:NI} {c:Cell} (h:CelR K cl θ F H a c):∃ o,H a=some o:=by
 cases c with
 | obj k fs=>obtain ⟨_,_,_,dx,xs,h4,_⟩:=h; exact ⟨_,h4⟩
 | lst ds=>obtain ⟨_,xs,h4,_⟩:=h; exact ⟨_,h4⟩
 | dct kvs=>obtain ⟨_,xs,h4,_⟩:=h; exact ⟨_,h4⟩
 | fz x=>exact h.2
theorem MR.ne (m:MR K cl θ F H s) {a:NI} (ha:H a=none) {k:Nat} {b:NI} (e:θ[k]?=some b):b≠a:=λ z=>by
 subst z;have hk:k < s.length:=by rw [<- m.len]; exact (Nr.mp e).1
 obtain ⟨o,h⟩:=(m.cel k b _ e (NQ hk)).there;rw [ha] at h; cases h
theorem MR.new (m:MR K cl θ F H s) {a:NI} {c:Cell} {o:HO} (ha:H a=none) (h:CelR K cl (θ++[a]) F (upd H a o) a c):MR K cl (θ++[a]) F (upd H a o) (s++[c]) where
 sm:=λ b u q=>by
  have nb:b≠a:=aF q (m.sm.free ha);rw [aq nb]; exact m.sm b u q
 len:=by rw [Nn,Nn,m.len]; rfl
 nd:=by
  rw [O3];refine ⟨m.nd,by simp,λ b hb b' hb'=>?_⟩;rw [NF.mp hb'];obtain ⟨k,hk⟩:=OW hb;exact m.ne ha hk
 cel:=λ k b c2 f1 f2=>by
  by_cases hk:k < θ.length
  ·rw [Nm hk] at f1;rw [Nm (by rw [<- m.len]; exact hk)] at f2;exact ((m.cel k b c2 f1 f2).else (m.ne ha f1)).pre (OP _ _)
  ·have hk1:k=θ.length:=by
    have:=(Nr.mp f1).1
    rw [Nn] at this;have e1:[a].length=1:=rfl;omega
   subst hk1;rw [Nt (Np _),N5] at f1;rw [Nt (by rw [m.len]; exact Np _),m.len,N5] at f2;cases f1;cases f2;exact h
theorem MR.more (m:MR K cl θ F H s) {a:NI} {o:HO} (ha:H a=none):MR K cl θ F (upd H a o) s where
 sm:=λ b u q=>by
  have nb:b≠a:=aF q (m.sm.free ha);rw [aq nb]; exact m.sm b u q
 len:=m.len
 nd:=m.nd
 cel:=λ k b c f1 f2=>(m.cel k b c f1 f2).else (m.ne ha f1)
end
structure Wd where
 η:MEn
 s:Sto
noncomputable def pD (s:Sto):D->Option Nh
 | .d x=>some x
 | .r n=>match s[n]? with | some (.fz x)=>some x | _=>none
noncomputable def JK:D->Option Nh
 | .d x=>some x
 | .r _=>none
noncomputable def tR:List D->Option (List Nh)
 | []=>some []
 | d::r=>(JK d).bind λ x=>(tR r).bind λ xs=>some (x::xs)
noncomputable def A5:List (Key×D)->Option (List (Key×Nh))
 | []=>some []
 | (k,d)::r=>(JK d).bind λ x=>(A5 r).bind λ xs=>some ((k,x)::xs)
noncomputable def lD (s:Sto):D->Option Nh
 | .d x=>some x
 | .r n=>match s[n]? with
  | some (.fz x)=>some x
  | some (.lst ds)=>(tR ds).bind λ xs=>some (.list xs)
  | some (.dct kvs)=>(A5 kvs).bind λ xs=>some (.dict (prs xs))
  | _=>none
noncomputable def vwS (g:D->Option Nh) (s:Sto):Option D->Sl
 | none=>.un
 | some (.d x)=>.val x
 | some (.r n)=>match s[n]? with
  | some (.obj _ fs)=>.ob λ f=>(fs.lookup f).bind g
  | _=>match g (.r n) with | some x=>.val x | none=>.un
noncomputable def vw (w:Wd):En:=w.η.map (vwS (pD w.s) w.s)
section
variable {K:Ni} {cl:Nat->NI} {θ θ':List NI} {F F' H H':Hp} {s:Sto} {σ:St} {η:MEn} {w:Wd}
theorem DRf.look {fs:List (Str×D)} {xs:List (Str×V)} (h:DRf K θ F fs xs) (f:Str):(∀ d,fs.lookup f=some d->∃ v,xs.lookup f=some v/\DR K θ F d v)/\(fs.lookup f=none->xs.lookup f=none):=by
 induction h with
 | nil=>exact ⟨λ d e=>(by cases e),λ _=>rfl⟩
 | @cons a b as bs r t ih =>
  obtain ⟨ka,da⟩:=a;obtain ⟨kb,vb⟩:=b;have e:ka=kb:=r.1;subst e;by_cases hk:f=ka
  ·subst hk;simp only [List.lookup_cons_self];exact ⟨λ d e=>(by cases e; exact ⟨vb,rfl,r.2⟩),λ e=>(by cases e)⟩
  ·have hb:(f==ka)=false:=by simpa using hk
   simp only [OL,hb];exact ih
theorem yp {fs:List (Str×D)} {f:Str} {d:D} (h:fs.lookup f=some d):f∈fs.map (·.1):=by
 induction fs with
 | nil=>cases h
 | cons a r ih =>
  obtain ⟨k,x⟩:=a;by_cases hk:f=k
  ·subst hk; simp
  ·have hb:(f==k)=false:=by simpa using hk
   simp only [OL,hb] at h;exact NA _ (ih h)
noncomputable def Sees (K:Ni) (θ:List NI) (F Fv:Hp) (g:D->Option Nh):Prop:=∀ d x v,g d=some x->DR K θ F d v->Rel K Fv x v
theorem Ln {g:D->Option Nh} {Fv:Hp} (m:MR K cl θ F H s) (e:MV K θ F σ η) (hs:Same Fv H) (hg:Sees K θ F Fv g) (hd:∀ x,g (.d x)=some x):SR K ⟨Fv,H⟩ Fv H σ (η.map (vwS g s)):=by
 have no:∀ (i:Nat) a,(η.map (vwS g s))[i]?=some a->lL a=false:=λ i a q=>by
  rw [NG] at q;cases h:η[i]? with
  | none=>rw [h] at q; cases q
  | some o =>
   rw [h] at q;have q':vwS g s o=a:=Option.some.inj q;subst q';unfold vwS
   split
   ·rfl
   ·rfl
   ·split
    ·rfl
    ·split <;> rfl
 refine ⟨.refl hs,⟨by rw [Nl]; exact e.len,λ i x q=>?_,λ i a q ha=>(by rw [no i a q] at ha; cases ha),λ i _ a _ q _ ha _ _=>(by rw [no i a q] at ha; cases ha),λ i fs q=>?_⟩⟩
 ·rw [NG] at q;cases h:η[i]? with
  | none=>rw [h] at q; cases q
  | some o =>
   rw [h] at q;have q':vwS g s o=.val x:=Option.some.inj q;unfold vwS at q';split at q'
   ·cases q'
   ·rename_i y
    have:y=x:=by injection q'
    subst this;obtain ⟨v,e1,e2⟩:=e.val i _ h;exact ⟨v,e1,hg _ _ _ (hd y) e2⟩
   ·rename_i n;split at q'
    ·cases q'
    ·split at q'
     ·rename_i y hy
      have:y=x:=by injection q'
      subst this;obtain ⟨v,e1,e2⟩:=e.val i _ h;exact ⟨v,e1,hg _ _ _ hy e2⟩
     ·cases q'
 ·rw [NG] at q;cases h:η[i]? with
  | none=>rw [h] at q; cases q
  | some o =>
   rw [h] at q;have q':vwS g s o=.ob fs:=Option.some.inj q;unfold vwS at q';split at q'
   ·cases q'
   ·cases q'
   ·rename_i n;split at q'
    ·rename_i k fs0 hc
     have:(λ f=>(fs0.lookup f).bind g)=fs:=by injection q'
     subst this;obtain ⟨v,e1,a,e2,e3⟩:=e.val i _ h;subst e3;obtain ⟨h1,h2,h3,dx,xs,h4,h5⟩:=m.cel n a _ e2 hc;refine ⟨a,cl k,dx,xs,e1,h4,h2,λ f d hf=>?_⟩;obtain ⟨D',hl,hx⟩:=ab hf;obtain ⟨v,e5,e6⟩:=(h5.look f).1 D' hl;exact ⟨h3 f (yp hl),v,e5,hg _ _ _ hx e6⟩
    ·split at q' <;> cases q'
theorem vX (m:MR K cl θ F H s):Sees K θ F F (pD s):=λ d x v h r=>by
 cases d with
 | d y=>cases h; exact r
 | r n =>
  have h:(match s[n]? with | some (.fz x)=>some x | _=>none)=some x:=h;split at h
  ·rename_i y hy;cases h;obtain ⟨a,e1,e2⟩:=r;subst e2;exact (m.cel n a _ e1 hy).1
  ·cases h
theorem MR.vw (m:MR K cl θ F H w.s) (e:MV K θ F σ w.η):SR K ⟨F,H⟩ F H σ (vw w):=Ln m e m.sm (vX m) λ _=>rfl
noncomputable def wA (θ:List NI) (F H:Hp):Hp:=λ b=>match F b with | some o=>some o | none=>if b∈θ then H b else none
theorem ID (θ:List NI) (F H:Hp):Same F (wA θ F H):=λ b u q=>by unfold wA; rw [q]
theorem IE {θ:List NI} {F H:Hp} (h:Same F H):Same (wA θ F H) H:=λ b u q=>by
 unfold wA at q;split at q
 ·rename_i o ho; rw [<- q]; exact h _ _ ho
 ·split at q
  ·exact q
  ·cases q
theorem D8 {θ:List NI} {F H:Hp} {n:Nat} {a:NI} {o:HO} (e:θ[n]?=some a) (hF:F a=none) (hH:H a=some o):wA θ F H a=some o:=by
 unfold wA;rw [hF];dsimp only;rw [if_pos (OV e)]; exact hH
theorem Ce {ds:List D} {xs:List V} (h:DRs K θ F ds xs):∀ {ys:List Nh},tR ds=some ys->RelL K F ys xs:=by
 induction h with
 | nil=>intro ys e; cases e; exact .nil
 | @cons a b as bs r t ih =>
  intro ys e;unfold tR at e;obtain ⟨x,h1,e⟩:=ab e;obtain ⟨zs,h2,e⟩:=ab e;cases e;cases a with
  | d y=>cases h1; exact .cons r (ih h2)
  | r n=>cases h1
theorem Cc {ds:List (Key×D)} {xs:List (Key×V)} (h:DRk K θ F ds xs):∀ {ys:List (Key×Nh)},A5 ds=some ys->RelD K F (prs ys) xs:=by
 induction h with
 | nil=>intro ys e; cases e; exact .nil
 | @cons a b as bs r t ih =>
  intro ys e;obtain ⟨ka,da⟩:=a;obtain ⟨kb,vb⟩:=b;have hk:ka=kb:=r.1;subst hk;unfold A5 at e;obtain ⟨x,h1,e⟩:=ab e;obtain ⟨zs,h2,e⟩:=ab e;cases e;cases da with
  | d y=>cases h1; exact RelD.cons r.2 (ih h2)
  | r n=>cases h1
theorem Fz (m:MR K cl θ F H s):Sees K θ F (wA θ F H) (lD s):=λ d x v h r=>by
 have sm:=ID θ F H;cases d with
 | d y=>cases h; exact Rel.mono sm r
 | r n =>
  have h:(match s[n]? with | some (.fz x)=>some x | some (.lst ds)=>(tR ds).bind λ xs=>some (.list xs) | some (.dct kvs)=>(A5 kvs).bind λ xs=>some (.dict (prs xs)) | _=>none)=some x:=h;obtain ⟨a,e1,e2⟩:=r;subst e2;split at h
  ·rename_i y hy;cases h;exact Rel.mono sm (m.cel n a _ e1 hy).1
  ·rename_i ds hy;obtain ⟨ys,h1,h2⟩:=ab h;cases h2;obtain ⟨q1,xs,q2,q3⟩:=m.cel n a _ e1 hy;exact jO (SqL.of (D8 e1 q1 q2)) ((Ce q3 h1).mono sm)
  ·rename_i kvs hy;obtain ⟨ys,h1,h2⟩:=ab h;cases h2;obtain ⟨q1,ks,q2,q3⟩:=m.cel n a _ e1 hy;exact DF (.inl (D8 e1 q1 q2)) ((Cc q3 h1).mono sm)
  ·cases h
end
noncomputable abbrev MF:=Wd->Option (D×Sto)
noncomputable abbrev MFs:=Wd->Option (List D×Sto)
section
variable (K:Ni) (cl:Nat->NI)
noncomputable def tM (f:MF):TE:=λ σ H Q=>∃ θ F w d s',MR K cl θ F H w.s/\MV K θ F σ w.η/\f w=some (d,s')/\∀ v θ' F' H',θ<+:θ'->Same F F'->MR K cl θ' F' H' s'->DR K θ' F' d v->Q v H'
noncomputable def tMT (f:Wd->Option (Bool×Sto)):TT:=λ σ H Q=>∃ θ F w b s',MR K cl θ F H w.s/\MV K θ F σ w.η/\f w=some (b,s')/\∀ θ' F' H',θ<+:θ'->Same F F'->MR K cl θ' F' H' s'->Q b H'
noncomputable def tMA (f:MFs):TA:=λ σ H Q=>∃ θ F w ds s',MR K cl θ F H w.s/\MV K θ F σ w.η/\f w=some (ds,s')/\∀ vs θ' F' H',θ<+:θ'->Same F F'->MR K cl θ' F' H' s'->DRs K θ' F' ds vs->Q vs H'
end
noncomputable def ME (X:Cx) (cl:Nat->NI) (e:Expr) (f:MF):Prop:=PE X e (tM X.K cl f)
noncomputable abbrev MTF:=Wd->Option (Bool×Sto)
noncomputable def MT (X:Cx) (cl:Nat->NI) (e:Expr) (f:MTF):Prop:=PT X e (tMT X.K cl f)
noncomputable def MTW (X:Cx) (cl:Nat->NI) (e:Expr) (f:MTF):Prop:=PW X e (tMT X.K cl f)
noncomputable def MA (X:Cx) (cl:Nat->NI) (es:List Expr) (f:MFs):Prop:=PA X es (tMA X.K cl f)
noncomputable def mP (f:En->Option Nh):MF:=λ w=>(f (vw w)).bind λ x=>some (.d x,w.s)
noncomputable def mN (f:En->Option (List Nh)):MF:=λ w=>(f (vw w)).bind λ xs=>some (.r w.s.length,w.s++[.lst (xs.map .d)])
noncomputable def mV (i:Nat):MF:=λ w=>match w.η[i]? with | some (some d)=>some (d,w.s) | _=>none
noncomputable def tPv (f:En->Option Bool):MTF:=λ w=>(f (vw w)).bind λ b=>some (b,w.s)
section
variable {X:Cx} {cl:Nat->NI} {a b c e o:Expr} {es:List Expr} {f g:MF} {fs:MFs} {p:En->Option Nh} {ps:En->Option (List Nh)} {pt:En->Option Bool} {pos:Pos}
theorem ag (h:∀ B,E X B e p):ME X cl e (mP p):=λ pins s σ H Q I ⟨θ,F,w,d,s',m,v,hf,q⟩=>by
 obtain ⟨x,hx,hf⟩:=ab hf;cases hf;exact h ⟨F,H⟩ pins s σ H Q I ⟨F,vw w,x,m.vw v,hx,λ u F' H' g r=>q u θ F' H' (NY _) g.ff (m.grow g) r⟩
theorem D7 {K:Ni} {F H F' H':Hp} {p:NI} {xs:List V} {ds:List Nh} (sm:Same F H) (g:Gr F H F' H') (hp:H p=none) (fp:F' p=none) (hp':H' p=some (.lst xs)) (rs:RelL K F' ds xs):Gr F H (upd F' p (.lst xs)) H'/\Rel K (upd F' p (.lst xs)) (.list ds) (.ref p):=by
 have sn:=fZ (H:=F') fp (.lst xs);refine ⟨⟨g.ff.trans sn,g.hh,λ b u z=>?_,λ b z=>?_⟩,jO (SqL.of au) (rs.mono sn)⟩
 ·by_cases e:b=p
  ·subst e; rw [au] at z; rw [<- z]; exact hp'
  ·rw [aq e] at z; exact g.fh _ _ z
 ·by_cases e:b=p
  ·subst e; exact .inr hp
  ·rw [aq e] at z; exact g.new b z
theorem CK {K:Ni} {θ:List NI} {F:Hp}:∀ {xs:List Nh} {vs:List V},RelL K F xs vs->DRs K θ F (xs.map .d) vs
 | [],_,h=>by rw [h.nil_of]; exact .nil
 | x::xs,vs,h=>by
  obtain ⟨v,r,rfl,h1,h2⟩:=h.cons_of;exact .cons h1 (CK h2)
theorem ME.nw (h:∀ B,EO X B e ps):ME X cl e (mN ps):=λ pins s σ H Q I ⟨θ,F,w,d,s',m,v,hf,q⟩=>by
 obtain ⟨x,hx,hf⟩:=ab hf;cases hf;refine h ⟨F,H⟩ pins s σ H Q I ⟨F,vw w,x,m.vw v,hx,λ p xs F' H' g hp fp hp' rs=>?_⟩;have m1:=m.grow g;have na:∀ (k:Nat) b,θ[k]?=some b->b≠p:=λ k b e=>m.ne hp e;have pre:θ<+:θ++[p]:=OP _ _;refine q _ (θ++[p]) F' H' pre g.ff ⟨m1.sm,by rw [Nn,Nn,m1.len]; rfl,?_,λ k b c2 f1 f2=>?_⟩ ⟨p,by rw [<- m.len,Nt (Np _),N5]; rfl,rfl⟩
 ·rw [O3];refine ⟨m.nd,by simp,λ b hb b' hb'=>?_⟩;rw [NF.mp hb'];obtain ⟨k,hk⟩:=OW hb;exact na k b hk
 ·by_cases hk:k < θ.length
  ·rw [Nm hk] at f1;rw [Nm (by rw [<- m.len]; exact hk)] at f2;exact (m1.cel k b c2 f1 f2).pre pre
  ·have hk1:k=θ.length:=by
    have:=(Nr.mp f1).1
    rw [Nn] at this;have e1:[p].length=1:=rfl;omega
   subst hk1;rw [Nt (Np _),N5] at f1;rw [Nt (by rw [m.len]; exact Np _),m.len,N5] at f2;cases f1;cases f2;exact ⟨fp,xs,hp',CK rs⟩
theorem a5 (i:Nat) {x:Str} (hN:X.N[i]?=some x:=by rfl) (hv:Vis X.env.scope x:=by first | exact Or.inl rfl | exact Or.inr (Or.inl rfl) | exact Or.inr (Or.inr rfl)) (hd:(x==("__debug__" : Str))=false:=by decide)
  (hcd:(x==("__classdict__" : Str))=false:=by decide):ME X cl (.Name x pos) (mV i) :=
 PE.imp (rB hN hv hd hcd) λ σ H Q ⟨θ,F,w,d,s',m,v,hf,q⟩=>by
  unfold mV at hf;split at hf
  ·rename_i d' e;cases hf;obtain ⟨u,e1,e2⟩:=v.val i _ e;exact ⟨u,e1,q u θ F H (NY _) (.refl _) m e2⟩
  ·cases hf
theorem jK (h:∀ B,T X B e pt):MT X cl e (tPv pt):=λ pins s σ H Q I ⟨θ,F,w,b,s',m,v,hf,q⟩=>by
 obtain ⟨c,hx,hf⟩:=ab hf;cases hf;exact h ⟨F,H⟩ pins s σ H Q I ⟨F,vw w,_,m.vw v,hx,λ F' H' g=>q θ F' H' (NY _) g.ff (m.grow g)⟩
noncomputable def nM (f g:MTF):MTF:=λ w=>(f w).bind λ r=>if r.1=true then g ⟨w.η,r.2⟩ else some (false,r.2)
variable {ta tb:MTF} {rest:List Expr}
theorem MTW.t (h:MTW X cl a ta):MT X cl a ta:=PW.pt h
theorem MTW.and1 (ha:MT X cl a ta):MTW X cl (.BoolOp .And [a] pos) ta:=pw_and1 ha
theorem MTW.and (ha:MT X cl a ta) (hb:MTW X cl (.BoolOp .And (b::rest) pos) tb):MTW X cl (.BoolOp .And (a::b::rest) pos) (nM ta tb):=PW.imp (pw_and ha hb) λ σ H Q ⟨θ,F,w,b,s',m,v,hf,q⟩=>by
 obtain ⟨⟨c,s1⟩,hx,hf⟩:=ab hf;refine ⟨θ,F,w,c,s1,m,v,hx,λ θ1 F1 H1 p1 q1 m1=>?_⟩;cases c with
 | false =>
  rw [if_neg NE] at hf ⊢;cases hf;exact q θ1 F1 H1 p1 q1 m1
 | true =>
  rw [if_pos rfl] at hf ⊢;exact ⟨θ1,F1,⟨w.η,s1⟩,b,s',m1,v.mono p1 q1,hf,λ θ2 F2 H2 p2 q2 m2=>q θ2 F2 H2 (p1.trans p2) (q1.trans q2) m2⟩
noncomputable def mOp (o:Nh->Nh->Option Nh) (f g:MF):MF:=λ w=>(f w).bind λ r=>(g ⟨w.η,r.2⟩).bind λ q=>(pD q.2 r.1).bind λ x=>(pD q.2 q.1).bind λ y=>(o x y).bind λ z=>some (.d z,q.2)
noncomputable def mG (o:Nh->Nh->Option Nh) (f g:MF):MF:=λ w=>(f w).bind λ r=>(g ⟨w.η,r.2⟩).bind λ q=>(lD q.2 r.1).bind λ x=>(lD q.2 q.1).bind λ y=>(o x y).bind λ z=>if kF z=true then some (.d z,q.2) else none
theorem JA {r:R2} {o:Nh->Nh->Option Nh} (ad:Ad2 X.K r o):∀ σ H Q,tM X.K cl (mOp o f g) σ H Q->tOp r (tM X.K cl f) (tM X.K cl g) σ H Q:=λ σ H Q ⟨θ,F,w,d,s',m,v,hf,q⟩=>by
 obtain ⟨⟨d1,s1⟩,h1,hf⟩:=ab hf;obtain ⟨⟨d2,s2⟩,h2,hf⟩:=ab hf;obtain ⟨x,hx,hf⟩:=ab hf;obtain ⟨y,hy,hf⟩:=ab hf;obtain ⟨z,hz,hf⟩:=ab hf;cases hf;refine ⟨θ,F,w,d1,s1,m,v,h1,λ u θ1 F1 H1 p1 q1 m1 r1=>⟨θ1,F1,⟨w.η,s1⟩,d2,_,m1,v.mono p1 q1,h2,λ u2 θ2 F2 H2 p2 q2 m2 r2=>?_⟩⟩;exact ad F2 H2 u u2 x y z Q m2.sm (vX m2 _ _ _ hx (r1.mono p2 q2)) (vX m2 _ _ _ hy r2) hz λ t F3 H3 g3 rt=>q t θ2 F3 H3 (p1.trans p2) (q1.trans (q2.trans g3.ff)) (m2.grow g3) rt
theorem Gc {r:R2} {o:Nh->Nh->Option Nh} (ad:Ad2 X.K r o):∀ σ H Q,tM X.K cl (mG o f g) σ H Q->tOp r (tM X.K cl f) (tM X.K cl g) σ H Q:=λ σ H Q ⟨θ,F,w,d,s',m,v,hf,q⟩=>by
 obtain ⟨⟨d1,s1⟩,h1,hf⟩:=ab hf;obtain ⟨⟨d2,s2⟩,h2,hf⟩:=ab hf;obtain ⟨x,hx,hf⟩:=ab hf;obtain ⟨y,hy,hf⟩:=ab hf;obtain ⟨z,hz,hf⟩:=ab hf;split at hf
 ·rename_i hfl;cases hf;refine ⟨θ,F,w,d1,s1,m,v,h1,λ u θ1 F1 H1 p1 q1 m1 r1=>⟨θ1,F1,⟨w.η,s1⟩,d2,_,m1,v.mono p1 q1,h2,λ u2 θ2 F2 H2 p2 q2 m2 r2=>?_⟩⟩;exact ad (wA θ2 F2 H2) H2 u u2 x y z Q (IE m2.sm) (Fz m2 _ _ _ hx (r1.mono p2 q2)) (Fz m2 _ _ _ hy r2) hz λ t F3 H3 g3 rt=>q t θ2 F2 H3 (p1.trans p2) (q1.trans q2) (m2.grow (Gr.back m2.sm g3)) (B3 hfl rt)
 ·cases hf
theorem ME.op {op:Operator} {r:R2} {oo:Nh->Nh->Option Nh} (ho:OpR X (binaryOp op) r) (ad:Ad2 X.K r oo) (ha:ME X cl a f) (hb:ME X cl b g):ME X cl (.BinOp a op b pos) (mOp oo f g):=PE.imp (FR ho ha hb) (JA ad)
theorem ME.cmp {op:CmpOp} {r:R2} {oo:Nh->Nh->Option Nh} (ho:OpR X (On op) r) (ad:Ad2 X.K r oo) (hm:Oa op b=false) (ha:ME X cl a f) (hb:ME X cl b g):ME X cl (.Compare a [op] [b] pos) (mG oo f g):=PE.imp (DO ho ha hb hm) (Gc ad)
theorem ME.ix {r:R2} {oo:Nh->Nh->Option Nh} (hr:IxR X r) (ad:Ad2 X.K r oo) (ha:ME X cl a f) (hb:ME X cl b g) (hs:vO b:=by intro _ _; rfl):ME X cl (.Subscript a b pos) (mOp oo f g):=PE.imp (Jz hr ha hb hs) (JA ad)
noncomputable def mB (f:MF):MTF:=λ w=>(f w).bind λ r=>match r.1 with | .d x=>(asB x).bind λ b=>some (b,r.2) | _=>none
theorem MT.cmp {op:CmpOp} {r:R2} {oo:Nh->Nh->Option Nh} (ho:OpR X (On op) r) (ad:Ad2 X.K r oo) (hm:Oa op b=false) (ha:ME X cl a f) (hb:ME X cl b g):MT X cl (.Compare a [op] [b] pos) (mB (mG oo f g)) :=
 PT.imp (DK ho ha hb hm) λ σ H Q ⟨θ,F,w,c,s',m,v,hf,q⟩=>by
  obtain ⟨⟨d,s1⟩,h1,hf⟩:=ab hf;cases d with
  | r n=>cases hf
  | d x =>
   dsimp only at hf;obtain ⟨b,hb,hf⟩:=ab hf;cases hf;obtain rfl:=mO hb;exact Gc ad σ H _ ⟨θ,F,w,_,_,m,v,h1,λ u θ1 F1 H1 p1 q1 m1 r1=>⟨c,(show Rel X.K F1 (.bool c) u from r1).bl,q θ1 F1 H1 p1 q1 m1⟩⟩
theorem MT.val (he:ME X cl e f) (hi:∀ whole,isTrue e X.env whole=(do let v <- whole; standAt e.pos; holding [v] (truthy v)):=by intro _; rfl):MT X cl e (mB f):=PT.imp (FH he hi) λ σ H Q ⟨θ,F,w,c,s',m,v,hf,q⟩=>by
 obtain ⟨⟨d,s1⟩,h1,hf⟩:=ab hf;cases d with
 | r n=>cases hf
 | d x =>
  dsimp only at hf;obtain ⟨b,hb,hf⟩:=ab hf;cases hf;obtain rfl:=mO hb;exact ⟨θ,F,w,_,_,m,v,h1,λ u θ1 F1 H1 p1 q1 m1 r1=>⟨c,(show Rel X.K F1 (.bool c) u from r1).bl,q θ1 F1 H1 p1 q1 m1⟩⟩
noncomputable def maN:MFs:=λ w=>some ([],w.s)
noncomputable def maC (f:MF) (fs:MFs):MFs:=λ w=>(f w).bind λ r=>(fs ⟨w.η,r.2⟩).bind λ rs=>some (r.1::rs.1,rs.2)
theorem bu:MA X cl [] maN:=PA.imp CV λ σ H Q ⟨θ,F,w,ds,s',m,v,hf,q⟩=>by
 cases hf;exact q [] θ F H (NY _) (.refl _) m .nil
theorem ak (ha:ME X cl e f) (hr:MA X cl es fs) (hs:Nw (e::es) X.env=(false,eval e X.env)::Nw es X.env:=by exact aQ rfl):MA X cl (e::es) (maC f fs):=PA.imp (DT ha hr hs) λ σ H Q ⟨θ,F,w,ds,s',m,v,hf,q⟩=>by
 obtain ⟨⟨d,s1⟩,h1,hf⟩:=ab hf;obtain ⟨⟨ds2,s2⟩,h2,hf⟩:=ab hf;cases hf;refine ⟨θ,F,w,d,s1,m,v,h1,λ u θ1 F1 H1 p1 q1 m1 r1=>⟨θ1,F1,⟨w.η,s1⟩,ds2,s2,m1,v.mono p1 q1,h2,λ us θ2 F2 H2 p2 q2 m2 r2=>?_⟩⟩;exact q (u::us) θ2 F2 H2 (p1.trans p2) (q1.trans q2) m2 (.cons (r1.mono p2 q2) r2)
noncomputable def rW (o:MF) (f:Str):MF:=λ w=>(o w).bind λ r=>match r.1 with
 | .r n=>(match r.2[n]? with | some (.obj _ fs)=>(fs.lookup f).bind λ d=>some (d,r.2) | _=>none)
 | _=>none
theorem ME.fld {f:Str} {g:MF} (ho:ME X cl o g) (hb:attributeBase o f X.env (eval o X.env)=eval o X.env:=by rfl):ME X cl (.Attribute o f pos) (rW g f) :=
 PE.imp (CS ho hb) λ σ H Q ⟨θ,F,w,d,s',m,v,hf,q⟩=>by
  obtain ⟨⟨d0,s0⟩,h0,hf⟩:=ab hf;cases d0 with
  | d x=>cases hf
  | r n =>
   dsimp only at hf;split at hf
   ·rename_i k fs hc;obtain ⟨d1,hl,hf⟩:=ab hf;cases hf;refine ⟨θ,F,w,.r n,_,m,v,h0,λ u θ1 F1 H1 p1 q1 m1 r1=>?_⟩;obtain ⟨a,e1,rfl⟩:=r1;obtain ⟨h1,h2,h3,dx,xs,h4,h5⟩:=m1.cel n a _ e1 hc;obtain ⟨u,e5,e6⟩:=(h5.look f).1 _ hl;exact ⟨a,cl k,dx,xs,u,rfl,h4,h2,h3 f (yp hl),e5,q u θ1 F1 H1 p1 q1 m1 e6⟩
   ·cases hf
end
noncomputable def gj (i:Nat) (f:Str):En->Option Nh:=λ η=>match η[i]? with | some (.ob fs)=>fs f | _=>none
theorem lG (i:Nat) {X:Cx} {B:Bd} {x f:Str} {npos pos:Pos} (hN:X.N[i]?=some x:=by rfl) (hv:Vis X.env.scope x:=by first | exact Or.inl rfl | exact Or.inr (Or.inl rfl) | exact Or.inr (Or.inr rfl)) (hd:(x==("__debug__" : Str))=false:=by decide)
  (hcd:(x==("__classdict__" : Str))=false:=by decide) (hb:attributeBase (.Name x npos) f X.env (eval (.Name x npos) X.env)=eval (.Name x npos) X.env:=by rfl):E X B (.Attribute (.Name x npos) f pos) (gj i f) :=
 PE.imp (CS (rB hN hv hd hcd) hb) λ σ H Q ⟨F,η,d,sr,hd,q⟩=>by
  unfold gj at hd;split at hd
  ·rename_i fs e;obtain ⟨p,C,dx,xs,e1,e2,e3,e4⟩:=sr.en.obs i fs e;obtain ⟨n,v,h1,h2⟩:=e4 f d hd;exact ⟨_,e1,p,C,dx,xs,v,rfl,e2,e3,n,h1,q v F H (.refl sr.same) h2⟩
  ·cases hd
noncomputable def spM (K:Ni) (cl:Nat->NI) (fn:List D->Sto->Option (D×Sto)):Sp:=λ vs H Q _=>∃ θ F s ds d s',MR K cl θ F H s/\DRs K θ F ds vs/\fn ds s=some (d,s')/\∀ v θ' F' H',θ<+:θ'->Same F F'->MR K cl θ' F' H' s'->DR K θ' F' d v->Q v H'
noncomputable def fg (fn:List D->Sto->Option (D×Sto)) (fs:MFs):MF:=λ w=>(fs w).bind λ r=>fn r.1 r.2
section
variable {X:Cx} {cl:Nat->NI} {e o:Expr} {es:List Expr} {g:MF} {fs:MFs} {pos:Pos}
theorem jl {k k':Nat} {fa:NI} {fd:Oo} {ps:List Str} {x:Str} {ppos:Pos} {fn:List D->Sto->Option (D×Sto)} (G:FnOk X.prog X.w X.K X.mg X.base CX0 k fa fd ps (spM X.K cl fn)) (hr:Room k' X.A) (hkk:k<=k') (hm:X.mg x=some (.ref fa)) (hk:OI X.K (.ref fa)=true) (hb:Binds X.K fd ps [])
  (ha:MA X cl (e::es) fs) (hg:Gl X x:=by rfl) (hdb:(x==("__debug__" : Str))=false:=by decide) (he:Nw (e::es) X.env=(false,eval e X.env)::Nw es X.env:=by exact aQ rfl) (hpl:(backTo pos (Nw es X.env)).any (·.1)=false:=by exact iK rfl) :
  ME X cl (.Call (.Name x ppos) (e::es) [] pos) (fg fn fs):=PE.imp (Ap G (hr.mono hkk) hg hm hk hb .nil xW ha hdb he hpl) λ σ H Q ⟨θ,F,w,d,s',m,v,hf,q⟩=>by
 obtain ⟨⟨ds,s1⟩,h1,hf⟩:=ab hf;refine ⟨θ,F,w,ds,s1,m,v,h1,λ vs θ1 F1 H1 p1 q1 m1 r1=>?_⟩;show spM X.K cl fn (vs++[]) H1 Q E0;rw [Oi];exact ⟨θ1,F1,s1,ds,d,s',m1,r1,hf,λ u θ2 F2 H2 p2 q2 m2 r2=>q u θ2 F2 H2 (p1.trans p2) (q1.trans q2) m2 r2⟩
noncomputable def df (k:Nat) (nm:Str) (fn:List D->Sto->Option (D×Sto)) (o:MF) (fs:MFs):MF:=λ w=>(o w).bind λ r=>match r.1 with
 | .r n=>(match r.2[n]? with
  | some (.obj k' as)=>if k'=k/\as.lookup nm=none then (fs ⟨w.η,r.2⟩).bind λ rs=>fn (.r n::rs.1) rs.2 else none
  | _=>none)
 | _=>none
theorem Iv {nm:Str} {k:Nat} {fn:List D->Sto->Option (D×Sto)}:∀ σ H Q,tM X.K cl (df k nm fn g fs) σ H Q->Ft (cl k) nm (spM X.K cl fn) [] E0 (tM X.K cl g) (tMA X.K cl fs) σ H Q:=λ σ H Q ⟨θ,F,w,d,s',m,v,hf,q⟩=>by
 obtain ⟨⟨d0,s0⟩,h0,hf⟩:=ab hf;cases d0 with
 | d x=>cases hf
 | r n =>
  dsimp only at hf;split at hf
  ·rename_i k' as hc;split at hf
   ·rename_i hk;obtain ⟨⟨ds,s1⟩,h1,hf⟩:=ab hf;obtain ⟨hk1,hk2⟩:=hk;rw [hk1] at hc;refine ⟨θ,F,w,.r n,s0,m,v,h0,λ u θ1 F1 H1 p1 q1 m1 r1=>?_⟩;obtain ⟨a,e1,rfl⟩:=id r1;obtain ⟨c1,c2,c3,dx,xs,c4,c5⟩:=m1.cel n a _ e1 hc;refine ⟨a,dx,xs,rfl,c4,(c5.look nm).2 hk2,θ1,F1,⟨w.η,s0⟩,ds,s1,m1,v.mono p1 q1,h1,λ vs θ2 F2 H2 p2 q2 m2 r2=>?_⟩;show spM X.K cl fn (.ref a::(vs++[])) H2 Q E0;rw [Oi];exact ⟨θ2,F2,s1,.r n::ds,d,s',m2,.cons (DR.mono p2 q2 r1) r2,hf,λ u θ3 F3 H3 p3 q3 m3 r3=>q u θ3 F3 H3 (p1.trans (p2.trans p3)) (q1.trans (q2.trans q3)) m3 r3⟩
   ·cases hf
  ·cases hf
theorem gl {pl:Sem Bool} {k k' kc:Nat} {fa:NI} {fd:Oo} {ps:List Str} {nm:Str} {apos:Pos} {fn:List D->Sto->Option (D×Sto)} (ho:ME X cl o g) (c:Cls X.K (cl kc)) (hm:Meth X.K (cl kc) nm fa) (G:FnOk X.prog X.w X.K X.mg X.base CX0 k fa fd ps (spM X.K cl fn)) (hr:Room k' X.A) (hkk:k<=k') (hb:Binds X.K fd ps [])
  (ha:MA X cl (e::es) fs) (hst:Nw (e::es) X.env=(false,eval e X.env)::Nw es X.env:=by exact aQ rfl) (hpl:(backTo pos (Nw es X.env)).any (·.1)=false:=by exact iK rfl)
  (ht:eval (.Call (.Attribute o nm apos) (e::es) [] pos) X.env=(do
   let ov <- eval o X.env
   standAt apos.atName
   let (f,first) <- holding [ov] (getMethod ov nm pl)
   callWith pos f first (backTo pos (Nw (e::es) X.env)) (backToKw pos (keywordEach [] X.env))):=by rfl):ME X cl (.Call (.Attribute o nm apos) (e::es) [] pos) (df kc nm fn g fs) :=
 PE.imp (Ib (pl:=pl) ho c hm G (hr.mono hkk) hb .nil xW ha hst hpl ht) Iv
theorem ME.meth0 {pl:Sem Bool} {k k' kc:Nat} {fa:NI} {fd:Oo} {ps:List Str} {nm:Str} {apos:Pos} {fn:List D->Sto->Option (D×Sto)} (ho:ME X cl o g) (c:Cls X.K (cl kc)) (hm:Meth X.K (cl kc) nm fa) (G:FnOk X.prog X.w X.K X.mg X.base CX0 k fa fd ps (spM X.K cl fn)) (hr:Room k' X.A) (hkk:k<=k') (hb:Binds X.K fd ps [])
  (ht:eval (.Call (.Attribute o nm apos) [] [] pos) X.env=(do
   let ov <- eval o X.env
   standAt apos.atName
   let (f,first) <- holding [ov] (getMethod ov nm pl)
   callWith pos f first (backTo pos (Nw [] X.env)) (backToKw pos (keywordEach [] X.env))):=by rfl):ME X cl (.Call (.Attribute o nm apos) [] [] pos) (df kc nm fn g maN) :=
 PE.imp (FT (pl:=pl) ho c hm G (hr.mono hkk) hb .nil xW ht) λ σ H Q h=>by
  obtain ⟨θ,F,w,d,s',m,v,hf,q⟩:=h;obtain ⟨⟨d0,s0⟩,h0,hf⟩:=ab hf;cases d0 with
  | d x=>cases hf
  | r n =>
   dsimp only at hf;split at hf
   ·rename_i k' as hc;split at hf
    ·rename_i hk;obtain ⟨⟨ds,s1⟩,h1,hf⟩:=ab hf;obtain ⟨hk1,hk2⟩:=hk;rw [hk1] at hc;cases h1;refine ⟨θ,F,w,.r n,s0,m,v,h0,λ u θ1 F1 H1 p1 q1 m1 r1=>?_⟩;obtain ⟨a,e1,rfl⟩:=id r1;obtain ⟨c1,c2,c3,dx,xs,c4,c5⟩:=m1.cel n a _ e1 hc;exact ⟨a,dx,xs,rfl,c4,(c5.look nm).2 hk2,θ1,F1,s0,[.r n],d,s',m1,.cons r1 .nil,hf,λ u θ3 F3 H3 p3 q3 m3 r3=>q u θ3 F3 H3 (p1.trans p3) (q1.trans q3) m3 r3⟩
    ·cases hf
   ·cases hf
noncomputable def rT (k:Nat) (fn:List D->Sto->Option (D×Sto)) (fs:MFs):MF:=λ w=>(fs w).bind λ r=>(fn (.r r.2.length::r.1) (r.2++[.obj k []])).bind λ q=>match q.1 with
 | .d .none=>some (.r r.2.length,q.2)
 | _=>none
theorem Iy {K:Ni} {θ:List NI} {F H:Hp} {s:Sto} {kc:Nat} (c:Cls K (cl kc)) (m:MR K cl θ F H s) {x dx:NI} (hx:H x=none) (hdx:H dx=none) (hne:dx≠x) :
  MR K cl (θ++[x]) F (upd (upd H dx (.own x)) x (.ins (cl kc) dx [])) (s++[.obj kc []]):=by
 have m1:=m.more (o:=.own x) hdx;have hx1:upd H dx (.own x) x=none:=by rw [aq (Ne.symm hne)]; exact hx
 exact m1.new hx1 ⟨m1.sm.free hx1,c,λ f hf=>(by cases hf),dx,[],au,.nil⟩
theorem D1 {kc:Nat} {fn:List D->Sto->Option (D×Sto)} (c:Cls X.K (cl kc)) {θ:List NI} {F H:Hp} {s s':Sto} {ds:List D} {d:D} {vs:List V} {Q:VK} (m:MR X.K cl θ F H s) (r:DRs X.K θ F ds vs)
  (hf:((fn (.r s.length::ds) (s++[.obj kc []])).bind λ q=>match q.1 with | .d .none=>some (D.r s.length,q.2) | _=>none)=some (d,s'))
  (q:∀ v θ' F' H',θ<+:θ'->Same F F'->MR X.K cl θ' F' H' s'->DR X.K θ' F' d v->Q v H') (x dx:NI) (hx:H x=none) (hdx:H dx=none) (hne:dx≠x) :
  spM X.K cl fn (.ref x::vs) (upd (upd H dx (.own x)) x (.ins (cl kc) dx [])) (λ v H2=>v=.non/\Q (.ref x) H2) E0:=by
 obtain ⟨⟨d1,s1⟩,h1,hf⟩:=ab hf;have pre:θ<+:θ++[x]:=OP _ _;have hix:(θ++[x])[s.length]?=some x:=by rw [<- m.len,Nt (Np _),N5]; rfl
 refine ⟨θ++[x],F,s++[.obj kc []],.r s.length::ds,d1,s1,Iy c m hx hdx hne,.cons ⟨x,hix,rfl⟩ (r.mono pre (.refl _)),h1,λ v θ2 F2 H2 p2 q2 m2 r2=>?_⟩;dsimp only at hf;split at hf
 ·rename_i hd;cases hf;have r2':Rel X.K F2 .none v:=r2;exact ⟨r2'.non,q _ θ2 F2 H2 (pre.trans p2) q2 m2 ⟨x,kO p2 hix,rfl⟩⟩
 ·cases hf
theorem ME.make {k k' kc:Nat} {fa:NI} {fd:Oo} {ps:List Str} {x:Str} {ppos:Pos} {fn:List D->Sto->Option (D×Sto)} (c:Cls X.K (cl kc)) (M:Mk X.K (cl kc) fa) (G:FnOk X.prog X.w X.K X.mg X.base CX0 k fa fd ps (spM X.K cl fn)) (hr:Room k' X.A) (hkk:k+1<=k') (hm:X.mg x=some (.ref (cl kc))) (hb:Binds X.K fd ps [])
  (ha:MA X cl (e::es) fs) (hg:Gl X x:=by rfl) (hdb:(x==("__debug__" : Str))=false:=by decide) (he:Nw (e::es) X.env=(false,eval e X.env)::Nw es X.env:=by exact aQ rfl) (hpl:(backTo pos (Nw es X.env)).any (·.1)=false:=by exact iK rfl) :
  ME X cl (.Call (.Name x ppos) (e::es) [] pos) (rT kc fn fs):=PE.imp (Ie M G (hr.mono hkk) hg hm hb .nil xW ha hdb he hpl) λ σ H Q ⟨θ,F,w,d,s',m,v,hf,q⟩=>by
 obtain ⟨⟨ds,s1⟩,h1,hf⟩:=ab hf;refine ⟨θ,F,w,ds,s1,m,v,h1,λ vs θ1 F1 H1 p1 q1 m1 r1=>λ x dx hx hdx hne=>?_⟩;show spM X.K cl fn (.ref x::(vs++[])) _ _ E0;rw [Oi];exact D1 c m1 r1 hf (λ u θ2 F2 H2 p2 q2 m2 r2=>q u θ2 F2 H2 (p1.trans p2) (q1.trans q2) m2 r2) x dx hx hdx hne
theorem ME.make0 {k k' kc:Nat} {fa:NI} {fd:Oo} {ps:List Str} {x:Str} {ppos:Pos} {fn:List D->Sto->Option (D×Sto)} (c:Cls X.K (cl kc)) (M:Mk X.K (cl kc) fa) (G:FnOk X.prog X.w X.K X.mg X.base CX0 k fa fd ps (spM X.K cl fn)) (hr:Room k' X.A) (hkk:k+1<=k') (hm:X.mg x=some (.ref (cl kc))) (hb:Binds X.K fd ps [])
  (hg:Gl X x:=by rfl) (hdb:(x==("__debug__" : Str))=false:=by decide) :
  ME X cl (.Call (.Name x ppos) [] [] pos) (rT kc fn maN):=PE.imp (FU M G (hr.mono hkk) hg hm hb .nil xW hdb) λ σ H Q ⟨θ,F,w,d,s',m,v,hf,q⟩=>by
 obtain ⟨⟨ds,s1⟩,h1,hf⟩:=ab hf;cases h1;exact λ x dx hx hdx hne=>D1 c m .nil hf q x dx hx hdx hne
end
inductive MOut where
 | nx (w:Wd)
 | rt (d:D) (s:Sto)
 | bk (w:Wd)
 | ct (w:Wd)
section
variable (K:Ni) (cl:Nat->NI)
noncomputable def MNx (θ:List NI) (F:Hp) (N:St->Hp->Prop) (w:Wd):Prop:=∀ σ' θ' F' H',θ<+:θ'->Same F F'->MR K cl θ' F' H' w.s->MV K θ' F' σ' w.η->N σ' H'
noncomputable def MOk (θ:List NI) (F:Hp) (Z:Ends):MOut->Prop
 | .nx w=>MNx K cl θ F Z.nx w
 | .rt d s=>∀ v θ' F' H',θ<+:θ'->Same F F'->MR K cl θ' F' H' s->DR K θ' F' d v->Z.rt v H'
 | .bk w=>MNx K cl θ F Z.bk w
 | .ct w=>MNx K cl θ F Z.ct w
noncomputable def tMS (f:Wd->Option MOut):TS:=λ Z σ H=>∃ θ F w o,MR K cl θ F H w.s/\MV K θ F σ w.η/\f w=some o/\MOk K cl θ F Z o
end
noncomputable def MS (X:Cx) (cl:Nat->NI) (st:Stmt) (f:Wd->Option MOut):Prop:=PS X st (tMS X.K cl f)
noncomputable def MSs (X:Cx) (cl:Nat->NI) (st:List Stmt) (f:Wd->Option MOut):Prop:=PSs X st (tMS X.K cl f)
theorem MNx.up {K:Ni} {cl:Nat->NI} {θ θ1:List NI} {F F1:Hp} {N:St->Hp->Prop} {w:Wd} (h:MNx K cl θ F N w) (p:θ<+:θ1) (s:Same F F1):MNx K cl θ1 F1 N w:=λ σ' θ' F' H' p' s'=>h σ' θ' F' H' (p.trans p') (s.trans s')
theorem MOk.up {K:Ni} {cl:Nat->NI} {θ θ1:List NI} {F F1:Hp} {Z:Ends} {o:MOut} (h:MOk K cl θ F Z o) (p:θ<+:θ1) (s:Same F F1):MOk K cl θ1 F1 Z o:=by
 cases o with
 | nx w=>exact MNx.up h p s
 | rt d s2=>exact λ v θ' F' H' p' s'=>h v θ' F' H' (p.trans p') (s.trans s')
 | bk w=>exact MNx.up h p s
 | ct w=>exact MNx.up h p s
noncomputable def mNx:Wd->Option MOut:=λ w=>some (.nx w)
noncomputable def aV (f g:Wd->Option MOut):Wd->Option MOut:=λ w=>(f w).bind λ o=>match o with
 | .nx w'=>g w'
 | o=>some o
noncomputable def nX (f:MF):Wd->Option MOut:=λ w=>(f w).bind λ r=>some (.rt r.1 r.2)
noncomputable def mIf (c:MTF) (f g:Wd->Option MOut):Wd->Option MOut:=λ w=>(c w).bind λ r=>if r.1=true then f ⟨w.η,r.2⟩ else g ⟨w.η,r.2⟩
noncomputable def bU (i:Nat) (f:MF):Wd->Option MOut:=λ w=>(f w).bind λ r=>some (.nx ⟨w.η.set i (some r.1),r.2⟩)
noncomputable def iJ (f:MF):Wd->Option MOut:=λ w=>(f w).bind λ r=>some (.nx ⟨w.η,r.2⟩)
noncomputable def wP (f:Str) (v:D):List (Str×D)->List (Str×D)
 | []=>[(f,v)]
 | (g,x)::r=>if g=f then (g,v)::r else (g,x)::wP f v r
noncomputable def kJ (k:Nat) (nm:Str) (o e:MF):Wd->Option MOut:=λ w=>(e w).bind λ r=>(o ⟨w.η,r.2⟩).bind λ q=>match q.1 with
 | .r n=>(match q.2[n]? with
  | some (.obj k' fs)=>if k'=k/\fs.length < 999 then some (.nx ⟨w.η,q.2.set n (.obj k (wP nm r.1 fs))⟩) else none
  | _=>none)
 | _=>none
section
variable {X:Cx} {cl:Nat->NI} {st:Stmt} {sts sts':List Stmt} {u v:Wd->Option MOut} {a b c e o:Expr} {f g:MF} {p:MTF} {pos pos':Pos}
theorem gS:MSs X cl [] mNx:=PSs.imp DM λ Z σ H ⟨θ,F,w,o,m,v,hf,q⟩=>by
 cases hf;exact q σ θ F H (NY _) (.refl _) m v
theorem aw (h:MS X cl st u):MSs X cl [st] u:=DL h
theorem al (h:MS X cl st u) (k:MSs X cl sts v):MSs X cl (st::sts) (aV u v):=PSs.imp (BA h k) λ Z σ H ⟨θ,F,w,o,m,v,hf,q⟩=>by
 obtain ⟨o1,h1,hf⟩:=ab hf;refine ⟨θ,F,w,o1,m,v,h1,?_⟩;cases o1 with
 | nx w'=>exact λ σ' θ' F' H' p s m' v'=>⟨θ',F',w',o,m',v',hf,q.up p s⟩
 | rt d s=>cases hf; exact q
 | bk w'=>cases hf; exact q
 | ct w'=>cases hf; exact q
theorem MS.never:MS X cl st (λ _=>none):=PS.imp BB λ Z σ H ⟨θ,F,w,o,m,v,hf,q⟩=>by cases hf
theorem g9 (he:ME X cl e f):MS X cl (.Return (some e) pos) (nX f):=PS.imp (CN he) λ Z σ H ⟨θ,F,w,o,m,v,hf,q⟩=>by
 obtain ⟨⟨d,s⟩,h1,hf⟩:=ab hf;cases hf;exact ⟨θ,F,w,d,s,m,v,h1,q⟩
theorem gJ (he:ME X cl e f) (hs:swapsWith e none pos.line X.env=pure false:=by rfl):MS X cl (.Expr e pos) (iJ f):=PS.imp (An he hs) λ Z σ H ⟨θ,F,w,o,m,v,hf,q⟩=>by
 obtain ⟨⟨d,s⟩,h1,hf⟩:=ab hf;cases hf;exact ⟨θ,F,w,d,s,m,v,h1,λ u θ' F' H' p' s' m' _=>q σ θ' F' H' p' s' m' (v.mono p' s')⟩
theorem eE (hc:MT X cl c p) (ha:MSs X cl sts u) (hb:MSs X cl sts' v):MS X cl (.If c sts sts' pos) (mIf p u v):=PS.imp (Jx hc ha hb) λ Z σ H ⟨θ,F,w,o,m,v,hf,q⟩=>by
 obtain ⟨⟨b,s1⟩,h1,hf⟩:=ab hf;refine ⟨θ,F,w,b,s1,m,v,h1,λ θ' F' H' p' s' m'=>?_⟩;cases b with
 | false =>
  rw [if_neg NE] at hf ⊢;exact ⟨θ',F',⟨w.η,s1⟩,o,m',v.mono p' s',hf,q.up p' s'⟩
 | true =>
  rw [if_pos rfl] at hf ⊢;exact ⟨θ',F',⟨w.η,s1⟩,o,m',v.mono p' s',hf,q.up p' s'⟩
theorem bv (i:Nat) {x:Str} (hN:X.N.Nodup) (he:ME X cl e f) (hi:X.N[i]?=some x:=by rfl) (hx:Loc X.env.scope x:=by first | exact Or.inl rfl | exact Or.inr rfl) (hs:swapsWith e (some (.Name x pos')) pos.line X.env=pure false:=by rfl)
  (hf:X.fn x=true\/X.env.scope.names.lookup x=some .local:=by first | exact .inl rfl | exact .inr rfl):MS X cl (.Assign [.Name x pos'] e pos) (bU i f):=PS.imp (CM hN hi hx he hs hf) λ Z σ H ⟨θ,F,w,o,m,v,hf,q⟩=>by
 obtain ⟨⟨d,s⟩,h1,hf⟩:=ab hf;cases hf;exact ⟨θ,F,w,d,s,m,v,h1,λ u θ' F' H' p' s' m' r'=>q _ θ' F' H' p' s' m' ((v.mono p' s').set i r')⟩
theorem DRf.put {K:Ni} {θ:List NI} {F:Hp} {fs:List (Str×D)} {xs:List (Str×V)} (h:DRf K θ F fs xs) (f:Str) {d:D} {v:V} (r:DR K θ F d v):DRf K θ F (wP f d fs) (qb f v xs):=by
 induction h with
 | nil=>exact .cons ⟨rfl,r⟩ .nil
 | @cons a b as bs q t ih =>
  obtain ⟨ka,da⟩:=a;obtain ⟨kb,vb⟩:=b;have e:ka=kb:=q.1;subst e;unfold wP qb;by_cases hk:ka=f
  ·rw [if_pos hk,if_pos hk]; exact .cons ⟨rfl,r⟩ t
  ·rw [if_neg hk,if_neg hk]; exact .cons q ih
theorem vY {f:Str} {d:D}:∀ {fs:List (Str×D)} {g:Str},g∈(wP f d fs).map (·.1)->g=f\/g∈fs.map (·.1)
 | [],g,h=>.inl (by simpa [wP] using h)
 | (k,x)::r,g,h=>by
  unfold wP at h;by_cases hk:k=f
  ·rw [if_pos hk] at h;rcases NO.mp h with z | z
   ·exact .inr (by rw [z]; exact NJ)
   ·exact .inr (NA _ z)
  ·rw [if_neg hk] at h;rcases NO.mp h with z | z
   ·exact .inr (by rw [z]; exact NJ)
   ·rcases vY z with y | y
    ·exact .inl y
    ·exact .inr (NA _ y)
theorem fV {k:Nat} {nm:Str} (ho:ME X cl o g) (he:ME X cl e f) (hn:NoAttr X.K (cl k) nm) (hs:swapsWith e (some (.Attribute o nm pos')) pos.line X.env=pure false:=by rfl):MS X cl (.Assign [.Attribute o nm pos'] e pos) (kJ k nm g f) :=
 PS.imp (Ka ho he hs) λ Z σ H ⟨θ,F,w,o,m,v,hf,q⟩=>by
  obtain ⟨⟨d,s1⟩,h1,hf⟩:=ab hf;obtain ⟨⟨d2,s2⟩,h2,hf⟩:=ab hf;cases d2 with
  | d x=>cases hf
  | r n =>
   dsimp only at hf h2;split at hf
   ·rename_i k' fs hc;split at hf
    ·rename_i hk;cases hf;obtain ⟨hk1,hk2⟩:=hk;rw [hk1] at hc;refine ⟨θ,F,w,d,s1,m,v,h1,λ y θ1 F1 H1 p1 q1 m1 r1=>⟨θ1,F1,⟨w.η,s1⟩,.r n,s2,m1,v.mono p1 q1,h2,λ x θ2 F2 H2 p2 q2 m2 r2=>?_⟩⟩;obtain ⟨a,e1,rfl⟩:=r2;obtain ⟨c1,c2,c3,dx,xs,c4,c5⟩:=m2.cel n a _ e1 hc;have hl:xs.length < 1000:=by
      have:=Paired.length c5
      omega
     refine ⟨a,cl k,dx,xs,rfl,c4,c2,hn,hl,q _ θ2 F2 _ (p1.trans p2) (q1.trans q2) (m2.put e1 hc rfl ⟨c1,c2,λ f hf=>?_,dx,_,au,c5.put nm (r1.mono p2 q2)⟩) ((v.mono p1 q1).mono p2 q2)⟩;rcases vY hf with z | z
     ·rw [z]; exact hn
     ·exact c3 f z
    ·cases hf
   ·cases hf
end
noncomputable def cg (n m:Nat) (g:Wd->Option MOut):List D->Sto->Option (D×Sto):=λ ds s=>if ds.length=n then (g ⟨ds.map some++NV (m - n) none,s⟩).bind λ o=>match o with
 | .rt d s'=>some (d,s')
 | .nx w=>some (.d .none,w.s)
 | _=>none else none
section
variable {P:NT} {w:World} {K:Ni} {mg:Str->Option Nq} {base:Heap} {cl:Nat->NI}
theorem MV.start {θ:List NI} {F:Hp} {N:List Str} {ds:List D} {vs:List V} (r:DRs K θ F ds vs):MV K θ F (L2.start N vs) (ds.map some++NV (N.length - ds.length) none) where
 len:=by unfold L2.start; rw [Nn,Nn,Nl,Nl,OQ,OQ,Paired.length r]
 val:=λ i d e=>by
  unfold L2.start;by_cases hi:i < ds.length
  ·rw [Nm (by rw [Nl]; exact hi),NG] at e;rw [Nm (by rw [Nl,<- Paired.length r]; exact hi),NG];cases q:ds[i]? with
   | none=>rw [q] at e; cases e
   | some d' =>
    rw [q] at e
    have:d'=d:=Option.some.inj (Option.some.inj e)
    subst this;obtain ⟨x,e1,e2⟩:=r.get q;exact ⟨x,by rw [e1]; rfl,e2⟩
  ·rw [Nt (by rw [Nl]; omega),OJ] at e;split at e <;> cases e
theorem fnM {x qual:Str} {st:Stmt} {f:NI} {fd:Oo} {N ps:List Str} {k:Nat} {g:Wd->Option MOut} (Fn:Fun K x qual st f fd) (Sc:aE N ps (ah st))
  (hb:∀ (cdv:Nq) (A:Oh) (outer:List Env) (s:Nu) (H:Hp) (E:XK),Room k (A.deeper (envOfC qual (ah st) s.heap.objs.size f cdv)) ->
   MSs (Cf CX0 P w K mg base N qual (ah st) f cdv A outer s H E).nox cl (qo st) g) :
  FnOk P w K mg base CX0 (k+1) f fd ps (spM K cl (cg ps.length N.length g)):=by
 refine Fn.ok Sc (λ vs H Q E h=>?_) (λ cdv A outer s H vs Q E hr h=>?_)
 ·obtain ⟨θ,F,s,ds,d,s',_,r,e,_⟩:=h;unfold cg at e;split at e
  ·rename_i hl;rw [<- Paired.length r]; exact hl
  ·cases e
 ·obtain ⟨θ,F,s0,ds,d,s',m,r,e,q⟩:=h;refine ⟨_,hb cdv A outer s H E hr,?_⟩;unfold cg at e;split at e
  ·rename_i hl;obtain ⟨o,h1,e⟩:=ab e;have z:=MV.start (K:=K) (N:=N) r;rw [hl] at z;refine ⟨θ,F,⟨_,s0⟩,o,m,z,h1,?_⟩;cases o with
   | rt d' s2 =>
    cases e;exact q
   | nx w' =>
    cases e;exact λ σ' θ' F' H' p' s' m' _=>q .non θ' F' H' p' s' m' (show Rel K F' .none .non from tf)
   | bk w'=>cases e
   | ct w'=>cases e
  ·cases e
theorem KL {f:NI} {fd:Oo} {ps:List Str} {k:Nat}:FnOk P w K mg base CX0 k f fd ps (spM K cl (λ _ _=>none)) :=
 ⟨λ vs H Q E h=>(by obtain ⟨_,_,_,_,_,_,_,_,e,_⟩:=h; cases e),λ A outer s H args us vs Q E _ _ _ _ h=>(by obtain ⟨_,_,_,_,_,_,_,_,e,_⟩:=h; cases e)⟩
end
noncomputable def tMI (K:Ni) (cl:Nat->NI) (f:Wd->Option (List Nh×Sto)):TI:=λ σ H R=>∃ θ F w ds s',MR K cl θ F H w.s/\MV K θ F σ w.η/\f w=some (ds,s')/\∀ J θ' F' H',θ<+:θ'->Same F F'->MR K cl θ' F' H' s'->ItP K J F' ds->R J H'
noncomputable def MI (X:Cx) (cl:Nat->NI) (tg iter:Expr) (f:Wd->Option (List Nh×Sto)):Prop:=PI X tg iter (tMI X.K cl f)
noncomputable def iPu (f:En->Option (List Nh)):Wd->Option (List Nh×Sto):=λ w=>(f (vw w)).bind λ ds=>some (ds,w.s)
noncomputable def iM (f:MF):Wd->Option (List Nh×Sto):=λ w=>(f w).bind λ r=>match r.1 with | .d (.list ds)=>some (ds,r.2) | _=>none
noncomputable def back:List Nat->MEn->En->Option MEn
 | [],η,_=>some η
 | k::ks,η,ζ=>match ζ[k]? with | some (.val x)=>back ks (η.set k (some (.d x))) ζ | _=>none
noncomputable def mTg (ks:List Nat) (t:En->Nh->Option En) (w:Wd) (d:Nh):Option Wd:=(t (vw w) d).bind λ ζ=>(back ks w.η ζ).bind λ η=>some ⟨η,w.s⟩
noncomputable def mGo (ks:List Nat) (t:En->Nh->Option En) (body:Wd->Option MOut):List Nh->Wd->Option MOut
 | [],w=>some (.nx w)
 | d::ds,w=>(mTg ks t w d).bind λ w1=>(body w1).bind λ o=>match o with
  | .nx w2=>mGo ks t body ds w2
  | .ct w2=>mGo ks t body ds w2
  | .bk w2=>some (.nx w2)
  | .rt d s=>some (.rt d s)
noncomputable def tQ (ks:List Nat) (it:Wd->Option (List Nh×Sto)) (t:En->Nh->Option En) (body:Wd->Option MOut):Wd->Option MOut:=λ w=>(it w).bind λ r=>mGo ks t body r.1 ⟨w.η,r.2⟩
section
variable {X:Cx} {cl:Nat->NI} {tg iter e:Expr} {f:MF} {fi:En->Option (List Nh)} {pos:Pos}
theorem MI.pu (h:∀ B,I X B tg iter fi):MI X cl tg iter (iPu fi):=λ pins s σ H R I ⟨θ,F,w,ds,s',m,v,hf,q⟩=>by
 obtain ⟨x,hx,hf⟩:=ab hf;cases hf;exact h ⟨F,H⟩ pins s σ H R I ⟨F,vw w,_,m.vw v,hx,λ J F' H' g ip=>q J θ F' H' (NY _) g.ff (m.grow g) ip⟩
theorem MI.list (h:ME X cl e f):MI X cl tg e (iM f):=PI.imp (DN h) λ σ H R ⟨θ,F,w,ds,s',m,v,hf,q⟩=>by
 obtain ⟨⟨d,s1⟩,h1,hf⟩:=ab hf;dsimp only at hf;split at hf
 ·rename_i ys hd;cases hf;refine ⟨θ,F,w,_,_,m,v,h1,λ u θ' F' H' p' s' m' r'=>?_⟩;have r2:Rel X.K F' (.list ds) u:=r';obtain ⟨a,xs,rfl,hq,rs⟩:=r2.lst;exact ⟨a,rfl,⟨xs,m'.sm.seq hq⟩,q _ θ' F' H' p' s' m' (BZ hq rs)⟩
 ·cases hf
theorem Ba {K:Ni} {θ:List NI} {B:Bd} {F H:Hp} {σ':St} {ζ:En} (sr:SR K B F H σ' ζ):∀ (ks:List Nat) {η η':MEn},back ks η ζ=some η'->η.length=σ'.length ->
  (∀ (i:Nat) d,η[i]?=some (some d)->i∈ks\/∃ v,σ'[i]?=some (some v)/\DR K θ F d v)->MV K θ F σ' η'
 | [],η,η',h,hl,hv=>by
  cases h;exact ⟨hl,λ i d e=>(hv i d e).elim (λ z=>(by cases z)) id⟩
 | k::ks,η,η',h,hl,hv=>by
  unfold back at h;split at h
  ·rename_i x hx;refine Ba sr ks h (by rw [NC]; exact hl) λ i d e=>?_;by_cases hk:k=i
   ·subst hk;by_cases hlt:k < η.length
    ·rw [Nz hlt] at e;have e':D.d x=d:=Option.some.inj (Option.some.inj e);subst e';exact .inr (sr.en.val k x hx)
    ·rw [N3 (by rw [NC]; omega)] at e; cases e
   ·rw [Nj hk] at e;rcases hv i d e with z | z
    ·rcases NO.mp z with y | y
     ·exact absurd y.symm hk
     ·exact .inl y
    ·exact .inr z
  ·cases h
theorem Js {K:Ni} {cl:Nat->NI} {ks:List Nat} {gt:TG} {t:En->Nh->Option En} (ht:TgP K ks gt t) {θ:List NI} {F H:Hp} {σ:St} {w w1:Wd} {d:Nh} {x:V} (m:MR K cl θ F H w.s) (v:MV K θ F σ w.η) (rx:Rel K F d x) (h:mTg ks t w d=some w1) {Q:St->Hp->Prop}
  (q:∀ σ' F' H',Same F F'->MR K cl θ F' H' w1.s->MV K θ F' σ' w1.η->Q σ' H'):gt x σ H Q:=by
 obtain ⟨ζ,h1,h⟩:=ab h;obtain ⟨η,h2,h⟩:=ab h;cases h;refine ht ⟨F,H⟩ F H σ (vw w) d x ζ (m.vw v) rx h1 Q λ σ' F' H' sr g hl hn=>q σ' F' H' g.ff (m.grow g) (Ba sr ks h2 (by rw [v.len,hl]) λ i d' e=>?_);by_cases hi:i∈ks
 ·exact .inl hi
 ·obtain ⟨u,e1,e2⟩:=v.val i d' e;exact .inr ⟨u,by rw [hn i hi]; exact e1,e2.mono (NY _) g.ff⟩
theorem MS.for {body:List Stmt} {gt:TG} {ks:List Nat} {t:En->Nh->Option En} {fi:Wd->Option (List Nh×Sto)} {u:Wd->Option MOut} (hp:PassesOwn (N9 X.prog X.w) X.A X.env X.xe) (hc:X.calm=true) (hi:MI X cl tg iter fi) (hg:PG X tg gt) (ht:TgP X.K ks gt t) (hb:MSs X cl body u)
  (hs:∀ x,foldedSetIterable iter X.env x=pure x:=by intro _; rfl):MS X cl (.For tg iter body [] pos) (tQ ks fi t u):=PS.imp (FK hp hc hi hg hb hs) λ Z σ H ⟨θ,F,w,o,m,v,hf,q⟩=>by
 obtain ⟨⟨ds,s1⟩,h1,hd⟩:=ab hf;refine ⟨θ,F,w,ds,s1,m,v,h1,λ J θ1 F1 H1 p1 q1 m1 ip=>?_⟩;refine ⟨λ i n σ H=>n=ds.length - i/\i<=ds.length/\∃ θc Fc wc,θ1<+:θc/\Same F1 Fc/\MR X.K cl θc Fc H wc.s/\MV X.K θc Fc σ wc.η/\mGo ks t u (ds.drop i) wc=some o,⟨_,rfl,O5 _,θ1,F1,⟨w.η,s1⟩,NY _,.refl _,m1,v.mono p1 q1,by simpa using hd⟩,?_⟩
 rintro i n σc Hc ⟨rfl,hi,θc,Fc,wc,pc,sc,mc,vc,hgo⟩
 obtain ⟨ip1,ip2⟩:=ip Fc Hc i sc mc.sm;by_cases hlt:i < ds.length
 ·have e:ds[i]?=some ds[i]:=NQ hlt;obtain ⟨go,yl⟩:=ip1 _ e;rw [OX hlt] at hgo;unfold mGo at hgo;obtain ⟨w1,e1,hgo⟩:=ab hgo;obtain ⟨o1,e2,hgo⟩:=ab hgo;have cont:∀ (w2:Wd),mGo ks t u (ds.drop (i+1)) w2=some o->∀ σ' θ' F' H',θ1<+:θ'->Same F1 F'->MR X.K cl θ' F' H' w2.s->MV X.K θ' F' σ' w2.η ->
    ∃ n',n' < ds.length - i/\(λ i n σ H=>n=ds.length - i/\i<=ds.length/\∃ θc Fc wc,θ1<+:θc/\Same F1 Fc/\MR X.K cl θc Fc H wc.s/\MV X.K θc Fc σ wc.η/\mGo ks t u (ds.drop i) wc=some o) (i+1) n' σ' H':=λ w2 h2 σ' θ' F' H' p s m v =>
   ⟨ds.length - (i+1),by omega,rfl,hlt,θ',F',w2,p,s,m,v,h2⟩
  refine .inr ⟨go,λ σ' H'=>∃ n',n' < ds.length - i/\(λ i n σ H=>n=ds.length - i/\i<=ds.length/\∃ θc Fc wc,θ1<+:θc/\Same F1 Fc/\MR X.K cl θc Fc H wc.s/\MV X.K θc Fc σ wc.η/\mGo ks t u (ds.drop i) wc=some o) (i+1) n' σ' H',λ σ' H' n=>n,λ x H' y=>?_⟩;obtain ⟨F2,g2,rx⟩:=yl x H' y;refine Js ht (mc.grow g2) (vc.mono (NY _) g2.ff) rx e1 λ σ3 F3 H3 s3 m3 v3=>?_;refine ⟨θc,F3,w1,o1,m3,v3,e2,?_⟩;have s4:Same F1 F3:=sc.trans (g2.ff.trans s3);cases o1 with
  | nx w2=>exact λ σ' θ' F' H' p' s' m' v'=>cont w2 hgo σ' θ' F' H' (pc.trans p') (s4.trans s') m' v'
  | ct w2=>exact λ σ' θ' F' H' p' s' m' v'=>cont w2 hgo σ' θ' F' H' (pc.trans p') (s4.trans s') m' v'
  | bk w2 =>
   cases hgo;exact λ σ' θ' F' H' p' s' m' v'=>q σ' θ' F' H' (p1.trans (pc.trans p')) (q1.trans (s4.trans s')) m' v'
  | rt d s2 =>
   cases hgo;exact λ u θ' F' H' p' s' m' r'=>q u θ' F' H' (p1.trans (pc.trans p')) (q1.trans (s4.trans s')) m' r'
 ·have ei:i=ds.length:=by omega
  subst ei;rw [Ph] at hgo;cases hgo;exact .inl ⟨ip2 rfl,q σc θc Fc Hc (p1.trans pc) (q1.trans sc) mc vc⟩
end
section
variable {X:Cx} {cl:Nat->NI} {tg iter elt:Expr} {ifs:List Expr} {scope:Scope} {N':List Str} {mp:List (Option Nat)} {ks:List Nat} {gt:TG} {t:En->Nh->Option En} {fi:En->Option (List Nh)} {p:En->Option Bool} {f:En->Option Nh} {pos:Pos}
noncomputable def mC (fs:En->Option (List Nh)):MF:=λ w=>(fs (vw w)).bind λ xs=>some (.d (.list xs),w.s)
theorem MS.setC (i:Nat) {y:Str} {py spos:Pos} (hc:X.calm=true) (hN:X.N.Nodup) (ck:CompSc X scope N' mp) (ht:TgP X.K ks gt t) (hks:∀ k∈ks,mp[k]?=some none) (hi:∀ B,I X B tg iter fi)
  (hb:∀ B s H fp,PG (bZ X scope N' s H fp) tg gt/\Ts (bZ X scope N' s H fp) B ifs p/\E (bZ X scope N' s H fp) B elt f)
  (hiy:X.N[i]?=some y:=by rfl) (hy:X.env.scope.names.lookup y=some .local:=by rfl) (hsw:swapsWith (.ListComp elt [⟨tg,iter,ifs,0⟩] scope pos) (some (.Name y py)) spos.line X.env=pure true:=by rfl)
  (hs:∀ x,foldedSetIterable iter X.env x=pure x:=by intro _; rfl):MS X cl (.Assign [.Name y py] (.ListComp elt [⟨tg,iter,ifs,0⟩] scope pos) spos) (bU i (mC (bH mp fi t p f))):=λ pins s σ H Z I ⟨θ,F,w,o,m,v,hf,q⟩=>by
 obtain ⟨⟨d,s1⟩,h1,hf⟩:=ab hf;cases hf;obtain ⟨xs,hx,h1⟩:=ab h1;cases h1;refine uE (g:=gt) (tt:=tT X.K ⟨F,H⟩ p) (te:=tE X.K ⟨F,H⟩ f) hc hN hiy hy ck (hi ⟨F,H⟩) (hb ⟨F,H⟩) hsw hs pins s σ H Z I ?_;refine xD ht hks σ H _ ⟨F,vw w,xs,m.vw v,hx,λ p zs F' H' g hp fp hp' rs=>?_⟩;obtain ⟨g2,r2⟩:=D7 m.sm g hp fp hp' rs;exact q _ θ _ H' (NY _) g2.ff (m.grow g2) ((v.mono (NY _) g2.ff).set i r2)
end
noncomputable def pDs (s:Sto):List D->Option (List Nh)
 | []=>some []
 | d::r=>(pD s d).bind λ x=>(pDs s r).bind λ xs=>some (x::xs)
noncomputable def mCB (o:List Nh->Option Nh) (fs:MFs):MF:=λ w=>(fs w).bind λ r=>(pDs r.2 r.1).bind λ xs=>(o xs).bind λ x=>some (.d x,r.2)
section
variable {X:Cx} {cl:Nat->NI} {e:Expr} {es:List Expr} {fs:MFs} {pos pp:Pos}
theorem Az {K:Ni} {θ:List NI} {F H:Hp} {s:Sto} (m:MR K cl θ F H s) {ds:List D} {vs:List V} (h:DRs K θ F ds vs):∀ {xs:List Nh},pDs s ds=some xs->RelL K F xs vs:=by
 induction h with
 | nil=>intro xs e; cases e; exact .nil
 | @cons a b as bs r t ih =>
  intro xs e;unfold pDs at e;obtain ⟨x,h1,e⟩:=ab e;obtain ⟨zs,h2,e⟩:=ab e;cases e;exact .cons (vX m _ _ _ h1 r) (ih h2)
theorem Mq {r:List V->Hp->VK->Prop} {o:List Nh->Option Nh} (ad:AdA X.K r o):∀ σ H Q,tM X.K cl (mCB o fs) σ H Q->tCB r (tMA X.K cl fs) σ H Q:=λ σ H Q ⟨θ,F,w,d,s',m,v,hf,q⟩=>by
 obtain ⟨⟨ds,s1⟩,h1,hf⟩:=ab hf;obtain ⟨xs,h2,hf⟩:=ab hf;obtain ⟨x,h3,hf⟩:=ab hf;cases hf;exact ⟨θ,F,w,ds,_,m,v,h1,λ vs θ1 F1 H1 p1 q1 m1 r1=>ad F1 H1 vs xs x Q m1.sm (Az m1 r1 h2) h3 λ u F2 H2 g2 r2=>q u θ1 F2 H2 p1 (q1.trans g2.ff) (m1.grow g2) r2⟩
end
section
variable {X:Cx} {cl:Nat->NI} {a b:Expr} {f g:MF} {pos:Pos}
theorem MT.eq {k:Nat} (hr:Room k X.A) (ha:ME X cl a f) (hb:ME X cl b g):MT X cl (.Compare a [.Eq] [b] pos) (mB (mG pEq f g)):=MT.cmp (AE hr.units) Et (nomark b) ha hb
theorem ME.eq {k:Nat} (hr:Room k X.A) (ha:ME X cl a f) (hb:ME X cl b g):ME X cl (.Compare a [.Eq] [b] pos) (mG pEq f g):=ME.cmp (AE hr.units) Et (nomark b) ha hb
theorem MT.lt (ha:ME X cl a f) (hb:ME X cl b g):MT X cl (.Compare a [.Lt] [b] pos) (mB (mG pLt f g)):=MT.cmp BJ (vN λ _ _ _=>gp) (nomark b) ha hb
theorem MT.in (ha:ME X cl a f) (hb:ME X cl b g) (hm:Oa .In b=false:=by with_unfolding_all rfl):MT X cl (.Compare a [.In] [b] pos) (mB (mG (pIn false) f g)):=MT.cmp AD Ad hm ha hb
theorem ME.in (ha:ME X cl a f) (hb:ME X cl b g) (hm:Oa .In b=false:=by with_unfolding_all rfl):ME X cl (.Compare a [.In] [b] pos) (mG (pIn false) f g):=ME.cmp AD Ad hm ha hb
theorem MT.notIn (ha:ME X cl a f) (hb:ME X cl b g) (hm:Oa .NotIn b=false:=by with_unfolding_all rfl):MT X cl (.Compare a [.NotIn] [b] pos) (mB (mG (pIn true) f g)):=MT.cmp zL Ad hm ha hb
theorem ME.add (ha:ME X cl a f) (hb:ME X cl b g):ME X cl (.BinOp a .Add b pos) (mOp aM f g):=ME.op DX G5 ha hb
theorem ME.at (ha:ME X cl a f) (hb:ME X cl b g) (hs:vO b:=by intro _ _; rfl):ME X cl (.Subscript a b pos) (mOp pIx f g):=ME.ix GA JP ha hb hs
end
noncomputable def spL (K:Ni):Sp:=λ vs H Q _=>∃ (a:NI) (ns:List Int),vs=[.ref a]/\SqL K H a (ns.map V.int)/\ns.length<=63/\∀ H',Q (.bl true) H'
theorem HG {K:Ni} {cl:Nat->NI} {fn:List D->Sto->Option (D×Sto)} (main:∀ ns:List Int,ns.length<=63->∃ s',fn [.d (.list (ns.map NS))] []=some (.d (.bool true),s')):∀ vs H Q E,spL K vs H Q E->spM K cl fn vs H Q E:=λ vs H Q E ⟨a,ns,e,hS,hl,q⟩=>by
 subst e;obtain ⟨s',hm⟩:=main ns hl;exact ⟨[],H,[],[.d (.list (ns.map NS))],.d (.bool true),s',⟨.refl _,rfl,by simp,λ n a c h=>by simp at h⟩,.cons (show Rel K H (.list (ns.map NS)) (.ref a) from jO hS (RelL.ints ns)) .nil,hm,λ v θ' F' H' _ _ _ r=>by rw [(show Rel K F' (.bool true) v from r).bl]; exact q H'⟩
section
variable {X:Cx} {cl:Nat->NI} {e:Expr} {es:List Expr} {fs:MFs} {pos:Pos}
theorem ME.callP {k k':Nat} {fa:NI} {fd:Oo} {ps:List Str} {x:Str} {ppos:Pos} {fn:List Nh->Option Nh} (G:FnOk X.prog X.w X.K X.mg X.base CX0 k fa fd ps (spP X.K fn)) (hr:Room k' X.A) (hkk:k<=k') (hm:X.mg x=some (.ref fa)) (hk:OI X.K (.ref fa)=true) (hb:Binds X.K fd ps [])
  (ha:MA X cl (e::es) fs) (hg:Gl X x:=by rfl) (hdb:(x==("__debug__" : Str))=false:=by decide) (he:Nw (e::es) X.env=(false,eval e X.env)::Nw es X.env:=by exact aQ rfl) (hpl:(backTo pos (Nw es X.env)).any (·.1)=false:=by exact iK rfl) :
  ME X cl (.Call (.Name x ppos) (e::es) [] pos) (mCB fn fs):=PE.imp (Ap G (hr.mono hkk) hg hm hk hb .nil xW ha hdb he hpl) λ σ H Q ⟨θ,F,w,d,s',m,v,hf,q⟩=>by
 obtain ⟨⟨ds,s1⟩,h1,hf⟩:=ab hf;obtain ⟨xs,h2,hf⟩:=ab hf;obtain ⟨x,h3,hf⟩:=ab hf;cases hf;refine ⟨θ,F,w,ds,_,m,v,h1,λ vs θ1 F1 H1 p1 q1 m1 r1=>?_⟩;show spP X.K fn (vs++[]) H1 Q E0;rw [Oi];exact ⟨F1,xs,x,m1.sm,Az m1 r1 h2,h3,λ u F2 H2 g2 r2=>q u θ1 F2 H2 p1 (q1.trans g2.ff) (m1.grow g2) r2⟩
end
section
variable {w w1:Wd} {s s1 s2:Sto} {d d1 d2:D} {ds:List D} {n i k:Nat} {nm:Str}
theorem am {f g:Wd->Option MOut} {r:Option MOut} (h1:f w=some (.nx w1)) (h2:g w1=r):aV f g w=r:=by
 unfold aV;rw [h1]; exact h2
theorem AQ {f g:Wd->Option MOut} (h1:f w=some (.rt d s)):aV f g w=some (.rt d s):=by
 unfold aV;rw [h1]; rfl
theorem aO {f:MF} (h:f w=some (d,s)):bU i f w=some (.nx ⟨w.η.set i (some d),s⟩):=by
 unfold bU;rw [h]; rfl
theorem cM {f:MF} (h:f w=some (d,s)):nX f w=some (.rt d s):=by
 unfold nX;rw [h]; rfl
theorem f8 {f:MF} (h:f w=some (d,s)):iJ f w=some (.nx ⟨w.η,s⟩):=by
 unfold iJ;rw [h]; rfl
theorem aj {f:En->Option Nh} {x:Nh} (h:f (vw w)=some x):mP f w=some (.d x,w.s):=by
 unfold mP;rw [h]; rfl
theorem L8 {f:En->Option (List Nh)} {x:List Nh} (h:f (vw w)=some x):mC f w=some (.d (.list x),w.s):=by
 unfold mC;rw [h]; rfl
theorem eY {f:En->Option Bool} {b:Bool} (h:f (vw w)=some b):tPv f w=some (b,w.s):=by
 unfold tPv;rw [h]; rfl
theorem oJ {c:MTF} {f g:Wd->Option MOut} {r:Option MOut} (h:c w=some (true,s)) (h2:f ⟨w.η,s⟩=r):mIf c f g w=r:=by
 unfold mIf;rw [h]; exact h2
theorem jt {c:MTF} {f g:Wd->Option MOut} {r:Option MOut} (h:c w=some (false,s)) (h2:g ⟨w.η,s⟩=r):mIf c f g w=r:=by
 unfold mIf;rw [h]; exact h2
theorem pM {c:MTF} {f:Wd->Option MOut} (h:c w=some (false,s)):mIf c f mNx w=some (.nx ⟨w.η,s⟩):=jt h rfl
theorem bq:maN w=some ([],w.s):=rfl
theorem ax {f:MF} {fs:MFs} (h1:f w=some (d,s1)) (h2:fs ⟨w.η,s1⟩=some (ds,s2)):maC f fs w=some (d::ds,s2):=by
 unfold maC;rw [h1,Nk,h2]; rfl
theorem dP {fn:List D->Sto->Option (D×Sto)} {o:MF} {fs:MFs} {as:List (Str×D)} (h0:o w=some (.r n,s)) (hc:s[n]?=some (.obj k as)) (hl:as.lookup nm=none) (h1:fs ⟨w.η,s⟩=some (ds,s1)) (h2:fn (.r n::ds) s1=some (d,s2)):df k nm fn o fs w=some (d,s2):=by
 unfold df;rw [h0,Nk];dsimp only;rw [hc];dsimp only;rw [if_pos ⟨rfl,hl⟩,h1]; exact h2
theorem rS {fn:List D->Sto->Option (D×Sto)} {fs:MFs} (h1:fs w=some (ds,s)) (h2:fn (.r s.length::ds) (s++[.obj k []])=some (.d .none,s2)):rT k fn fs w=some (.r s.length,s2):=by
 unfold rT;rw [h1,Nk,h2]; rfl
theorem kX {o e:MF} {fs:List (Str×D)} (h1:e w=some (d,s1)) (h2:o ⟨w.η,s1⟩=some (.r n,s2)) (hc:s2[n]?=some (.obj k fs)) (hl:fs.length < 999):kJ k nm o e w=some (.nx ⟨w.η,s2.set n (.obj k (wP nm d fs))⟩):=by
 unfold kJ;rw [h1,Nk,h2,Nk];dsimp only;rw [hc];dsimp only;rw [if_pos ⟨rfl,hl⟩]
theorem uf {f:MF} {b:Bool} (h:f w=some (.d (.bool b),s)):mB f w=some (b,s):=by
 unfold mB;rw [h]; rfl
theorem qh {o:Nh->Nh->Option Nh} {f g:MF} {x y z:Nh} (h1:f w=some (d1,s1)) (h2:g ⟨w.η,s1⟩=some (d2,s2)) (hx:lD s2 d1=some x) (hy:lD s2 d2=some y) (ho:o x y=some z) (hf:kF z=true):mG o f g w=some (.d z,s2):=by
 unfold mG;rw [h1,Nk,h2,Nk,hx,Nk,hy,Nk,ho,Nk,if_pos hf]
theorem qg {o:Nh->Nh->Option Nh} {f g:MF} {x y z:Nh} (h1:f w=some (d1,s1)) (h2:g ⟨w.η,s1⟩=some (d2,s2)) (hx:pD s2 d1=some x) (hy:pD s2 d2=some y) (ho:o x y=some z):mOp o f g w=some (.d z,s2):=by
 unfold mOp;rw [h1,Nk,h2,Nk,hx,Nk,hy,Nk,ho,Nk]
theorem AS {o:List Nh->Option Nh} {fs:MFs} {xs:List Nh} {x:Nh} (h1:fs w=some (ds,s)) (h2:pDs s ds=some xs) (h3:o xs=some x):mCB o fs w=some (.d x,s):=by
 unfold mCB;rw [h1,Nk,h2,Nk,h3]; rfl
theorem fQ {a b:Nat} {g:Wd->Option MOut} (hl:ds.length=a) (h:g ⟨ds.map some++NV (b - a) none,s⟩=some (.rt d s1)):cg a b g ds s=some (d,s1):=by
 unfold cg;rw [if_pos hl,h]; rfl
theorem rR {a b:Nat} {g:Wd->Option MOut} (hl:ds.length=a) (h:g ⟨ds.map some++NV (b - a) none,s⟩=some (.nx w1)):cg a b g ds s=some (.d .none,w1.s):=by
 unfold cg;rw [if_pos hl,h]; rfl
theorem l9 {ks:List Nat} {it:Wd->Option (List Nh×Sto)} {t:En->Nh->Option En} {body:Wd->Option MOut} {xs:List Nh} {r:Option MOut} (h:it w=some (xs,s)) (h2:mGo ks t body xs ⟨w.η,s⟩=r):tQ ks it t body w=r:=by
 unfold tQ;rw [h]; exact h2
theorem sq {f:En->Option (List Nh)} {xs:List Nh} (h:f (vw w)=some xs):iPu f w=some (xs,w.s):=by
 unfold iPu;rw [h]; rfl
theorem Gn {x:Nh} (h:i < w.η.length):mTg [i] (tgN i) w x=some ⟨w.η.set i (some (.d x)),w.s⟩:=by
 have e:((vw w).set i (.val x))[i]?=some (.val x):=Nz (by unfold vw; rw [Nl]; exact h);show (some ((vw w).set i (.val x))).bind _=_;rw [Nk];unfold back;rw [e];rfl
theorem l8 {ι:Type} {ks:List Nat} {t:En->Nh->Option En} {body:Wd->Option MOut} (Z:ι->Nh) (Inv:List ι->Wd->Prop) (all:List ι)
  (st:∀ done x rest w,all=done++x::rest->Inv done w->∃ w1 w2,mTg ks t w (Z x)=some w1/\body w1=some (.nx w2)/\Inv (done++[x]) w2) {w:Wd} (h0:Inv [] w):∃ w',mGo ks t body (all.map Z) w=some (.nx w')/\Inv all w':=by
 have key:∀ (rest done:List ι) (w:Wd),all=done++rest->Inv done w->∃ w',mGo ks t body (rest.map Z) w=some (.nx w')/\Inv all w':=by
  intro rest
  induction rest with
  | nil=>intro done w e h; exact ⟨w,rfl,by rw [e,Oi]; exact h⟩
  | cons x r ih =>
   intro done w e h;obtain ⟨w1,w2,h1,h2,h3⟩:=st done x r w e h;obtain ⟨w',e1,e2⟩:=ih (done++[x]) w2 (by rw [e]; simp) h3;refine ⟨w',?_,e2⟩;rw [Ny];unfold mGo;rw [h1,Nk,h2,Nk];exact e1
 exact key all [] w rfl h0
theorem Af {g:D->Option Nh} {fs:List (Str×D)} (hc:s[n]?=some (.obj k fs)):vwS g s (some (.r n))=.ob λ f=>(fs.lookup f).bind g:=by
 unfold vwS;dsimp only;rw [hc]
end
noncomputable def zk (mp:List (Option Nat)) (η:MEn):MEn:=mp.map λ o=>o.bind λ j=>(η[j]?).join
noncomputable def AK (ks:List Nat) (t:En->Nh->Option En) (p:MTF) (f:MF) (n:Nat) (η:MEn):List Nh->Sto->Option Sto
 | [],s=>some s
 | d::ds,s=>(mTg ks t ⟨η,s⟩ d).bind λ w1=>(p w1).bind λ r=>if r.1=true then
   (f ⟨w1.η,r.2⟩).bind λ q=>match q.2[n]? with
    | some (.lst acc)=>if acc.length < No then AK ks t p f n η ds (q.2.set n (.lst (acc++[q.1]))) else none
    | _=>none
  else AK ks t p f n η ds r.2
noncomputable def mcL (mp:List (Option Nat)) (it:Wd->Option (List Nh×Sto)) (ks:List Nat) (t:En->Nh->Option En) (p:MTF) (f:MF):MF:=λ w=>(it w).bind λ r =>
 (AK ks t p f r.2.length (zk mp w.η) r.1 (r.2++[.lst []])).bind λ s=>some (.r r.2.length,s)
noncomputable def MTs (X:Cx) (cl:Nat->NI) (ifs:List Expr) (f:MTF):Prop:=PTs X ifs (tMT X.K cl f)
noncomputable def CG:MTF:=λ w=>some (true,w.s)
section
variable {X:Cx} {cl:Nat->NI} {tg iter elt c:Expr} {ifs:List Expr} {scope:Scope} {N':List Str} {mp:List (Option Nat)} {ks:List Nat} {gt:TG} {t:En->Nh->Option En} {fi:Wd->Option (List Nh×Sto)} {p:MTF} {f:MF} {pos:Pos}
theorem MTs.nil:MTs X cl [] CG:=λ pins s σ H Q I ⟨θ,F,w,b,s',m,v,hf,q⟩=>by
 cases hf;exact DI pins s σ H Q I (q θ F H (NY _) (.refl _) m)
theorem MTs.one (h:MT X cl c p):MTs X cl [c] p:=DH h
theorem uF {α β:Type} {R:α->β->Prop} {as:List α} {bs:List β} (h:Paired R as bs) {a:α} {b:β} (r:R a b):Paired R (as++[a]) (bs++[b]):=by
 induction h with
 | nil=>exact .cons r .nil
 | cons q _ ih=>exact .cons q ih
theorem nS {α β:Type} {R:α->β->Prop} {as:List α} {bs:List β} (h:Paired R as bs):as.length=bs.length:=by
 induction h with
 | nil=>rfl
 | cons q _ ih=>rw [NN,NN,ih]
theorem Iw {K:Ni} {θ:List NI} {F:Hp} {σ:St} {η:MEn} (v:MV K θ F σ η) (mp:List (Option Nat)):MV K θ F (ju mp σ) (zk mp η):=by
 refine ⟨by unfold zk ju; rw [Nl,Nl],λ i d e=>?_⟩;unfold zk at e;unfold ju;rw [NG] at e ⊢;cases hm:mp[i]? with
 | none=>rw [hm] at e; cases e
 | some o =>
  rw [hm] at e;have e':(o.bind λ j=>(η[j]?).join)=some d:=Option.some.inj e;cases o with
  | none=>cases e'
  | some j =>
   have e2:(η[j]?).join=some d:=e';cases hj:η[j]? with
   | none=>rw [hj] at e2; cases e2
   | some y =>
    rw [hj] at e2;have e3:y=some d:=e2;subst e3;obtain ⟨u,h1,h2⟩:=v.val j d hj;refine ⟨u,?_,h2⟩;show some ((σ[j]?).join)=some (some u);rw [h1]; rfl
theorem BT (ht:TgP X.K ks gt t) (hks:∀ k∈ks,mp[k]?=some none):∀ σ H Q,tM X.K cl (mcL mp fi ks t p f) σ H Q->Bp mp (tMI X.K cl fi) gt (tMT X.K cl p) (tM X.K cl f) σ H Q:=λ σ H Q ⟨θ,F,w,d,s',m,v,hf,q⟩=>by
 obtain ⟨⟨ds,s1⟩,h1,hf⟩:=ab hf;obtain ⟨s2,h2,hf⟩:=ab hf;cases hf;dsimp only at h2;refine ⟨θ,F,w,ds,s1,m,v,h1,λ J θ1 F1 H1 p1 q1 m1 ip D hD=>?_⟩;have kept:∀ {σ2:St},σ2.length=(ju mp σ).length->(∀ i,i∉ks->σ2[i]?=(ju mp σ)[i]?)->xG (ju mp σ) σ2:=λ {σ2} hl hn=>⟨hl,λ i v e=>by
  by_cases hi:i∈ks
  ·have z:=hks i hi;unfold ju at e;rw [NG,z] at e;cases e
  ·rw [hn i hi]; exact e⟩
 have v1:MV X.K θ1 F1 (ju mp σ) (zk mp w.η):=Iw (v.mono p1 q1) mp;have pD:θ1<+:θ1++[D]:=OP _ _;have mD:MR X.K cl (θ1++[D]) F1 (upd H1 D (.lst [])) (s1++[.lst []]):=m1.new hD ⟨m1.sm.free hD,[],au,.nil⟩;have hDn:∀ {θ'},(θ1++[D])<+:θ'->θ'[s1.length]?=some D:=λ {θ'} hp=>kO hp (by rw [<- m1.len,Nt (Np _),N5]; rfl);refine ⟨λ i k Hc=>k=ds.length - i/\i<=ds.length/\∃ θc Fc sc,(θ1++[D])<+:θc/\Same F1 Fc/\MR X.K cl θc Fc Hc sc/\AK ks t p f s1.length (zk mp w.η) (ds.drop i) sc=some s',⟨_,rfl,O5 _,θ1++[D],F1,_,NY _,.refl _,mD,by simpa using h2⟩,?_⟩
 rintro i k Hc ⟨rfl,hi,θc,Fc,sc,pc,fc,mc,hgo⟩
 obtain ⟨ip1,ip2⟩:=ip Fc Hc i fc mc.sm;by_cases hlt:i < ds.length
 ·have e:ds[i]?=some ds[i]:=NQ hlt;obtain ⟨go,yl⟩:=ip1 _ e;rw [OX hlt] at hgo;unfold AK at hgo;obtain ⟨w1,e1,hgo⟩:=ab hgo;obtain ⟨⟨ok,s3⟩,e2,hgo⟩:=ab hgo;dsimp only at hgo;refine .inr ⟨go,λ H'=>∃ m',m' < ds.length - i/\(m'=ds.length - (i+1)/\i+1<=ds.length/\∃ θc Fc sc,(θ1++[D])<+:θc/\Same F1 Fc/\MR X.K cl θc Fc H' sc/\AK ks t p f s1.length (zk mp w.η) (ds.drop (i+1)) sc=some s'),λ H' n=>n,λ x H' y=>?_⟩;obtain ⟨F2,g2,rx⟩:=yl x H' y;have m2:=mc.grow g2;have v2:MV X.K θc F2 (ju mp σ) (zk mp w.η):=v1.mono (pD.trans pc) (fc.trans g2.ff);obtain ⟨ζ,e3,e1⟩:=ab e1;obtain ⟨η1,e4,e1⟩:=ab e1;cases e1;refine ht ⟨F2,H'⟩ F2 H' (ju mp σ) _ _ x ζ (MR.vw (w:=⟨zk mp w.η,sc⟩) m2 v2) rx e3 _ λ σ3 F3 H3 sr3 g3 l3 n3=>⟨kept l3 n3,?_⟩;have m3:=m2.grow g3;have v3:MV X.K θc F3 σ3 η1:=Ba sr3 ks e4 (by rw [v2.len,l3]) λ i d' e=>by
   by_cases hi:i∈ks
   ·exact .inl hi
   ·obtain ⟨u,e1,e2⟩:=v2.val i d' e;exact .inr ⟨u,by rw [n3 i hi]; exact e1,e2.mono (NY _) g3.ff⟩
  have f3:Same F1 F3:=fc.trans (g2.ff.trans g3.ff);refine ⟨θc,F3,⟨η1,sc⟩,ok,s3,m3,v3,e2,λ θ4 F4 H4 p4 q4 m4=>?_⟩;cases ok with
  | false =>
   rw [if_neg NE] at hgo;rw [if_neg NE];exact ⟨_,by omega,rfl,hlt,θ4,F4,s3,pc.trans p4,f3.trans q4,m4,hgo⟩
  | true =>
   rw [if_pos rfl] at hgo;rw [if_pos rfl];obtain ⟨⟨d5,s5⟩,e5,hgo⟩:=ab hgo;refine ⟨θ4,F4,⟨η1,s3⟩,d5,s5,m4,v3.mono p4 q4,e5,λ u θ5 F5 H5 p5 q5 m5 r5=>?_⟩;dsimp only at hgo;split at hgo
   ·rename_i acc hacc;split at hgo
    ·rename_i hlen;have hp5:(θ1++[D])<+:θ5:=pc.trans (p4.trans p5);obtain ⟨z1,xs,z2,z3⟩:=m5.cel _ D _ (hDn hp5) hacc;refine ⟨xs,z2,by rw [<- nS z3]; exact hlen,_,by omega,rfl,hlt,θ5,F5,_,hp5,f3.trans (q4.trans q5),m5.put (c':=.lst (acc++[d5])) (hDn hp5) hacc rfl ⟨z1,xs++[u],au,uF z3 r5⟩,hgo⟩
    ·cases hgo
   ·cases hgo
 ·have ei:i=ds.length:=by omega
  subst ei;rw [Ph] at hgo;cases hgo;exact .inl ⟨ip2 rfl,q _ θc Fc Hc (p1.trans (pD.trans pc)) (q1.trans fc) mc ⟨D,hDn pc,rfl⟩⟩
theorem ME.lcomp (hc:X.calm=true) (ck:CompSc X scope N' mp) (ht:TgP X.K ks gt t) (hks:∀ k∈ks,mp[k]?=some none) (hi:MI X cl tg iter fi)
  (hb:∀ s H fp,PG (bZ X scope N' s H fp) tg gt/\MTs (bZ X scope N' s H fp) cl ifs p/\ME (bZ X scope N' s H fp) cl elt f)
  (hs:∀ x,foldedSetIterable iter X.env x=pure x:=by intro _; rfl):ME X cl (.ListComp elt [⟨tg,iter,ifs,0⟩] scope pos) (mcL mp fi ks t p f):=PE.imp (Ao hc ck hi hb hs) (BT ht hks)
theorem MS.setM (i:Nat) {y:Str} {py spos:Pos} (hc:X.calm=true) (hN:X.N.Nodup) (ck:CompSc X scope N' mp) (ht:TgP X.K ks gt t) (hks:∀ k∈ks,mp[k]?=some none) (hi:MI X cl tg iter fi)
  (hb:∀ s H fp,PG (bZ X scope N' s H fp) tg gt/\MTs (bZ X scope N' s H fp) cl ifs p/\ME (bZ X scope N' s H fp) cl elt f)
  (hiy:X.N[i]?=some y:=by rfl) (hy:X.env.scope.names.lookup y=some .local:=by rfl) (hsw:swapsWith (.ListComp elt [⟨tg,iter,ifs,0⟩] scope pos) (some (.Name y py)) spos.line X.env=pure true:=by rfl)
  (hs:∀ x,foldedSetIterable iter X.env x=pure x:=by intro _; rfl):MS X cl (.Assign [.Name y py] (.ListComp elt [⟨tg,iter,ifs,0⟩] scope pos) spos) (bU i (mcL mp fi ks t p f)):=PS.imp (uE hc hN hiy hy ck hi hb hsw hs) λ Z σ H ⟨θ,F,w,o,m,v,hf,q⟩=>by
 obtain ⟨⟨d,s⟩,h1,hf⟩:=ab hf;cases hf;exact BT ht hks σ H _ ⟨θ,F,w,d,s,m,v,h1,λ u θ' F' H' p' s' m' r'=>q _ θ' F' H' p' s' m' ((v.mono p' s').set i r')⟩
end
noncomputable def tPM (K:Ni) (cl:Nat->NI) (f:En->Option (Option Int)):TO:=λ σ H Q=>∃ θ F w o,MR K cl θ F H w.s/\MV K θ F σ w.η/\f (vw w)=some o/\∀ F' H',Same F F'->MR K cl θ F' H' w.s->Q o H'
noncomputable def mSl (f:MF) (fl fh:En->Option (Option Int)):MF:=λ w=>(f w).bind λ r=>(pD r.2 r.1).bind λ x=>(fl (vw ⟨w.η,r.2⟩)).bind λ l=>(fh (vw ⟨w.η,r.2⟩)).bind λ h=>(pSl x l h).bind λ z=>some (.d z,r.2)
section
variable {X:Cx} {cl:Nat->NI} {e:Expr} {f:MF} {pos p2:Pos} {lo hi:Option Expr} {fl fh:En->Option (Option Int)}
theorem LP {e:Option Expr} (h:∀ B,P X B e fl):PO X e (tPM X.K cl fl):=λ pins s σ H Q I ⟨θ,F,w,o,m,v,hf,q⟩ =>
 h ⟨F,H⟩ pins s σ H Q I ⟨F,vw w,o,m.vw v,hf,λ F' H' g=>q F' H' g.ff (m.grow g)⟩
theorem ME.sl (he:ME X cl e f) (hl:∀ B,P X B lo fl) (hu:∀ B,P X B hi fh):ME X cl (.Subscript e (.Slice lo hi none p2) pos) (mSl f fl fh):=PE.imp (BC LB he (LP (cl:=cl) hl) (LP (cl:=cl) hu)) λ σ H Q ⟨θ,F,w,d,s',m,v,hf,q⟩=>by
 obtain ⟨⟨d1,s1⟩,h1,hf⟩:=ab hf;obtain ⟨x,hx,hf⟩:=ab hf;obtain ⟨l,hl,hf⟩:=ab hf;obtain ⟨h,hh,hf⟩:=ab hf;obtain ⟨z,hz,hf⟩:=ab hf;cases hf;refine ⟨θ,F,w,d1,s1,m,v,h1,λ u θ1 F1 H1 p1 q1 m1 r1=>⟨θ1,F1,⟨w.η,s1⟩,l,m1,v.mono p1 q1,hl,λ F2 H2 q2 m2=>⟨θ1,F2,⟨w.η,s1⟩,h,m2,v.mono p1 (q1.trans q2),hh,λ F3 H3 q3 m3=>?_⟩⟩⟩;exact JN m3.sm (vX m3 _ _ _ hx (r1.mono (NY _) (q2.trans q3))) hz λ t F4 H4 g4 rt=>q t θ1 F4 H4 p1 (q1.trans (q2.trans (q3.trans g4.ff))) (m3.grow g4) rt
end
theorem Ku {w:Wd} {f:MF} {fl fh:En->Option (Option Int)} {d:D} {s:Sto} {x z:Nh} {l h:Option Int} (h1:f w=some (d,s)) (hx:pD s d=some x) (hl:fl (vw ⟨w.η,s⟩)=some l) (hh:fh (vw ⟨w.η,s⟩)=some h) (hz:pSl x l h=some z):mSl f fl fh w=some (.d z,s):=by
 unfold mSl;rw [h1,Nk,hx,Nk,hl,Nk,hh,Nk,hz]; rfl
noncomputable def mFz (f:MF):MF:=λ w=>(f w).bind λ r=>match r.1 with
 | .d x=>some (.d x,r.2)
 | .r n=>match r.2[n]? with
  | some (.lst ds)=>(tR ds).bind λ xs=>some (.d (.list xs),r.2.set n (.fz (.list xs)))
  | some (.fz x)=>some (.d x,r.2)
  | _=>none
noncomputable def Kv (c:MTF) (f g:MF):MF:=λ w=>(c w).bind λ r=>if r.1=true then f ⟨w.η,r.2⟩ else g ⟨w.η,r.2⟩
noncomputable def yo:MF:=λ w=>some (.r w.s.length,w.s++[.dct []])
section
variable {X:Cx} {cl:Nat->NI} {a b c e o:Expr} {es:List Expr} {f g:MF} {fs:MFs} {tc:MTF} {pos:Pos}
theorem CelR.frz {K:Ni} {θ:List NI} {F H:Hp} {a b:NI} {o:HO} {c:Cell} (h:CelR K cl θ F H b c) (hne:b≠a) (hF:F a=none):CelR K cl θ (upd F a o) H b c:=by
 have sn:Same F (upd F a o):=fZ hF o;cases c with
 | obj k fs=>obtain ⟨h1,h2,h3,dx,xs,h4,h5⟩:=h; exact ⟨by rw [aq hne]; exact h1,h2,h3,dx,xs,h4,h5.mono (NY _) sn⟩
 | lst ds=>obtain ⟨h1,xs,h4,h5⟩:=h; exact ⟨by rw [aq hne]; exact h1,xs,h4,h5.mono (NY _) sn⟩
 | dct kvs=>obtain ⟨h1,xs,h4,h5⟩:=h; exact ⟨by rw [aq hne]; exact h1,xs,h4,h5.mono (NY _) sn⟩
 | fz x=>exact ⟨Rel.mono sn h.1,h.2⟩
theorem MR.frz {K:Ni} {θ:List NI} {F H:Hp} {s:Sto} (m:MR K cl θ F H s) {n:Nat} {ad:NI} {ds:List D} {xs:List Nh} (e1:θ[n]?=some ad) (e2:s[n]?=some (.lst ds)) (hx:tR ds=some xs) :
  ∃ F',Same F F'/\MR K cl θ F' H (s.set n (.fz (.list xs)))/\Rel K F' (.list xs) (.ref ad):=by
 obtain ⟨h1,vs,h4,h5⟩:=m.cel n ad _ e1 e2;have sn:Same F (upd F ad (.lst vs)):=fZ h1 _;have rl:Rel K (upd F ad (.lst vs)) (.list xs) (.ref ad):=jO (SqL.of au) ((Ce h5 hx).mono sn);refine ⟨upd F ad (.lst vs),sn,⟨λ b u q=>?_,by rw [NC]; exact m.len,m.nd,λ k b c f1 f2=>?_⟩,rl⟩
 ·by_cases hb:b=ad
  ·subst hb; rw [au] at q; rw [<- q]; exact h4
  ·rw [aq hb] at q; exact m.sm b u q
 ·by_cases hk:n=k
  ·subst hk;rw [Nz (Nr.mp e2).1] at f2;cases f2;rw [e1] at f1;cases f1;exact ⟨rl,_,h4⟩
  ·rw [Nj hk] at f2;exact (m.cel k b c f1 f2).frz (JD m.nd f1 e1 (Ne.symm hk)) h1
theorem Mj:∀ σ H Q,tM X.K cl (mFz f) σ H Q->tM X.K cl f σ H Q:=λ σ H Q ⟨θ,F,w,d,s',m,v,hf,q⟩=>by
 obtain ⟨⟨d1,s1⟩,h1,hf⟩:=ab hf;refine ⟨θ,F,w,d1,s1,m,v,h1,λ u θ1 F1 H1 p1 q1 m1 r1=>?_⟩;cases d1 with
 | d x=>cases hf; exact q u θ1 F1 H1 p1 q1 m1 r1
 | r n =>
  dsimp only at hf;obtain ⟨ad,e1,rfl⟩:=r1;split at hf
  ·rename_i ds e2;obtain ⟨xs,hx,hf⟩:=ab hf;cases hf;obtain ⟨F2,sn,m2,rl⟩:=m1.frz e1 e2 hx;exact q _ θ1 F2 H1 p1 (q1.trans sn) m2 rl
  ·rename_i x e2;cases hf;exact q _ θ1 F1 H1 p1 q1 m1 (m1.cel n ad _ e1 e2).1
  ·cases hf
theorem ME.fz (h:ME X cl e f):ME X cl e (mFz f):=PE.imp h Mj
theorem ME.ifx (hc:MT X cl c tc) (ha:ME X cl a f) (hb:ME X cl b g):ME X cl (.IfExp c a b pos) (Kv tc f g):=PE.imp (BD hc ha hb) λ σ H Q ⟨θ,F,w,d,s',m,v,hf,q⟩=>by
 obtain ⟨⟨x,s1⟩,h1,hf⟩:=ab hf;refine ⟨θ,F,w,x,s1,m,v,h1,λ θ1 F1 H1 p1 q1 m1=>?_⟩;cases x with
 | true =>
  rw [if_pos rfl] at hf ⊢;exact ⟨θ1,F1,⟨w.η,s1⟩,d,s',m1,v.mono p1 q1,hf,λ u θ2 F2 H2 p2 q2 m2 r2=>q u θ2 F2 H2 (p1.trans p2) (q1.trans q2) m2 r2⟩
 | false =>
  rw [if_neg NE] at hf ⊢;exact ⟨θ1,F1,⟨w.η,s1⟩,d,s',m1,v.mono p1 q1,hf,λ u θ2 F2 H2 p2 q2 m2 r2=>q u θ2 F2 H2 (p1.trans p2) (q1.trans q2) m2 r2⟩
theorem Gf {θ:List NI} {s:Sto} {p:NI} (h:θ.length=s.length):(θ++[p])[s.length]?=some p:=by rw [<- h,Nt (Np _),N5]; rfl
theorem ME.dict0:ME X cl (.Dict [] [] pos) yo:=PE.imp BE λ σ H Q ⟨θ,F,w,d,s',m,v,hf,q⟩ p hp=>by
 cases hf;have pp:θ<+:θ++[p]:=OP _ _;exact q _ (θ++[p]) F _ pp (.refl _) (m.new hp ⟨m.sm.free hp,[],au,.nil⟩) ⟨p,Gf m.len,rfl⟩
end
noncomputable def zN (o g:MF):MF:=λ w=>(o w).bind λ r=>match r.1 with
 | .r n=>(match r.2[n]? with
  | some (.lst _)=>(g ⟨w.η,r.2⟩).bind λ q=>(pD q.2 q.1).bind λ x=>match x,q.2[n]? with
   | .list ys,some (.lst ds)=>if ds.length+ys.length<=No then some (.d .none,q.2.set n (.lst (ds++ys.map .d))) else none
   | _,_=>none
  | _=>none)
 | _=>none
noncomputable def rX (o g:MF):MF:=λ w=>(o w).bind λ r=>match r.1 with
 | .r n=>(match r.2[n]? with
  | some (.lst _)=>(g ⟨w.η,r.2⟩).bind λ q=>match q.2[n]? with
   | some (.lst ds)=>if ds.length < No then some (.d .none,q.2.set n (.lst (ds++[q.1]))) else none
   | _=>none
  | _=>none)
 | _=>none
section
variable {X:Cx} {cl:Nat->NI} {o e:Expr} {f g:MF} {apos cpos:Pos}
theorem wy {α β:Type} {R:α->β->Prop} {as as':List α} {bs bs':List β} (h:Paired R as bs) (h':Paired R as' bs'):Paired R (as++as') (bs++bs'):=by
 induction h with
 | nil=>exact h'
 | cons q _ ih=>exact .cons q ih
theorem ME.extC (ho:ME X cl o f) (he:ME X cl e g) (hbase:attributeBase o "extend" X.env (eval o X.env)=eval o X.env:=by rfl)
  (hfew:((backTo cpos (Nw [e] X.env)).all (λ x=>!x.1)&&(backToKw cpos (keywordEach [] X.env)).all (λ x=>x.1.isSome)
   && decide ([e].length+([]:List Keyword).length+(if ([]:List Keyword).isEmpty then 0 else 1) < 30))=true:=by rfl)
  (hline:(apos.endLine==cpos.line)=true:=by rfl) (hs:Nw [e] X.env=(false,eval e X.env)::Nw [] X.env:=by exact aQ rfl) (hplain:(backTo cpos (Nw [] X.env)).any (·.1)=false:=by rfl) :
  ME X cl (.Call (.Attribute o "extend" apos) [e] [] cpos) (zN f g) :=
 PE.imp (DP PySem.F.plainAttrs_list PySem.F.slot_list_extend PySem.F.type_list_extend D0 ho (ak he bu hs) hbase hfew hline hs hplain) λ σ H Q ⟨θ,F,w,d,s',m,v,hf,q⟩=>by
  obtain ⟨⟨d1,s1⟩,h1,hf⟩:=ab hf;cases d1 with
  | d x=>cases hf
  | r n =>
   dsimp only at hf;split at hf
   ·rename_i ds0 hc0;obtain ⟨⟨d2,s2⟩,h2,hf⟩:=ab hf;obtain ⟨x,hx,hf⟩:=ab hf;dsimp only at hf hx;split at hf
    ·rename_i ys ds hc;split at hf
     ·rename_i hl;cases hf;refine ⟨θ,F,w,_,s1,m,v,h1,λ u θ1 F1 H1 p1 q1 m1 r1=>?_⟩;obtain ⟨ad,z1,rfl⟩:=r1;obtain ⟨w1,xs0,w3,w4⟩:=m1.cel n ad _ z1 hc0;refine ⟨.inl ⟨rfl,xs0,SqL.of w3⟩,θ1,F1,⟨w.η,s1⟩,[d2],s2,m1,v.mono p1 q1,ax h2 bq,λ vs θ2 F2 H2 p2 q2 m2 r2=>?_⟩;cases r2 with
      | cons ra rn =>
       cases rn;have rx:=vX m2 _ _ _ hx ra;obtain ⟨b,zs,rfl,hq,r3⟩:=rx.lst;have z2:=kO p2 z1;obtain ⟨w5,xs,w6,w7⟩:=m2.cel n ad _ z2 hc;have hlx:=nS w7;refine ⟨ad,b,xs,zs,rfl,rfl,w6,m2.sm.seq hq,by rw [<- hlx,r3.length]; exact hl,?_⟩;exact q _ θ2 F2 _ (p1.trans p2) (q1.trans q2) (m2.put (c':=.lst (ds++ys.map .d)) z2 hc rfl ⟨w5,xs++zs,au,wy w7 (CK r3)⟩) (show Rel X.K F2 .none .non from tf)
     ·cases hf
    ·cases hf
   ·cases hf
theorem ME.appC (ho:ME X cl o f) (he:ME X cl e g) (hbase:attributeBase o "append" X.env (eval o X.env)=eval o X.env:=by rfl)
  (hfew:((backTo cpos (Nw [e] X.env)).all (λ x=>!x.1)&&(backToKw cpos (keywordEach [] X.env)).all (λ x=>x.1.isSome)
   && decide ([e].length+([]:List Keyword).length+(if ([]:List Keyword).isEmpty then 0 else 1) < 30))=true:=by rfl)
  (hline:(apos.endLine==cpos.line)=true:=by rfl) (hs:Nw [e] X.env=(false,eval e X.env)::Nw [] X.env:=by exact aQ rfl) (hplain:(backTo cpos (Nw [] X.env)).any (·.1)=false:=by rfl) :
  ME X cl (.Call (.Attribute o "append" apos) [e] [] cpos) (rX f g) :=
 PE.imp (DP PySem.F.plainAttrs_list PySem.F.slot_list_append PySem.F.type_list_append v9 ho (ak he bu hs) hbase hfew hline hs hplain) λ σ H Q ⟨θ,F,w,d,s',m,v,hf,q⟩=>by
  obtain ⟨⟨d1,s1⟩,h1,hf⟩:=ab hf;cases d1 with
  | d x=>cases hf
  | r n =>
   dsimp only at hf;split at hf
   ·rename_i ds0 hc0;obtain ⟨⟨d2,s2⟩,h2,hf⟩:=ab hf;dsimp only at hf;split at hf
    ·rename_i ds hc;split at hf
     ·rename_i hl;cases hf;refine ⟨θ,F,w,_,s1,m,v,h1,λ u θ1 F1 H1 p1 q1 m1 r1=>?_⟩;obtain ⟨ad,z1,rfl⟩:=r1;obtain ⟨w1,xs0,w3,w4⟩:=m1.cel n ad _ z1 hc0;refine ⟨.inl ⟨rfl,xs0,SqL.of w3⟩,θ1,F1,⟨w.η,s1⟩,[d2],s2,m1,v.mono p1 q1,ax h2 bq,λ vs θ2 F2 H2 p2 q2 m2 r2=>?_⟩;cases r2 with
      | @cons _ y _ _ ra rn =>
       cases rn;have z2:=kO p2 z1;obtain ⟨w5,xs,w6,w7⟩:=m2.cel n ad _ z2 hc;have hlx:=nS w7;refine ⟨ad,xs,y,rfl,rfl,w6,by rw [<- hlx]; exact hl,?_⟩;exact q _ θ2 F2 _ (p1.trans p2) (q1.trans q2) (m2.put (c':=.lst (ds++[d2])) z2 hc rfl ⟨w5,xs++[y],au,uF w7 ra⟩) (show Rel X.K F2 .none .non from tf)
     ·cases hf
    ·cases hf
   ·cases hf
end
theorem GO {X:Cx} {pins:List (NI×Obj)} {σ:St} {H:Hp} {s:Nu} {a:NI} {kvs:List (Key×V)} {k:Key} {u r:Nq} {z:V} {A:Oh} {E:Nq->Nu->Prop} {Q:Nq->Nu->Prop} (I:Inv X pins σ H s) (e:H a=some (.dK kvs)) (ry:RelV (kV k) u) (rz:RelV z r)
  (there:∀ v,nL kvs k=some v->∀ w' s',Inv X pins σ H s'->RelV v w'->Q w' s') (new:nL kvs k=none->kvs.length < No/\∀ s',Inv X pins σ (upd H a (.dK (o8 kvs k z))) s'->Q r s'):N7 (N9 X.prog X.w) A (call (.builtin "dict.setdefault") [.ref a,u,r]) Q E s:=by
 obtain ⟨zz,hd,vs,rel,dd⟩:=Eh I.hok e;refine call_meetsIn PySem.F.slot_dict_setdefault dd.typeIs PySem.F.entry_dict_setdefault (PySem.F.args_dict_setdefault_3 _ _ _) (PySem.kt_meets_setdefault (dk X.prog X.w) a (wG ry) hd r) ⟨vs,dd,by rw [<- rel.length]; exact zz,λ v hv=>?_,λ hn h' dd' hs=>?_⟩
 ·cases l:nL kvs k with
  | none =>
   have hn:valueAt vs k=none:=RelO.none_of (by rw [<- l]; exact rel.val k);rw [hn] at hv; cases hv
  | some x =>
   obtain ⟨w',hw,rw'⟩:=RelO.some_of (v:=x) (o:=valueAt vs k) (by rw [<- l]; exact rel.val k);rw [hw] at hv;cases hv;exact there x l _ _ (I.tok _) rw'
 ·cases l:nL kvs k with
  | some x =>
   obtain ⟨w',hw,rw'⟩:=RelO.some_of (v:=x) (o:=valueAt vs k) (by rw [<- l]; exact rel.val k);rw [hw] at hn; cases hn
  | none =>
   obtain ⟨hl,q⟩:=new l;have he:∃ q,h'.get? a=some q:=let ⟨q,_,_,hq,_⟩:=dd'; ⟨q,hq⟩;exact q _ (vG I (by rw [e]; exact True.intro) hs he (A0 (by have:=oT kvs k z; omega) hd (rel.put k rz) dd'))
noncomputable def MU (td ty tx:TE):TE:=λ σ H Q=>td σ H λ x H1=>∃ a,x=.ref a/\IsD H1 a/\ty σ H1 λ y H2=>tx σ H2 λ z H3=>∃ kvs k,H3 a=some (.dK kvs)/\y=kV k /\
 (∀ v,nL kvs k=some v->Q v H3)/\(nL kvs k=none->kvs.length < No/\Q z (upd H3 a (.dK (o8 kvs k z))))
theorem Kg {X:Cx} {o e f:Expr} {apos cpos:Pos} {td ty tx:TE} (ho:PE X o td) (he:PE X e ty) (hf:PE X f tx) (m:M2 X o "setdefault" apos e f cpos):PE X (.Call (.Attribute o "setdefault" apos) [e,f] [] cpos) (MU td ty tx):=by
 intro pins s σ H Q I h;refine wpAny_Call_method m.base m.few m.line PySem.F.plainAttrs_dict PySem.F.slot_dict_setdefault PySem.F.type_dict_setdefault (thn (ho pins s σ H _ I h) λ u s1 ⟨x,H1,I1,rx,a,ex,d,q1⟩=>?_);subst ex;obtain rfl:u=Value.ref a:=rx;obtain ⟨t1,t2,_⟩:=C5 I1 d;refine ⟨t1,t2,?_⟩;rw [m.trees];refine Calls.callWith_builtin rfl (Calls.evalArgs_plain (Calls.spliced_cons (thn (he pins s1 σ H1 _ I1 q1) λ iv s2 ⟨y,H2,I2,ry,q2⟩ =>
  Calls.spliced_cons (thn (hf pins s2 σ H2 _ I2 q2) λ fv s3 ⟨z,H3,I3,rz,kvs,k,ea,ey,q3,q4⟩=>Calls.spliced_nil ?_))))
 subst ey;exact GO I3 ea ry rz (λ v l w' s4 I4 rw'=>⟨v,H3,I4,rw',q3 v l⟩) λ l=>⟨(q4 l).1,λ s4 I4=>⟨z,_,I4,rz,(q4 l).2⟩⟩
noncomputable def xh:Nh->Option Key
 | .int i=>some (.inl i)
 | .str x=>some (.inr x)
 | _=>none
noncomputable def bI (kvs:List (Key×D)) (k:Key):Option D:=(kvs.find? λ kv=>decide (kv.1=k)).map (·.2)
theorem DRk.look {K:Ni} {θ:List NI} {F:Hp} {kvs:List (Key×D)} {vs:List (Key×V)} (h:DRk K θ F kvs vs) (k:Key):(∀ d,bI kvs k=some d->∃ v,nL vs k=some v/\DR K θ F d v)/\(bI kvs k=none->nL vs k=none):=by
 induction h with
 | nil=>exact ⟨λ d e=>(by cases e),λ _=>rfl⟩
 | @cons a b as bs r t ih =>
  by_cases hk:a.1=k
  ·have hb:b.1=k:=by rw [<- r.1]; exact hk
   have e1:bI (a::as) k=some a.2:=by simp [bI,OD,hk]
   rw [e1,uV hb];exact ⟨λ d e=>(by cases e; exact ⟨_,rfl,r.2⟩),λ e=>(by cases e)⟩
  ·have hb:¬ b.1=k:=by rw [<- r.1]; exact hk
   have e1:bI (a::as) k=bI as k:=by simp [bI,OD,hk]
   rw [e1,uW hb];exact ih
theorem FG {kvs:List (Key×V)} {k:Key} {z:V} (h:nL kvs k=none):o8 kvs k z=kvs++[(k,z)]:=by
 unfold o8;rw [if_neg];intro hc;obtain ⟨p,hp,hk⟩:=OM.mp hc;unfold nL at h;rw [Option.map_eq_none_iff] at h;exact absurd hk (List.find?_eq_none.mp h p hp)
noncomputable def Go (o g f:MF):MF:=λ w=>(o w).bind λ r=>match r.1 with
 | .r n=>(match r.2[n]? with
  | some (.dct _)=>(g ⟨w.η,r.2⟩).bind λ q=>match q.1 with
   | .d x=>(xh x).bind λ k=>(f ⟨w.η,q.2⟩).bind λ z=>match z.2[n]? with
    | some (.dct kvs)=>(match bI kvs k with
     | some d=>some (d,z.2)
     | none=>if kvs.length < No then some (z.1,z.2.set n (.dct (kvs++[(k,z.1)]))) else none)
    | _=>none
   | _=>none
  | _=>none)
 | _=>none
theorem ME.setdef {X:Cx} {cl:Nat->NI} {o e c:Expr} {f g h:MF} {apos cpos:Pos} (ho:ME X cl o f) (he:ME X cl e g) (hc:ME X cl c h) (mm:M2 X o "setdefault" apos e c cpos:=by exact ⟨rfl,rfl,rfl,rfl⟩) :
  ME X cl (.Call (.Attribute o "setdefault" apos) [e,c] [] cpos) (Go f g h):=PE.imp (Kg ho he hc mm) λ σ H Q ⟨θ,F,w,d,s',m,v,hf,q⟩=>by
 obtain ⟨⟨d1,s1⟩,h1,hf⟩:=ab hf;cases d1 with
 | d x=>cases hf
 | r n =>
  dsimp only at hf;split at hf
  ·rename_i kv0 hc0;obtain ⟨⟨d2,s2⟩,h2,hf⟩:=ab hf;cases d2 with
   | r n2=>cases hf
   | d x =>
    dsimp only at hf;obtain ⟨k,hk,hf⟩:=ab hf;obtain ⟨⟨d3,s3⟩,h3,hf⟩:=ab hf;dsimp only at hf;split at hf
    ·rename_i kvs hc3;refine ⟨θ,F,w,_,s1,m,v,h1,λ u θ1 F1 H1 p1 q1 m1 r1=>?_⟩;obtain ⟨ad,z1,rfl⟩:=r1;obtain ⟨w1,ks0,w3,w4⟩:=m1.cel n ad _ z1 hc0;refine ⟨ad,rfl,.inl ⟨ks0,.inl w3⟩,θ1,F1,⟨w.η,s1⟩,.d x,s2,m1,v.mono p1 q1,h2,λ u2 θ2 F2 H2 p2 q2 m2 r2=>?_⟩;refine ⟨θ2,F2,⟨w.η,s2⟩,d3,s3,m2,v.mono (p1.trans p2) (q1.trans q2),h3,λ u3 θ3 F3 H3 p3 q3 m3 r3=>?_⟩;have z3:=kO p3 (kO p2 z1);obtain ⟨w5,ks,w6,w7⟩:=m3.cel n ad _ z3 hc3;have ey:u2=kV k:=by
      cases x <;> simp only [xh,Option.some.injEq,reduceCtorEq] at hk
      ·subst hk; exact (show Rel X.K F2 (.int _) u2 from r2).int
      ·subst hk; exact (show Rel X.K F2 (.str _) u2 from r2).str
     refine ⟨ks,k,w6,ey,λ vv hv=>?_,λ hn=>?_⟩
     ·cases l:bI kvs k with
      | none=>rw [(w7.look k).2 l] at hv; cases hv
      | some dd =>
       rw [l] at hf;cases hf;obtain ⟨v',e1,e2⟩:=(w7.look k).1 _ l;rw [hv] at e1;cases e1;exact q _ θ3 F3 H3 (p1.trans (p2.trans p3)) (q1.trans (q2.trans q3)) m3 e2
     ·cases l:bI kvs k with
      | some dd =>
       obtain ⟨v',e1,_⟩:=(w7.look k).1 _ l;rw [hn] at e1; cases e1
      | none =>
       rw [l] at hf;dsimp only at hf;split at hf
       ·rename_i hl;cases hf;rw [FG hn];refine ⟨by rw [<- nS w7]; exact hl,q _ θ3 F3 _ (p1.trans (p2.trans p3)) (q1.trans (q2.trans q3)) (m3.put (c':=.dct (kvs++[(k,d)])) z3 hc3 rfl ⟨w5,ks++[(k,u3)],au,uF w7 ⟨rfl,r3⟩⟩) r3⟩
       ·cases hf
    ·cases hf
  ·cases hf
noncomputable def Kw (f g:MF):MF:=λ w=>(f w).bind λ r=>match r.1 with | .d x=>(asB x).bind λ c=>if c=true then g ⟨w.η,r.2⟩ else some (.d (.bool false),r.2) | _=>none
section
variable {X:Cx} {cl:Nat->NI} {a b e:Expr} {rest es:List Expr} {f g:MF} {fs:MFs} {pos pp:Pos}
theorem ME.one {op} (ha:ME X cl a f):ME X cl (.BoolOp op [a] pos) f:=FS ha
theorem ME.and (ha:ME X cl a f) (hb:ME X cl (.BoolOp .And (b::rest) pos) g):ME X cl (.BoolOp .And (a::b::rest) pos) (Kw f g):=PE.imp (FY ha hb) λ σ H Q ⟨θ,F,w,d,s',m,v,hf,q⟩=>by
 obtain ⟨⟨d1,s1⟩,h1,hf⟩:=ab hf;cases d1 with
 | r n=>cases hf
 | d x =>
  dsimp only at hf;obtain ⟨c,hc,hf2⟩:=ab hf;clear hf;obtain rfl:=mO hc;have hf:=hf2;clear hf2;refine ⟨θ,F,w,_,s1,m,v,h1,λ u θ1 F1 H1 p1 q1 m1 r1=>⟨c,(show Rel X.K F1 (.bool c) u from r1).bl,?_⟩⟩;cases c with
  | false =>
   rw [if_neg NE] at hf ⊢;cases hf;exact q _ θ1 F1 H1 p1 q1 m1 (show Rel X.K F1 (.bool false) _ from gp)
  | true =>
   rw [if_pos rfl] at hf ⊢;exact ⟨θ1,F1,⟨w.η,s1⟩,d,s',m1,v.mono p1 q1,hf,λ u θ2 F2 H2 p2 q2 m2 r2=>q u θ2 F2 H2 (p1.trans p2) (q1.trans q2) m2 r2⟩
end
section
variable {X:Cx} {cl:Nat->NI} {tg e:Expr} {f:MF} {pos:Pos}
noncomputable def ER (ks:List Nat) (f:MF) (t:En->Nh->Option En):Wd->Option MOut:=λ w=>(f w).bind λ r=>match r.1 with | .d d=>(mTg ks t ⟨w.η,r.2⟩ d).bind λ w'=>some (.nx w') | _=>none
theorem MS.unp {gt:TG} {ks:List Nat} {t:En->Nh->Option En} (he:ME X cl e f) (hg:PG X tg gt) (ht:TgP X.K ks gt t) (hs:swapsWithSole [tg] e pos.line X.env=pure false:=by rfl) (hw:swappedStores [tg] e X.env=pure none:=by rfl)
  (h1:(assignEach [tg] X.env).map (·.2)=[assign tg X.env]:=by rfl):MS X cl (.Assign [tg] e pos) (ER ks f t) :=
 PS.imp (Kb he hg hs hw h1) λ Z σ H ⟨θ,F,w,o,m,v,hf,q⟩=>by
  obtain ⟨⟨d,s1⟩,h2,hf⟩:=ab hf;dsimp only at hf;split at hf
  ·rename_i dd;obtain ⟨w',h3,hf⟩:=ab hf;cases hf;refine ⟨θ,F,w,.d dd,s1,m,v,h2,λ u θ' F' H' p' s' m' r'=>?_⟩;exact Js (w:=⟨w.η,s1⟩) ht m' (v.mono p' s') r' h3 λ σ2 F2 H2 sm mr mv=>q σ2 θ' F2 H2 p' (s'.trans sm) mr mv
  ·cases hf
theorem Iz {w w':Wd} {ks:List Nat} {t:En->Nh->Option En} {d:Nh} {s1:Sto} (h1:f w=some (.d d,s1)) (h2:mTg ks t ⟨w.η,s1⟩ d=some w'):ER ks f t w=some (.nx w'):=by
 unfold ER;rw [h1,Nk];dsimp only;rw [h2]; rfl
end
structure Fly (P:NT) (w:World) (outer:List Env) (H:Hp) (s:Nu) (a C:NI) (H':Hp) (s':Nu):Prop where
 os:s'.os=s.os
 bare:AllBare s'.gens
 un:Un (frs outer) [] H H' s.heap s'.heap
 hok:HOk P w H' s'.heap
 nofr:∀ b∈frs outer,H' b=none
 fly:∃ (B:Heap) (t:NI),Heap.FlyingW B outer a (.ref C) (.ref t) s'.heap/\∀ b o,s'.heap.get? b=some o->((∃ u,H' b=some u)\/∃ o₀,s.heap.get? b=some o₀)->b∉frs outer->B.get? b=some o
section
variable {X:Cx} {B:Bd} {W:Nat->Hp->Prop} {ca:Nat->NI}
variable {st:Stmt} {sts sts':List Stmt} {e a b:Expr} {es:List Expr} {f:En->Option Nh} {fs:En->Option (List Nh)} {g g':En->Option Nat} {u:En->Option Out} {p:En->Option Bool} {pos pos':Pos}
end
section
variable {X:Cx} {B:Bd} {W:Nat->Hp->Prop} {ca:Nat->NI} {e a b c:Expr} {f:En->Option Nh} {p q r:En->Bool} {pos pos':Pos}
end
noncomputable abbrev M8:List Nq:=[.type "ValueError", .type "Exception", .type "BaseException", .type "object"]
structure XCls (K:Ni) (D:NI):Prop where
 ex:PySem.W.excIn K D M8 "ValueError.__new__" = true
 ga:Op K (.ref D) "__getattribute__" = some (some (.builtin "BaseException.__getattribute__"))
 gt:Op K (.ref D) "__getattr__" = some none
 cl:Op K (.ref D) "__class__" = some (some (.builtin "object.__class__"))
 gg:PySem.W.specialIn K (.builtin "object.__class__") "__get__" = some (some (.builtin "getset_descriptor.__get__"))
 tk:PySem.W.takesIn K (.builtin "object.__class__")=some true
 mb:PySem.W.mroIn K D (.type "BaseException")=some true
 mo:PySem.W.mroIn K D (.type "object")=some true
section
variable {P:NT} {w:World} {A:Oh} {Z:Nq->Nu->Prop} {s:Nu} {K:Ni} {x D:NI}
end
section
variable {X:Cx} {pos pp ep tp:Pos} {en T:Str}
end
structure Mw (k:Nat) (A:Oh):Prop where
 dp:A.depth+3*k+5 < recursionLimit
 un:A.units+16*k+200 < cLine
noncomputable abbrev Cx.at (X:Cx) (A:Oh):Cx:={ X with A:=A,calm:=false,xe:=λ _ _=>False }
noncomputable abbrev SpC:=List V->Hp->VK->Prop
structure FnC (P:NT) (w:World) (K:Ni) (mg:Str->Option Nq) (base:Heap) (k:Nat) (f:NI) (fd:Oo) (ps:List Str) (sp:SpC):Prop where
 len:∀ vs H Q,sp vs H Q->vs.length=ps.length
 run:∀ (A:Oh) (outer:List Env) (s:Nu) (H:Hp) (us:List Nq) (vs:List V) (Q:VK),Mw k A->Env0 P w K mg base A outer s H->BindsTo s fd ⟨us,[]⟩ (ps.zip us)->Vals vs us->sp vs H Q ->
  codeAny (N9 P w) A (.call (.ref f) ⟨us,[]⟩) (CR CX0 outer P w H s Q E0) s
structure Refs (K:Ni) (ca:Nat->NI):Prop where
 xc:∀ c,c < 4->XCls K (ca c)
 kit:∀ c i,c < 4->i < 4->PySem.W.kitOne K (.ref (ca c)) (.ref (ca i))=some (decide (c=i))
 val:∀ c,c < 4->PySem.W.kitOne K (.ref (ca c)) (.type "ValueError")=some true
section
variable (K:Ni) (cl:Nat->NI) (W:Nat->Hp->Prop)
end
noncomputable abbrev MXF:=Wd->Option (Nat×Sto)
section
variable {X:Cx} {cl:Nat->NI} {W:Nat->Hp->Prop} {ca:Nat->NI} {st:Stmt} {sts sts':List Stmt} {e o:Expr} {es:List Expr} {u:Wd->Option MOut} {f:MF} {fs:MFs} {g g':MXF} {px:En->Option Nat} {p:MTF} {pos pos':Pos}
end
noncomputable def zM (fs:MFs):MF:=λ w=>(fs w).bind λ r=>(pDs r.2 r.1).bind λ xs=>if xs.length<=No then some (.d (.tuple xs),r.2) else none
section
variable {X:Cx} {cl:Nat->NI} {o e:Expr} {f:MF} {apos cpos pos pp:Pos}
theorem ME.tupM {x1} {es:List Expr} {fs:MFs} (h:MA X cl es fs):ME X cl (.Tuple es x1 pos) (zM fs):=PE.imp (FQ h) λ σ H Q ⟨θ,F,w,d,s',m,v,hf,q⟩=>by
 obtain ⟨⟨ds,s1⟩,h1,hf⟩:=ab hf;obtain ⟨xs,h2,hf⟩:=ab hf;split at hf
 ·rename_i hl;cases hf;refine ⟨θ,F,w,ds,_,m,v,h1,λ vs θ1 F1 H1 p1 q1 m1 r1=>?_⟩;have rs:=Az m1 r1 h2;refine ⟨by rw [rs.length]; exact hl,λ p hp=>?_⟩;have g2:Gr F1 H1 (upd F1 p (.tup vs)) (upd H1 p (.tup vs)):=Gr.one m1.sm hp;exact q _ θ1 _ _ p1 (q1.trans g2.ff) (m1.grow g2) (show Rel X.K _ (.tuple xs) (.ref p) from jc (SqT.of au) (rs.mono g2.ff))
 ·cases hf
end
section
variable {X:Cx} {tg a b c:Expr} {B:Bd} {fs:En->Option (List Nh)} {pos:Pos}
end
section
variable {X:Cx} {cl:Nat->NI} {tg a b e:Expr} {f g:MF} {pos:Pos}
noncomputable def iMT (f:MF):Wd->Option (List Nh×Sto):=λ w=>(f w).bind λ r=>match r.1 with | .d (.tuple ds)=>some (ds,r.2) | _=>none
theorem MI.tup (h:ME X cl e f):MI X cl tg e (iMT f):=PI.imp (FO h) λ σ H R ⟨θ,F,w,ds,s',m,v,hf,q⟩=>by
 obtain ⟨⟨d,s1⟩,h1,hf⟩:=ab hf;dsimp only at hf;split at hf
 ·rename_i ys hd;cases hf;refine ⟨θ,F,w,_,_,m,v,h1,λ u θ' F' H' p' s' m' r'=>?_⟩;have r2:Rel X.K F' (.tuple ds) u:=r';obtain ⟨a,xs,rfl,hq,rs⟩:=r2.tup;exact ⟨a,rfl,⟨xs,dt m'.sm hq⟩,q _ θ' F' H' p' s' m' (Ea hq rs)⟩
 ·cases hf
theorem ME.sub (ha:ME X cl a f) (hb:ME X cl b g):ME X cl (.BinOp a .Sub b pos) (mOp wS f g):=ME.op F9 (vN λ _ _ _=>cz) ha hb
end
theorem CU {α β:Type} {R:α->β->Prop} {as:List α} {bs:List β} (h:Paired R as bs) {i:Nat} {b:β} (e:bs[i]?=some b):∃ a,as[i]?=some a/\R a b:=by
 induction h generalizing i with
 | nil=>simp at e
 | @cons a b as bs r t ih =>
  cases i with
  | zero=>simp at e; subst e; exact ⟨a,rfl,r⟩
  | succ i=>exact ih (by simpa using e)
theorem yD:entryFor table "dict_itemiterator.__iter__" = some Builtin.«dict_keyiterator.__iter__»:=entryFor_alias (id' := "dict_keyiterator.__iter__") (by kernel_rfl) rfl (by decide +kernel) (by kernel_rfl)
theorem qN {prog:NT} {w:World} {A:Oh} {E:Nq->Nu->Prop} {s:Nu} {it d:NI} {i n ep:Nat} {ok ov:Nq} {Q:Nq->Nu->Prop} (hit:IsItemIter s.heap it d i n ep ok ov) (h:Q (.ref it) s):N7 (N9 prog w) A (pyIter (.ref it)) Q E s:=by
 have hT:s.TypeIs (.ref it) "dict_itemiterator" := ⟨_,hit,rfl⟩;refine wpAny_pyIter_slot hT PySem.F.slot_dict_itemiterator_iter (wpAny_call_entry PySem.F.slot_dict_itemiterator_iter hT yD ?_ (PySem.F.args_dict_itemiterator_iter_1 _));show N7 _ _ (ret (.ref it)) _ _ s;exact NR ⟨_,rfl, "dict_itemiterator", _,hT,PySem.F.slot_dict_itemiterator_next.lookup,h⟩
noncomputable def Iti (p:NI) (ob:Obj) (ks:List (Key×V)):It :=
 ⟨λ i H=>i < ks.length/\H p=some (.frz ob (.dK ks)),λ i H v H'=>∃ T k x,H T=none/\ks[i]?=some (k,x)/\v=.ref T/\H'=upd H T (.tup [kV k,x]),λ i H=>i=ks.length/\H p=some (.frz ob (.dK ks))⟩
theorem CD {P:NT} {w:World} {K:Ni} {elts:List Expr} {kk:Nat} {tp:Pos} (it p:NI) (ob:Obj) (ks:List (Key×V)) {es:Array DictEntry} {ep:Nat} (hd:ob.data=.dict es ep) :
  Turn P w K (.Tuple elts kk tp) (Iti p ob ks) [it] it (λ i h=>∃ ok ov,IsItemIter h it p i ks.length ep ok ov) where
 mem:=by simp
 obj:=λ i h st b hb=>by
  rw [NF.mp hb];obtain ⟨ok,ov,he⟩:=st;exact ⟨_,he,λ v z=>by cases z⟩
 keep:=λ i h h' st k=>by
  obtain ⟨ok,ov,he⟩:=st;exact ⟨ok,ov,k it (by simp) _ he⟩
 item:=by
  intro X hP hw hK hc i pins s σ H E I hf st hg;subst hP hw hK;obtain ⟨hi,hH⟩:=hg;obtain ⟨f0,f1,f2,f3,f4,f5⟩:=hf it (by simp);obtain ⟨y,vs,r,da⟩:=yR hd I.hok hH;have hl:ks.length=vs.length:=r.length;have hi2:i < vs.length:=by omega
  obtain ⟨⟨k,u⟩,hx⟩:∃ q,vs[i]?=some q:=⟨vs[i],NQ hi2⟩;obtain ⟨⟨k',x⟩,hk',ek,ru⟩:=CU r hx;have ek:k'=k:=ek;subst ek;obtain ⟨ok,ov,he⟩:=st;rw [hl] at he;refine wpAny_pyNext_items_item he da hx λ key h' hkey ho hT hsz hk=>⟨.ref s.heap.objs.size,rfl,?_⟩;refine wpAny_letOwnedTupleGo_items (s:={ s with heap:=h' }) ho λ h'' he'' hs''=>?_;generalize hTe:s.heap.objs.size=T at *;have hTs:s.heap.objs.size<=T:=by rw [hTe]; exact Np _
  have nT:H T=none:=I.hok.fresh hTs;have ltT:∀ b o,s.heap.get? b=some o->b≠T:=λ b o q=>NZ (NK (NM q) hTs);have itT:T≠it:=λ z=>ltT it _ he z.symm;have kall:∀ b o,b∉[it]->s.heap.get? b=some o->h''.get? b=some o:=λ b o hb q=>hs''.extBut b o (by simpa using hb) (hk b o (by simpa using hb) q);have hIs'':IsTup h'' T #[key,u]:=⟨_,hs''.extBut T _ itT hT,rfl,_,rfl⟩;have J:Inv X pins σ (upd H T (.tup [kV k',x])) { s with heap:=h'' }:=by
   refine I.step (h':=h'') (g':=s.gens) (d':=s.drawn) (t':=s.toks) (ch:=[it]) (λ b hb=>⟨(hf b hb).2.2.2.1,(hf b hb).2.1,(hf b hb).2.2.2.2.1,(hf b hb).2.2.2.2.2⟩)
    (λ b o _ _ hb q _=>kall b o hb q) (λ b o _ _ hb q _=>⟨o.slots,kall b o hb q⟩) (λ b o _ q n=>by rw [aq (ltT b o q)]; exact n) (λ b o hb q=>⟨o,kall b o hb q⟩)
    (λ b xs q=>by rw [aq (aF q nT)]; exact q) (λ b o xs q=>by rw [aq (aF q nT)]; exact q) (λ b ps q=>⟨#[],by rw [aq (aF q nT),q]; simp⟩) (λ m hm=>?_) (λ b o q=>?_) I.bare
   ·obtain ⟨o,es,ep,ho,r⟩:=hm;refine ⟨o,es,ep,kall _ o (λ hb=>?_) ho,r⟩;exact (hf _ hb).2.1 rfl
   ·by_cases hb:b=T
    ·subst hb;rw [au] at q;cases q;exact ⟨by show 2<=No; decide,[key,u],.cons (D9 hkey) (.cons ru .nil),hIs''⟩
    ·rw [aq hb] at q;have nfp:∀ b o,H b=some o->b∉[it]:=λ b o q hb=>by rw [(hf b hb).1] at q; cases q
     refine (I.hok b o q).stay (λ c' v hc' z=>kall c' v ?_ z) (λ c' z=>by rw [aq (aF z nT)]; exact z) λ c' xs z=>by rw [aq (aF z nT)]; exact z
     rcases hc' with rfl | hc'
     ·exact nfp _ _ q
     ·exact nfp _ _ hc'
  refine ⟨.ref T,upd H T (.tup [kV k',x]),J,rfl,⟨T,k',x,nT,hk',rfl,rfl⟩,⟨_,_,by rw [hl]; exact he''⟩,λ b hb=>?_⟩;have nb:b≠T:=λ z=>itT (by rw [<- z]; exact NF.mp hb);rw [aq nb]; exact (hf b hb).1
 done:=by
  intro X hP hw hK hc i pins s σ H E I hf st hg;subst hP hw hK;obtain ⟨hi,hH⟩:=hg;obtain ⟨f0,f1,f2,f3,f4,f5⟩:=hf it (by simp);obtain ⟨y,vs,r,da⟩:=yR hd I.hok hH;have hl:ks.length=vs.length:=r.length;obtain ⟨ok,ov,he⟩:=st;rw [hl] at he;exact wpAny_pyNext_items_end (I.ok.hd hc) he da (N3 (by omega)) λ h' he'=>⟨rfl,I.turned (t':=s.toks) (λ b o hb e=>he' b o hb e) f0 f1 f3 f4 f5⟩
 self:=λ _ _ _ _ _ st h=>by
  obtain ⟨ok,ov,he⟩:=st;exact qN he h
theorem Inv.unhold {X:Cx} {pins:List (NI×Obj)} {σ:St} {H Hc:Hp} {s0 s:Nu} {p:NI} {ob:Obj} {ks:List (Key×V)} (I0:Inv X pins σ H s0) (hp:H p=some (.dK ks)) (I:Inv X pins σ Hc s) (hc:Hc p=some (.frz ob (.dK ks))):Inv X pins σ (upd Hc p (.dK ks)) s:=by
 have ne:∀ b,Hc b=none->b≠p:=λ b q z=>by rw [z,hc] at q; cases q
 refine ⟨I.ok,I.os,I.bare,⟨I.base.keep,I.base.slot,λ b o q n hx=>?_,I.base.there,λ b xs q=>?_,λ b o u q=>?_,λ b ps q=>?_⟩,I.loc,I.cell,by rw [aq (ne _ I.free)]; exact I.free,λ x c e=>by rw [aq (ne _ (I.freeC x c e))]; exact I.freeC x c e,λ q hq=>?_,λ b o q=>?_,I.len⟩
 ·have nb:b≠p:=λ z=>by
   have:=I0.base.free b o q n hx
   rw [z,hp] at this; cases this
  rw [aq nb]; exact I.base.free b o q n hx
 ·have nb:b≠p:=λ z=>by
   have:=I0.base.tups b xs q
   rw [z,hp] at this; cases this
  rw [aq nb]; exact I.base.tups b xs q
 ·have nb:b≠p:=λ z=>by
   have:=I0.base.frzs b o u q
   rw [z,hp] at this; cases this
  rw [aq nb]; exact I.base.frzs b o u q
 ·have nb:b≠p:=λ z=>by
   obtain ⟨m,this⟩:=I0.base.tbls b ps q;rw [z,hp] at this; cases this
  rw [aq nb]; exact I.base.tbls b ps q
 ·obtain ⟨h1,h2,h3⟩:=I.pin q hq;exact ⟨h1,by rw [aq (ne _ h2)]; exact h2,h3⟩
 ·have own:∀ c y,Hc c=some (.own y)->upd Hc p (.dK ks) c=some (.own y):=λ c y z=>by
   have nc:c≠p:=λ e=>by rw [e,hc] at z; cases z
   rw [aq nc]; exact z
  have tup:∀ c xs,Hc c=some (.tup xs)->upd Hc p (.dK ks) c=some (.tup xs):=λ c xs z=>by
   have nc:c≠p:=λ e=>by rw [e,hc] at z; cases z
   rw [aq nc]; exact z
  by_cases hb:b=p
  ·subst hb;rw [au] at q;cases q;have z:ObjOk X.prog X.w Hc s.heap b (.frz ob (.dK ks)):=I.hok b _ hc;exact ObjOk.stay z.2 (λ _ _ _ e=>e) (λ c e=>own c _ e) tup
  ·rw [aq hb] at q;exact ObjOk.stay (I.hok b o q) (λ _ _ _ e=>e) (λ c e=>own c _ e) tup
section
variable {X:Cx} {cl:Nat->NI} {elts:List Expr} {kk:Nat} {tp np ap ip cp pos:Pos} {elt:Expr} {ifs:List Expr} {scope:Scope} {N':List Str} {mp:List (Option Nat)} {ks:List Nat} {gt:TG} {t:En->Nh->Option En} {p:En->Option Bool} {f:En->Option Nh}
noncomputable def GC (K:Ni) (i:Nat) (fld:Str):TI:=λ σ H R=>∃ a C dx fs p ob ks,σ[i]?=some (some (.ref a))/\H a=some (.ins C dx fs)/\Cls K C/\NoAttr K C fld/\fs.lookup fld=some (.ref p)/\H p=some (.frz ob (.dK ks))/\R (Iti p ob ks) H
theorem FP (i:Nat) {x fld:Str} (hN:X.N[i]?=some x) (hv:Vis X.env.scope x) (hd:(x==("__debug__" : Str))=false) (hcd:(x==("__classdict__" : Str))=false)
  (hb1:attributeBase (.Name x np) fld X.env (eval (.Name x np) X.env)=eval (.Name x np) X.env) (hb2:attributeBase (.Attribute (.Name x np) fld ap) "items" X.env (eval (.Attribute (.Name x np) fld ap) X.env)=eval (.Attribute (.Name x np) fld ap) X.env) (hline:(ip.endLine==cp.line)=true) :
  PI X (.Tuple elts kk tp) (.Call (.Attribute (.Attribute (.Name x np) fld ap) "items" ip) [] [] cp) (GC X.K i fld):=by
 intro pins s σ H R I ⟨a,C,dx,fs,p,ob,ks,e1,e2,e3,e4,e5,e6,q⟩;refine wpAny_Call_method0_late hb2 hline (thn (CS (rB hN hv hd hcd) hb1 pins s σ H (λ v H1=>v=.ref p/\H1=H) I ⟨.ref a,e1,a,C,dx,fs,.ref p,rfl,e2,e3,e4,e5,rfl,rfl⟩) λ v s1 ⟨y,H1,I1,r1,ey,eH⟩=>?_);subst ey eH;cases r1;obtain ⟨t1,t2,t3⟩:=C5 I1 (a:=p) (.inl ⟨ks,.inr ⟨ob,e6⟩⟩);obtain ⟨h1,z,y,vs,r,o2,es,ep,g,c,d,rest⟩:=(show ObjOk X.prog X.w H1 s1.heap p (.frz ob (.dK ks)) from I1.hok p _ e6);rw [h1] at g;cases g;have da:s1.heap.DictAt (dk X.prog X.w) p vs ep:=⟨ob,es,h1,c,d,rest⟩;refine ⟨"dict", "dict.items", PySem.F.plainAttrs_dict,PySem.F.slot_dict_items,PySem.F.type_dict_items,t1,t2,Calls.callWith_builtin rfl (PySem.evalArgs_none ?_)⟩;refine call_meetsIn PySem.F.slot_dict_items t1 PySem.F.entry_dict_items (PySem.F.args_dict_items_1 _) (meets_dict_items (dk X.prog X.w) p t3) ⟨⟨vs,da.dictOf⟩,?_⟩;have I2:Inv X pins σ H1 { s1 with heap:=s1.heap.push { cls:=.type "dict_items", data:=.fields #[.ref p] } }:=I1.kept (t':=s1.toks) λ b u e=>Nv _ e;have hl:ks.length=vs.length:=r.length;refine wpAny_pyIter_items (s:={ s1 with heap:=s1.heap.push { cls:=.type "dict_items", data:=.fields #[.ref p] } }) ⟨_,NX _ rfl,rfl,rfl⟩ (da.push _) ?_;refine ⟨_,[(s1.heap.push { cls:=.type "dict_items", data:=.fields #[.ref p] }).objs.size],_,Iti p ob ks,H1,rfl,I2.kept (t':=s1.toks) λ b u e=>Nv _ e,CD _ p ob ks d,?_,λ b hb=>?_,q⟩
 ·exact ⟨.none,.none,by rw [hl]; exact NX _ rfl⟩
 ·rw [NF.mp hb];exact I2.fpOk (Np _) (I2.hok.fresh (Np _))
noncomputable def qj (xs:List (Key×Nh)):List Nh:=xs.map λ kv=>.tuple [kD kv.1,kv.2]
theorem DE {K:Ni} {F:Hp}:∀ {kvs:List (Key×Nh)} {ks:List (Key×V)} (i:Nat) {k:Key} {x:Nh},RelD K F (prs kvs) ks->kvs[i]?=some (k,x)->∃ v,ks[i]?=some (k,v)/\Rel K F x v
 | [],_,i,k,x,_,e=>by simp at e
 | (k',d)::kvs,ks,i,k,x,h,e=>by
  obtain ⟨k2,v,r,rfl,e1,h3,h4⟩:=RelD.cons_of (d:=kD k') (e:=d) (es:=prs kvs) h
  have:=Gz e1
  subst this;cases i with
  | zero =>
   have:(k',d)=(k,x):=by simpa using e
   cases this;exact ⟨v,rfl,h3⟩
  | succ i=>exact DE i h4 (by simpa using e)
theorem EW {K:Ni} {F:Hp} {p:NI} {ob:Obj} {ks:List (Key×V)} {kvs:List (Key×Nh)} (hF:F p=some (.frz ob (.dK ks))) (hr:RelD K F (prs kvs) ks):ItP K (Iti p ob ks) F (qj kvs):=λ F1 H1 i s1 s2=>by
 have hH:H1 p=some (.frz ob (.dK ks)):=s2 _ _ (s1 _ _ hF);have hl:kvs.length=ks.length:=by
  have:=congrArg List.length hr.keys
  rwa [Nl,Nl] at this
 have hlD:(qj kvs).length=kvs.length:=by unfold qj; rw [Nl]
 refine ⟨λ d e=>?_,λ e=>⟨by omega,hH⟩⟩;have hi:i < kvs.length:=by rw [<- hlD]; exact (Nr.mp e).1
 obtain ⟨⟨k,x⟩,hx⟩:∃ q,kvs[i]?=some q:=⟨kvs[i],NQ hi⟩;obtain ⟨v,hv,rv⟩:=DE i hr hx;have hd:d=.tuple [kD k,x]:=by
  unfold qj at e;rw [NG,hx] at e;exact (Option.some.inj e).symm
 subst hd;refine ⟨⟨by omega,hH⟩,λ y H2 ⟨T,k',x',nT,hk',ey,eH⟩=>?_⟩;rw [hv] at hk';cases hk';subst ey eH;have fT:F1 T=none:=s2.free nT;have g2:Gr F1 H1 (upd F1 T (.tup [kV k,v])) (upd H1 T (.tup [kV k,v])):=Gr.one s2 nT;refine ⟨_,g2,jc (SqT.of au) (.cons ?_ (.cons (Rel.mono (s1.trans g2.ff) rv) .nil))⟩;cases k with
 | inl i=>exact cz
 | inr x=>exact qa
noncomputable def IA (i:Nat) (fld:Str) (mp:List (Option Nat)) (t:En->Nh->Option En) (p:En->Option Bool) (f:En->Option Nh):MF:=λ w=>match w.η[i]? with
 | some (some (.r n))=>(match w.s[n]? with
  | some (.obj _ fs)=>(match fs.lookup fld with
   | some (.r m)=>(match w.s[m]? with
    | some (.dct kvs)=>(A5 kvs).bind λ xs=>(bH mp (λ _=>some (qj xs)) t p f (vw w)).bind λ ys=>if ys.all kF=true then some (.d (.list ys),w.s) else none
    | _=>none)
   | _=>none)
  | _=>none)
 | _=>none
theorem ME.itemsC (i:Nat) {x fld:Str} (hc:X.calm=true) (ck:CompSc X scope N' mp) (ht:TgP X.K ks gt t) (hks:∀ k∈ks,mp[k]?=some none)
  (hb:∀ B s H fp,PG (bZ X scope N' s H fp) (.Tuple elts kk tp) gt/\Ts (bZ X scope N' s H fp) B ifs p/\E (bZ X scope N' s H fp) B elt f)
  (hN:X.N[i]?=some x:=by rfl) (hv:Vis X.env.scope x:=by first | exact Or.inl rfl | exact Or.inr (Or.inl rfl) | exact Or.inr (Or.inr rfl)) (hdb:(x==("__debug__" : Str))=false:=by decide) (hcd:(x==("__classdict__" : Str))=false:=by decide)
  (hb1:attributeBase (.Name x np) fld X.env (eval (.Name x np) X.env)=eval (.Name x np) X.env:=by rfl) (hb2:attributeBase (.Attribute (.Name x np) fld ap) "items" X.env (eval (.Attribute (.Name x np) fld ap) X.env)=eval (.Attribute (.Name x np) fld ap) X.env:=by rfl) (hline:(ip.endLine==cp.line)=true:=by rfl)
  (hs:∀ y,foldedSetIterable (.Call (.Attribute (.Attribute (.Name x np) fld ap) "items" ip) [] [] cp) X.env y=pure y:=by intro _; rfl) :
  ME X cl (.ListComp elt [⟨.Tuple elts kk tp,.Call (.Attribute (.Attribute (.Name x np) fld ap) "items" ip) [] [] cp,ifs,0⟩] scope pos) (IA i fld mp t p f):=λ pins s σ H Q I ⟨θ,F,w,d,s',m,v,hf,q⟩=>by
 unfold IA at hf;split at hf
 ·rename_i n hn;split at hf
  ·rename_i k fs hob;split at hf
   ·rename_i mm hlk;split at hf
    ·rename_i kvs hdc;obtain ⟨xs,hxs,hf⟩:=ab hf;obtain ⟨ys,hys,hf⟩:=ab hf;split at hf
     ·rename_i hfl;cases hf;obtain ⟨u,hu,a,ha,rfl⟩:=v.val i _ hn;obtain ⟨c1,c2,c3,dx,xsf,c4,c5⟩:=m.cel n a _ ha hob;obtain ⟨vv,l1,pp,hp,rfl⟩:=(c5.look fld).1 _ hlk;obtain ⟨d1,kks,d2,d3⟩:=m.cel mm pp _ hp hdc;obtain ⟨z,y,vs,r,ob,es,ep,g,rest⟩:=(show ObjOk X.prog X.w H s.heap pp (.dK kks) from I.hok pp _ d2);have I':Inv X pins σ (upd H pp (.frz ob (.dK kks))) s:=I.write (t':=s.toks) (h':=s.heap) (e:=pp) (by rw [d2]; trivial) (.inl rfl) (λ _ _ _ e=>e) ⟨ob,g⟩ ⟨g,z,y,vs,r,ob,es,ep,g,rest⟩;have sn:=fZ (H:=F) d1 (.frz ob (.dK kks));have smp:Same (upd F pp (.frz ob (.dK kks))) (upd H pp (.frz ob (.dK kks))):=λ b o e=>by
       by_cases hb:b=pp
       ·subst hb; rw [au] at e ⊢; exact e
       ·rw [aq hb] at e ⊢; exact m.sm b o e
      have sr0:=m.vw v;have srp:SR X.K ⟨upd F pp (.frz ob (.dK kks)),upd H pp (.frz ob (.dK kks))⟩ (upd F pp (.frz ob (.dK kks))) (upd H pp (.frz ob (.dK kks))) σ (vw w):=by
       refine ⟨.refl smp,⟨sr0.en.len,λ j dd e=>?_,λ j sl e ho=>?_,λ j j' sl sl' e e' ho ho' hne=>?_,λ j ff e=>?_⟩⟩
       ·obtain ⟨vv,q1,q2⟩:=sr0.en.val j dd e;exact ⟨vv,q1,Rel.mono sn q2⟩
       ·obtain ⟨b,o,q1,q2,q3,q4,q5⟩:=sr0.en.cel j sl e ho;have q3:H b=none:=q3;rw [q3] at q4; cases q4
       ·obtain ⟨b,o,q1,q2,q3,q4,q5⟩:=sr0.en.cel j sl e ho;have q3:H b=none:=q3;rw [q3] at q4; cases q4
       ·obtain ⟨b,C,dx',xs',q1,q2,q3,q4⟩:=sr0.en.obs j ff e;have nb:b≠pp:=λ z=>by rw [z,d2] at q2; cases q2
        refine ⟨b,C,dx',xs',q1,by rw [aq nb]; exact q2,q3,λ f' d' hf'=>?_⟩;obtain ⟨w1,w2,w3,w4⟩:=q4 f' d' hf';exact ⟨w1,w2,w3,Rel.mono sn w4⟩
      have rd:RelD X.K (upd F pp (.frz ob (.dK kks))) (prs xs) kks:=(Cc d3 hxs).mono sn;have tc:Bp mp (GC X.K i fld) gt (tT X.K ⟨upd F pp (.frz ob (.dK kks)),upd H pp (.frz ob (.dK kks))⟩ p) (tE X.K ⟨upd F pp (.frz ob (.dK kks)),upd H pp (.frz ob (.dK kks))⟩ f) σ (upd H pp (.frz ob (.dK kks)))
        (λ x Hc=>∃ D xs' Fc,x=.ref D/\Gr (upd F pp (.frz ob (.dK kks))) (upd H pp (.frz ob (.dK kks))) Fc Hc/\upd H pp (.frz ob (.dK kks)) D=none/\Hc D=some (.lst xs')/\RelL X.K Fc ys xs'):=by
       obtain ⟨F1,η1,ds,sr1,hds,k1⟩:=xD ht hks σ (upd H pp (.frz ob (.dK kks))) _ (show tO X.K ⟨upd F pp (.frz ob (.dK kks)),upd H pp (.frz ob (.dK kks))⟩ (bH mp (λ _=>some (qj xs)) t p f) σ (upd H pp (.frz ob (.dK kks))) (λ x Hc=>∃ D xs' Fc,x=.ref D/\Gr (upd F pp (.frz ob (.dK kks))) (upd H pp (.frz ob (.dK kks))) Fc Hc/\upd H pp (.frz ob (.dK kks)) D=none/\Hc D=some (.lst xs')/\RelL X.K Fc ys xs') from ⟨_,_,ys,srp,hys,λ D xs' Fc Hc g hD fD hcD rl=>⟨D,xs',Fc,rfl,g,hD,hcD,rl⟩⟩);cases hds;refine ⟨a,_,dx,xsf,pp,ob,kks,hu,by rw [aq (λ z=>by rw [z,d2] at c4; cases c4)]; exact c4,c2,c3 _ (yp hlk),l1,au,k1 (Iti pp ob kks) F1 _ (.refl sr1.same) (EW (sr1.gr.ff _ _ au) (rd.mono sr1.gr.ff))⟩
      refine thn (Ao hc ck (FP i hN hv hdb hcd hb1 hb2 hline) (λ s H fp=>hb _ s H fp) hs pins s σ _ _ I' tc) λ v1 s1 ⟨x1,Hc,Ic,rx,D,xs',Fc,ex,gc,hD,hcD,rl⟩=>?_;have hcp:Hc pp=some (.frz ob (.dK kks)):=gc.hh _ _ au;have If:=Inv.unhold I d2 Ic hcp;have nD:D≠pp:=λ z=>by rw [z,au] at hD; cases hD
      have hDH:H D=none:=by rw [aq nD] at hD; exact hD
      have hDf:upd Hc pp (.dK kks) D=some (.lst xs'):=by rw [aq nD]; exact hcD
      have gg:Gr F H F (upd Hc pp (.dK kks)):=by
       have hh:Same H (upd Hc pp (.dK kks)):=λ b o e=>by
        by_cases hb:b=pp
        ·subst hb; rw [d2] at e; cases e; exact au
        ·rw [aq hb]; exact gc.hh b o (by rw [aq hb]; exact e)
       exact ⟨.refl _,hh,m.sm.trans hh,λ b q=>.inl q⟩
      obtain ⟨g2,r2⟩:=D7 (F:=F) (F':=F) m.sm gg hDH (m.sm.free hDH) hDf (zZ hfl rl);subst ex;exact ⟨.ref D,_,If,rx,q _ θ _ _ (NY _) g2.ff (m.grow g2) r2⟩
     ·cases hf
    ·cases hf
   ·cases hf
  ·cases hf
 ·cases hf
end
noncomputable def de (o g:MF):MF:=λ w=>(o w).bind λ r=>(g ⟨w.η,r.2⟩).bind λ q=>match r.1,q.1 with
 | .r n,.d x=>(xh x).bind λ k=>(match q.2[n]? with
  | some (.dct kvs)=>(bI kvs k).bind λ d=>some (d,q.2)
  | _=>none)
 | _,_=>none
noncomputable def AR (neg:Bool) (g o:MF):MTF:=λ w=>(g w).bind λ r=>(o ⟨w.η,r.2⟩).bind λ q=>match r.1,q.1 with
 | .d x,.r n=>(xh x).bind λ k=>(match q.2[n]? with
  | some (.dct kvs)=>some (if neg then !(bI kvs k).isSome else (bI kvs k).isSome,q.2)
  | _=>none)
 | _,_=>none
noncomputable def u8 (kvs:List (Key×D)) (k:Key) (d:D):List (Key×D):=if (kvs.any λ kv=>decide (kv.1=k))=true then kvs.map (λ kv=>if kv.1=k then (kv.1,d) else kv) else kvs++[(k,d)]
noncomputable def Dc (kvs:List (Key×D)) (k:Key):List (Key×D):=kvs.filter λ kv=>decide (kv.1≠k)
noncomputable def ue (o g e:MF):Wd->Option MOut:=λ w=>(e w).bind λ r=>(o ⟨w.η,r.2⟩).bind λ q=>(g ⟨w.η,q.2⟩).bind λ z=>match q.1,z.1 with
 | .r n,.d x=>(xh x).bind λ k=>(match z.2[n]? with
  | some (.dct kvs)=>if kvs.length < No then some (.nx ⟨w.η,z.2.set n (.dct (u8 kvs k r.1))⟩) else none
  | _=>none)
 | _,_=>none
noncomputable def JE (o g:MF):MF:=λ w=>(o w).bind λ r=>match r.1 with
 | .r n=>(match r.2[n]? with
  | some (.dct _)=>(g ⟨w.η,r.2⟩).bind λ q=>match q.1 with
   | .d x=>(xh x).bind λ k=>(match q.2[n]? with
    | some (.dct kvs)=>(bI kvs k).bind λ d=>some (d,q.2.set n (.dct (Dc kvs k)))
    | _=>none)
   | _=>none
  | _=>none)
 | _=>none
noncomputable def D4 (k:Nat) (nm:Str) (o e:MF):Wd->Option MOut:=λ w=>(o w).bind λ r=>match r.1 with
 | .r n=>(match r.2[n]? with
  | some (.obj k' fs)=>if k'=k then (match fs.lookup nm with
   | some (.d (.int i))=>(e ⟨w.η,r.2⟩).bind λ q=>match q.1 with
    | .d (.int j)=>(match q.2[n]? with
     | some (.obj k2 fs2)=>if k2=k/\fs2.length < 999 then some (.nx ⟨w.η,q.2.set n (.obj k (wP nm (.d (.int (i+j))) fs2))⟩) else none
     | _=>none)
    | _=>none
   | _=>none) else none
  | _=>none)
 | _=>none
theorem IT {K:Ni} {θ:List NI} {F:Hp} {kvs:List (Key×D)} {vs:List (Key×V)} (h:DRk K θ F kvs vs) (k:Key):(kvs.any λ kv=>decide (kv.1=k))=vs.any λ kv=>decide (kv.1=k):=by
 induction h with
 | nil=>rfl
 | cons r t ih=>rw [Oz,Oz,ih,r.1]
theorem IS {K:Ni} {θ:List NI} {F:Hp} {kvs:List (Key×D)} {vs:List (Key×V)} (h:DRk K θ F kvs vs) (k:Key) {d:D} {v:V} (r:DR K θ F d v):DRk K θ F (kvs.map λ kv=>if kv.1=k then (kv.1,d) else kv) (vs.map λ kv=>if kv.1=k then (kv.1,v) else kv):=by
 induction h with
 | nil=>exact .nil
 | @cons a b as bs q t ih =>
  refine .cons ?_ ih;dsimp only;by_cases hk:a.1=k
  ·rw [if_pos hk,if_pos (by rw [<- q.1]; exact hk)];exact ⟨q.1,r⟩
  ·rw [if_neg hk,if_neg (by rw [<- q.1]; exact hk)];exact q
theorem IR {K:Ni} {θ:List NI} {F:Hp} {kvs:List (Key×D)} {vs:List (Key×V)} (h:DRk K θ F kvs vs) (k:Key) {d:D} {v:V} (r:DR K θ F d v):DRk K θ F (u8 kvs k d) (o8 vs k v):=by
 unfold u8 o8;rw [IT h k]
 split
 ·exact IS h k r
 ·exact wy h (.cons ⟨rfl,r⟩ .nil)
theorem GN {K:Ni} {θ:List NI} {F:Hp} {kvs:List (Key×D)} {vs:List (Key×V)} (h:DRk K θ F kvs vs) (k:Key):DRk K θ F (Dc kvs k) (yG vs k):=by
 unfold Dc yG
 induction h with
 | nil=>exact .nil
 | @cons a b as bs q t ih =>
  rw [Om,Om];have e:decide (b.1≠k)=decide (a.1≠k):=by rw [<- q.1]
  rw [e]
  split
  ·exact .cons q ih
  ·exact ih
theorem key_of' {K:Ni} {F:Hp} {x:Nh} {k:Key} {u:V} (hk:xh x=some k) (r:Rel K F x u):u=kV k:=by
 cases x <;> simp only [xh,Option.some.injEq,reduceCtorEq] at hk
 ·subst hk; exact (show Rel K F (.int _) u from r).int
 ·subst hk; exact (show Rel K F (.str _) u from r).str
theorem B8 {K:Ni} {θ:List NI} {F:Hp} {kvs:List (Key×D)} {vs:List (Key×V)} (h:DRk K θ F kvs vs) (k:Key):(nL vs k).isSome=(bI kvs k).isSome:=by
 cases l:bI kvs k with
 | some d=>obtain ⟨v,e1,_⟩:=(h.look k).1 d l; rw [e1]; rfl
 | none=>rw [(h.look k).2 l]; rfl
section
variable {X:Cx} {cl:Nat->NI} {o e i value:Expr} {f g h:MF} {pos pos' tpos apos cpos:Pos}
theorem eP {k:Nat} (hr:Room k X.A) (ho:ME X cl o f) (hi:ME X cl e g) (hs:La e:=by intro _ _; rfl):ME X cl (.Subscript o e pos) (de f g):=PE.imp (Ii (Room.one hr) ho hi hs) λ σ H Q ⟨θ,F,w,d,s',m,v,hf,q⟩=>by
 obtain ⟨⟨d1,s1⟩,h1,hf⟩:=ab hf;obtain ⟨⟨d2,s2⟩,h2,hf⟩:=ab hf;dsimp only at hf;split at hf
 ·rename_i _ n x _;obtain ⟨k,hk,hf⟩:=ab hf;split at hf
  ·rename_i kvs hc;obtain ⟨d3,hl,hf⟩:=ab hf;cases hf;refine ⟨θ,F,w,_,s1,m,v,h1,λ u θ1 F1 H1 p1 q1 m1 r1=>⟨θ1,F1,⟨w.η,s1⟩,_,_,m1,v.mono p1 q1,h2,λ u2 θ2 F2 H2 p2 q2 m2 r2=>?_⟩⟩;obtain ⟨ad,z1,rfl⟩:=r1;have z3:=kO p2 z1;obtain ⟨w5,ks,w6,w7⟩:=m2.cel n ad _ z3 hc;obtain ⟨v',e1,e2⟩:=(w7.look k).1 _ hl;exact ⟨ad,v',rfl,.inl ⟨ks,k,.inl w6,key_of' hk r2,e1.symm⟩,q _ θ2 F2 H2 (p1.trans p2) (q1.trans q2) m2 e2⟩
  ·cases hf
 ·cases hf
theorem MT.inC {k:Nat} (hr:Room k X.A) (hi:ME X cl e g) (ho:ME X cl o f) (hm:Oa .In o=false:=by with_unfolding_all rfl):MT X cl (.Compare e [.In] [o] pos) (AR false g f):=PT.imp (FI (Ki (Room.one hr) hi ho) hm) λ σ H Q ⟨θ,F,w,b,s',m,v,hf,q⟩=>by
 obtain ⟨⟨d1,s1⟩,h1,hf⟩:=ab hf;obtain ⟨⟨d2,s2⟩,h2,hf⟩:=ab hf;dsimp only at hf;split at hf
 ·rename_i _ x n _;obtain ⟨k,hk,hf⟩:=ab hf;split at hf
  ·rename_i kvs hc;cases hf;refine ⟨θ,F,w,_,s1,m,v,h1,λ u θ1 F1 H1 p1 q1 m1 r1=>⟨θ1,F1,⟨w.η,s1⟩,_,_,m1,v.mono p1 q1,h2,λ u2 θ2 F2 H2 p2 q2 m2 r2=>?_⟩⟩;obtain ⟨ad,z1,rfl⟩:=r2;obtain ⟨w5,ks,w6,w7⟩:=m2.cel n ad _ z1 hc;refine ⟨ad,_,rfl,.inl ⟨ks,k,.inl w6,key_of' hk r1,rfl⟩,_,rfl,?_⟩;rw [B8 w7];exact q θ2 F2 H2 (p1.trans p2) (q1.trans q2) m2
  ·cases hf
 ·cases hf
theorem MT.notInC {k:Nat} (hr:Room k X.A) (hi:ME X cl e g) (ho:ME X cl o f) (hm:Oa .NotIn o=false:=by with_unfolding_all rfl):MT X cl (.Compare e [.NotIn] [o] pos) (AR true g f):=PT.imp (FI (EG (Room.one hr) hi ho) hm) λ σ H Q ⟨θ,F,w,b,s',m,v,hf,q⟩=>by
 obtain ⟨⟨d1,s1⟩,h1,hf⟩:=ab hf;obtain ⟨⟨d2,s2⟩,h2,hf⟩:=ab hf;dsimp only at hf;split at hf
 ·rename_i _ x n _;obtain ⟨k,hk,hf⟩:=ab hf;split at hf
  ·rename_i kvs hc;cases hf;refine ⟨θ,F,w,_,s1,m,v,h1,λ u θ1 F1 H1 p1 q1 m1 r1=>⟨θ1,F1,⟨w.η,s1⟩,_,_,m1,v.mono p1 q1,h2,λ u2 θ2 F2 H2 p2 q2 m2 r2=>?_⟩⟩;obtain ⟨ad,z1,rfl⟩:=r2;obtain ⟨w5,ks,w6,w7⟩:=m2.cel n ad _ z1 hc;refine ⟨ad,_,rfl,.inl ⟨ks,k,.inl w6,key_of' hk r1,rfl⟩,_,rfl,?_⟩;rw [B8 w7];exact q θ2 F2 H2 (p1.trans p2) (q1.trans q2) m2
  ·cases hf
 ·cases hf
theorem MS.putC {k:Nat} (hr:Room k X.A) (ho:ME X cl o f) (hi:ME X cl e g) (hv:ME X cl value h) (hs:swapsWith value (some (.Subscript o e pos')) pos.line X.env=pure false:=by rfl):MS X cl (.Assign [.Subscript o e pos'] value pos) (ue f g h):=PS.imp (HW (Room.one hr) ho hi hv hs) λ Z σ H ⟨θ,F,w,out,m,v,hf,q⟩=>by
 obtain ⟨⟨d1,s1⟩,h1,hf⟩:=ab hf;obtain ⟨⟨d2,s2⟩,h2,hf⟩:=ab hf;obtain ⟨⟨d3,s3⟩,h3,hf⟩:=ab hf;dsimp only at hf;split at hf
 ·rename_i _ n x _;obtain ⟨k,hk,hf⟩:=ab hf;split at hf
  ·rename_i kvs hc;split at hf
   ·rename_i hl;cases hf;refine ⟨θ,F,w,_,s1,m,v,h1,λ u θ1 F1 H1 p1 q1 m1 r1=>⟨θ1,F1,⟨w.η,s1⟩,_,s2,m1,v.mono p1 q1,h2,λ u2 θ2 F2 H2 p2 q2 m2 r2=>⟨θ2,F2,⟨w.η,s2⟩,_,s3,m2,v.mono (p1.trans p2) (q1.trans q2),h3,λ u3 θ3 F3 H3 p3 q3 m3 r3=>?_⟩⟩⟩;obtain ⟨ad,z1,rfl⟩:=r2;have z3:=kO p3 z1;obtain ⟨w5,ks,w6,w7⟩:=m3.cel n ad _ z3 hc;have hll:ks.length < No:=by rw [<- nS w7]; exact hl
    refine ⟨ad,_,rfl,.inl ⟨ks,k,w6,key_of' hk r3,hll,rfl⟩,?_⟩;exact q σ θ3 F3 _ (p1.trans (p2.trans p3)) (q1.trans (q2.trans q3)) (m3.put z3 hc rfl ⟨w5,_,au,IR w7 k (r1.mono (p2.trans p3) (q2.trans q3))⟩) (v.mono (p1.trans (p2.trans p3)) (q1.trans (q2.trans q3)))
   ·cases hf
  ·cases hf
 ·cases hf
theorem ME.popC (ho:ME X cl o f) (he:ME X cl e g) (mm:M1 X o "pop" apos e cpos:=by exact ⟨rfl,rfl,rfl,rfl⟩):ME X cl (.Call (.Attribute o "pop" apos) [e] [] cpos) (JE f g):=PE.imp (FW ho he mm) λ σ H Q ⟨θ,F,w,d,s',m,v,hf,q⟩=>by
 obtain ⟨⟨d1,s1⟩,h1,hf⟩:=ab hf;cases d1 with
 | d x=>cases hf
 | r n =>
  dsimp only at hf;split at hf
  ·rename_i kv0 hc0;obtain ⟨⟨d2,s2⟩,h2,hf⟩:=ab hf;cases d2 with
   | r n2=>cases hf
   | d x =>
    dsimp only at hf;obtain ⟨k,hk,hf⟩:=ab hf;split at hf
    ·rename_i kvs hc;obtain ⟨d3,hl,hf⟩:=ab hf;cases hf;refine ⟨θ,F,w,_,s1,m,v,h1,λ u θ1 F1 H1 p1 q1 m1 r1=>?_⟩;obtain ⟨ad,z1,rfl⟩:=r1;obtain ⟨w1,ks0,w3,w4⟩:=m1.cel n ad _ z1 hc0;refine ⟨ad,rfl,.inl ⟨ks0,.inl w3⟩,θ1,F1,⟨w.η,s1⟩,.d x,s2,m1,v.mono p1 q1,h2,λ u2 θ2 F2 H2 p2 q2 m2 r2=>?_⟩;have z3:=kO p2 z1;obtain ⟨w5,ks,w6,w7⟩:=m2.cel n ad _ z3 hc;obtain ⟨v',e1,e2⟩:=(w7.look k).1 _ hl;exact ⟨ks,k,v',w6,key_of' hk r2,e1,q _ θ2 F2 _ (p1.trans p2) (q1.trans q2) (m2.put z3 hc rfl ⟨w5,_,au,GN w7 k⟩) e2⟩
    ·cases hf
  ·cases hf
theorem MS.augF {k:Nat} {nm:Str} (ho:ME X cl o f) (he:ME X cl e g) (hn:NoAttr X.K (cl k) nm):MS X cl (.AugAssign (.Attribute o nm tpos) .Add e pos) (D4 k nm f g):=PS.imp (ED ho he KJ) λ Z σ H ⟨θ,F,w,out,m,v,hf,q⟩=>by
 obtain ⟨⟨d1,s1⟩,h1,hf⟩:=ab hf;cases d1 with
 | d x=>cases hf
 | r n =>
  dsimp only at hf;split at hf
  ·rename_i k' fs hc;split at hf
   ·rename_i hk;subst hk;split at hf
    ·rename_i i hl;obtain ⟨⟨d2,s2⟩,h2,hf⟩:=ab hf;dsimp only at hf;split at hf
     ·rename_i j;split at hf
      ·rename_i k2 fs2 hc2;split at hf
       ·rename_i hk2;obtain ⟨hk2,hlen⟩:=hk2;subst hk2;cases hf;refine ⟨θ,F,w,_,s1,m,v,h1,λ u θ1 F1 H1 p1 q1 m1 r1=>?_⟩;obtain ⟨ad,z1,rfl⟩:=r1;obtain ⟨c1,c2,c3,dx,xs,c4,c5⟩:=m1.cel n ad _ z1 hc;obtain ⟨vv,l1,l2⟩:=(c5.look nm).1 _ hl;have l2':Rel X.K F1 (.int i) vv:=l2;refine ⟨ad,_,dx,xs,vv,rfl,c4,c2,hn,l1,θ1,F1,⟨w.η,s1⟩,_,s2,m1,v.mono p1 q1,h2,λ u2 θ2 F2 H2 p2 q2 m2 r2=>?_⟩;have r2':Rel X.K F2 (.int j) u2:=r2;refine ⟨i,j,l2'.int,r2'.int,?_⟩;have z3:=kO p2 z1;obtain ⟨e1,e2,e3,dx2,xs2,e4,e5⟩:=m2.cel n ad _ z3 hc2;have hll:xs2.length < 1000:=by
         have:=Paired.length e5
         omega
        refine ⟨dx2,xs2,e4,hll,q σ θ2 F2 _ (p1.trans p2) (q1.trans q2) (m2.put z3 hc2 rfl ⟨e1,e2,λ f' hf'=>?_,dx2,_,au,e5.put nm (show DR X.K θ2 F2 (.d (.int (i+j))) (.int (i+j)) from (cz:Rel X.K F2 (.int (i+j)) (.int (i+j))))⟩) (v.mono (p1.trans p2) (q1.trans q2))⟩;rcases vY hf' with z | z
        ·rw [z]; exact hn
        ·exact e3 f' z
       ·cases hf
      ·cases hf
     ·cases hf
    ·cases hf
   ·cases hf
  ·cases hf
end
section
variable {X:Cx}
variable {B:Bd} {a e:Expr} {f g:En->Option Nh} {apos cpos:Pos}
end
section
variable {X:Cx} {B:Bd} {e:Expr} {fs:En->Option (List Nh)} {p1 p2 q1 q2:Pos}
end
section
variable {prog:NT} {w:World} {K:Type} [DecidableEq K] {knd:KeyKind prog w K} {kf:Nq->K} {J:SetTable->Nat->Prop}
variable {A:Oh} {E:Nq->Nu->Prop} {s:Nu}
noncomputable def MG (t:SetTable) (es:Array (Int×Nq)) (h:Int) (x:Nq):SetTable :=
 if (if (layNew t es h x).2.1.plain then plainKind x else true) then (layNew t es h x).2.1 else { (layNew t es h x).2.1 with plain:=false }
structure Jok (J:SetTable->Nat->Prop) (Px:Nq->Prop):Prop where
 new:∀ t es h x,Px x->t.fits es.size=true->J t es.size->J (MG t es h x) (es.size+1)
 rel:∀ t es m,t.fits es.size=true->J t es.size->J (relayAll t es m).2.1 es.size
end
section
variable {prog:NT} {w:World} {K:Type} [DecidableEq K] [BEq K] [LawfulBEq K] {knd:KeyKind prog w K} {kf:Nq->K} {J:SetTable->Nat->Prop} {Px:Nq->Prop}
variable {A:Oh} {E:Nq->Nu->Prop} {s:Nu} {R:Result->Nu->Prop} {I:NI} {fp wr:List NI} {G:Array GenState->Array GenState->Prop} {n:Nat} {P:Nat->Nq->Prop} {St:Nat->Nu->Prop}
end
section
variable {prog:NT} {w:World} {A:Oh} {E:Nq->Nu->Prop} {s:Nu}
variable {K:Type} [DecidableEq K] [BEq K] [LawfulBEq K] {knd:KeyKind prog w K} {kf:Nq->K} {J:SetTable->Nat->Prop} {Px:Nq->Prop}
end
section
variable {prog:NT} {w:World} {A:Oh} {E:Nq->Nu->Prop} {s:Nu} {it a:NI} {first:Nq} {i n ep slot:Nat} {o:Obj} {es:Array (Int×Nq)} {t:SetTable}
end
section
variable {X:Cx} {B:Bd} {e:Expr} {fs:En->Option (List Nh)} {p1 p2 q1 q2:Pos}
end
section
variable {X:Cx} {B:Bd} {e:Expr} {fs:En->Option (List Nh)} {p1 p2 q1 q2:Pos}
end
section
variable {X:Cx} {B:Bd}
end
section
variable {X:Cx} {B:Bd} {e:Expr} {fs:En->Option (List Nh)} {pp pos:Pos}
end
section
variable {X:Cx} {B:Bd} {a:Expr} {fs:En->Option (List Nh)} {pos pp:Pos}
end
section
variable {X:Cx} {B:Bd} {e:Expr} {fs:En->Option (List Nh)} {p1 p2 q1 q2:Pos}
end
section
variable {prog:NT} {w:World} {A:Oh} {E:Nq->Nu->Prop} {s:Nu}
noncomputable abbrev Na (h:Heap) (z TI TO T0:NI) (b:Bool):Prop :=
 h.get? z=some { cls:=.type "zip", dict:=none,data:=.fields #[rawInt T0,.bool b,.bool false,.ref TI,.ref TO],slots:=#[] }
end
section
variable {prog:NT} {w:World} {A:Oh} {E:Nq->Nu->Prop} {s:Nu}
end
section
variable {prog:NT} {w:World} {A:Oh} {E:Nq->Nu->Prop} {R:Result->Nu->Prop}
structure ZSt (h:Heap) (z TI TO T0 i1 i2 l1 l2:NI) (xs ys:Array Nq) (bb:Bool) (i:Nat):Prop where
 zip:Na h z TI TO T0 bb
 t0:∃ a b,IsPair h T0 a b
 ti:IsPair h TI (.ref i1) (.ref i2)
 j1:h.IsListIter i1 l1 i
 j2:h.IsListIter i2 l2 i
 m1:h.IsList l1 xs
 m2:h.IsList l2 ys
end
section
variable {prog:NT} {w:World} {A:Oh} {E:Nq->Nu->Prop} {R:Result->Nu->Prop}
structure ZS0 (h:Heap) (z TI TO i1 i2 l1 l2:NI) (xs ys:Array Nq):Prop where
 zip:IsZip h z TI TO .none
 ti:IsPair h TI (.ref i1) (.ref i2)
 to:∃ a b,IsPair h TO a b
 j1:h.IsListIter i1 l1 0
 j2:h.IsListIter i2 l2 0
 m1:h.IsList l1 xs
 m2:h.IsList l2 ys
variable {s:Nu}
end
section
variable {X:Cx} {B:Bd} {a e:Expr} {f g:En->Option Nh} {fs:En->Option (List Nh)} {pos pp apos cpos:Pos}
variable {body:List Stmt} {h₀:ExceptHandler} {hs:List ExceptHandler} {u:En->Option Out}
end
section
variable {prog:NT} {w:World} {A:Oh} {E:Nq->Nu->Prop} {s:Nu}
end
section
variable {X:Cx} {B:Bd} {a b:Expr} {fs:En->Option (List Nh)} {pos pp:Pos}
end
section
variable {X:Cx} {B:Bd} {a b e st:Expr} {f g:En->Option Nh} {fs:En->Option (List Nh)} {pos pp p2:Pos}
end
section
variable {X:Cx} {B:Bd} {a b e st:Expr} {f g:En->Option Nh} {fs:En->Option (List Nh)} {pos pp p2:Pos}
end
section
variable {X:Cx} {cl:Nat->NI} {a b c e o st:Expr} {es:List Expr} {sts:List Stmt} {f g h:MF} {fs:MFs} {p:MTF} {u:Wd->Option MOut} {pos p2 pp:Pos}
noncomputable def keyIs':List (Key×D)->Option (List Int)
 | []=>some []
 | (.inl n,_)::r=>(keyIs' r).bind λ l=>some (n::l)
 | _=>none
theorem uL:∀ {kvs:List (Key×D)} {ns:List Int},keyIs' kvs=some ns->kvs.map (·.1)=ns.map Sum.inl
 | [],_,h=>by cases h; rfl
 | (.inl n,_)::r,_,h=>by
  obtain ⟨l,h1,h2⟩:=ab h;cases h2;rw [Ny,Ny,uL h1]
 | (.inr _,_)::r,_,h=>by cases h
theorem GM {K:Ni} {θ:List NI} {F:Hp} {kvs:List (Key×D)} {ks:List (Key×V)} (h:DRk K θ F kvs ks):ks.map (·.1)=kvs.map (·.1):=by
 induction h with
 | nil=>rfl
 | cons r t ih=>rw [Ny,Ny,ih,r.1]
noncomputable def yn (f:MF):MF:=λ w=>(f w).bind λ r=>match r.1 with
 | .r n=>(match r.2[n]? with
  | some (.dct kvs)=>(keyIs' kvs).bind λ ns=>if ns.length < 64 then some (.d (.list ((Ey ns).map NS)),r.2) else none
  | _=>none)
 | _=>none
theorem ME.sortC {k:Nat} (hr:Room k X.A) (hm:X.mg "sorted" = none) (h1:ME X cl e f) (hg:Gl X "sorted" := by rfl) (he:Nw [e] X.env=(false,eval e X.env)::Nw [] X.env:=by exact aQ rfl):ME X cl (.Call (.Name "sorted" pp) [e] [] pos) (yn f) :=
 PE.imp (BF (Cn hr.hd) hg hm boot_sorted (ak h1 bu he) (by decide) (by decide) he (iK rfl)) λ σ H Q ⟨θ,F,w,d,s',m,v,hf,q⟩=>by
  obtain ⟨⟨d1,s1⟩,h1,hf⟩:=ab hf;cases d1 with
  | d x=>cases hf
  | r n =>
   dsimp only at hf;split at hf
   ·rename_i kvs hc;obtain ⟨ns,hn,hf⟩:=ab hf;split at hf
    ·rename_i h64;cases hf;refine ⟨θ,F,w,[.r n],_,m,v,by unfold maC maN; rw [h1]; rfl,λ vs θ1 F1 H1 p1 q1 m1 r1=>?_⟩;cases r1 with
     | @cons _ vv _ t r2 r3 =>
      cases r3;obtain ⟨ad,z1,rfl⟩:=r2;obtain ⟨w5,ks,w6,w7⟩:=m1.cel n ad _ z1 hc;have hk:ks.map (·.1)=ns.map Sum.inl:=(GM w7).trans (uL hn);refine ⟨ad,ks,ns,rfl,.inl w6,hk,h64,λ p hp=>?_⟩;have g:=Gr.one (o:=.lst ((Ey ns).map V.int)) m1.sm hp;exact q _ θ1 _ _ p1 (q1.trans g.ff) (m1.grow g) (show Rel X.K _ (.list _) _ from jO (SqL.of au) (RelL.ints _))
    ·cases hf
   ·cases hf
end
end L2.PU
namespace L2.PU
open PySem  PySem.Spec PyProof.Rows
section
variable {X:Cx} {cl:Nat->NI} {a b:Expr} {fs:MFs} {px py pt pos:Pos} {kt k2:Nat} {pt2:Pos}
end
section
variable {X:Cx} {B:Bd} {a e:Expr} {f g:En->Option Nh} {apos cpos:Pos}
end
noncomputable def yx (x:Nh) (n:Nat):List (Key×D):=[(.inr "scene", .d x),(.inr "hearers", .r (n+1)),(.inr "many", .d (.int 0)),(.inr "deep", .d (.int 0)),(.inr "rows", .r (n+2))]
noncomputable def C3 (i:Nat):MF:=λ w=>match w.η[i]? with
 | some (some (.d x))=>some (.r w.s.length,w.s++[.dct (yx x w.s.length),.dct [],.lst []])
 | _=>none
theorem KD:("scene" : Str) ≠ "hearers" /\ ("scene" : Str) ≠ "many" /\ ("scene" : Str) ≠ "deep" /\ ("scene" : Str) ≠ "rows" /\ ("hearers" : Str) ≠ "many" /\ ("hearers" : Str) ≠ "deep" /\ ("hearers" : Str) ≠ "rows" /\ ("many" : Str) ≠ "deep" /\ ("many" : Str) ≠ "rows" /\ ("deep" : Str) ≠ "rows" := by decide +kernel
theorem CY (a b c d e:V):uH [] [(.inr "scene", a),(.inr "hearers", b),(.inr "many", c),(.inr "deep", d),(.inr "rows", e)]=[(.inr "scene", a),(.inr "hearers", b),(.inr "many", c),(.inr "deep", d),(.inr "rows", e)]:=by
 obtain ⟨k1,k2,k3,k4,k5,k6,k7,k8,k9,k0⟩:=KD;simp [uH,o8,k1,k2,k3,k4,k5,k6,k7,k8,k9,k0]
section
variable {X:Cx} {cl:Nat->NI} {e:Expr} {fs:MFs} {pos pp p1 p2 p3 p4 p5 q1 q2 q3 q4 q5:Pos} {j1 j2 j3 j4 j5 i3 i4:Nat}
theorem ME.hallC (i:Nat) {x:Str} (hN:X.N[i]?=some x:=by rfl) (hv:Vis X.env.scope x:=by first | exact Or.inl rfl | exact Or.inr (Or.inl rfl) | exact Or.inr (Or.inr rfl)) (hd:(x==("__debug__" : Str))=false:=by decide) (hcd:(x==("__classdict__" : Str))=false:=by decide) :
  ME X cl (.Dict [some (.Constant (.str "scene") j1 p1),some (.Constant (.str "hearers") j2 p2),some (.Constant (.str "many") j3 p3),some (.Constant (.str "deep") j4 p4),some (.Constant (.str "rows") j5 p5)]
   [.Name x q1,.Dict [] [] q2,.Constant (.int 0) i3 q3,.Constant (.int 0) i4 q4,.List [] q5] pos) (C3 i) :=
 PE.imp (Ih (rq vZ (rB hN hv hd hcd) (rq vZ BE (rq vZ CQ (rq vZ CQ (rq vZ (FV CV) HX))))) rfl rfl (by simp) (show 5<=15 by decide)) λ σ H Q ⟨θ,F,w,d,s',m,v,hf,q⟩=>by
  unfold C3 at hf;split at hf
  ·rename_i y e;cases hf;obtain ⟨u,e1,e2⟩:=v.val i _ e;intro p hp;refine ⟨u,e1,λ a ha=>⟨by simp,λ b hb=>?_⟩⟩;have na:a≠p:=λ z=>by rw [z,au] at ha; cases ha
   have nb:b≠p:=λ z=>by
    rw [z,aq (λ z=>na z.symm),au] at hb; cases hb
   have nab:b≠a:=λ z=>by rw [z,au] at hb; cases hb
   refine ⟨by rw [aq nb.symm,aq na.symm,au],[(.inr "scene", u),(.inr "hearers", .ref a),(.inr "many", .int 0),(.inr "deep", .int 0),(.inr "rows", .ref b)],rfl,(show 5<=15 by decide),?_⟩;rw [CY];have m1:=m.new (o:=.dK []) (c:=.dct []) hp ⟨m.sm.free hp,[],au,.nil⟩;have m2:=m1.new (o:=.dK []) (c:=.dct []) ha ⟨m1.sm.free ha,[],au,.nil⟩;have m3:=m2.new (o:=.lst []) (c:=.lst []) hb ⟨m2.sm.free hb,[],au,.nil⟩;have t0:(θ++[p]++[a]++[b])[w.s.length]?=some p:=by
    rw [<- m.len,NP,NP,Nt (Np _),N5]; rfl
   have t1:(θ++[p]++[a]++[b])[w.s.length+1]?=some a:=by
    rw [<- m.len,NP,NP,Nt (by omega),show θ.length+1 - θ.length=1 by omega]; rfl
   have t2:(θ++[p]++[a]++[b])[w.s.length+2]?=some b:=by
    rw [<- m.len,NP,NP,Nt (by omega),show θ.length+2 - θ.length=2 by omega]; rfl
   have pre:θ<+:θ++[p]++[a]++[b]:=by rw [NP,NP]; exact OP _ _
   have sc:(w.s++[Cell.dct []]++[Cell.dct []]++[Cell.lst []])[w.s.length]?=some (Cell.dct []):=by
    rw [NP,NP,Nt (Np _),N5]; rfl
   have fp:F p=none:=m.sm.free hp;have m4:=m3.put (c':=.dct (yx y w.s.length)) (o:=.dK [(.inr "scene", u),(.inr "hearers", .ref a),(.inr "many", .int 0),(.inr "deep", .int 0),(.inr "rows", .ref b)]) t0 sc rfl
    ⟨fp,_,au,.cons ⟨rfl,e2.mono pre (.refl _)⟩ (.cons ⟨rfl,⟨a,t1,rfl⟩⟩ (.cons ⟨rfl,(cz (K:=X.K) (F:=F))⟩ (.cons ⟨rfl,(cz (K:=X.K) (F:=F))⟩ (.cons ⟨rfl,⟨b,t2,rfl⟩⟩ .nil))))⟩
   have es:(w.s++[Cell.dct []]++[Cell.dct []]++[Cell.lst []]).set w.s.length (.dct (yx y w.s.length))=w.s++[.dct (yx y w.s.length),.dct [],.lst []]:=by
    rw [NP,NP,OB _ _ (Np _),N5]; rfl
   rw [es] at m4;exact q _ _ F _ pre (.refl _) m4 ⟨p,t0,rfl⟩
  ·cases hf
theorem ME.tupB (hm:X.mg "tuple" = none) (ha:MA X cl [e] fs) (hg:Gl X "tuple" := by rfl) (he:Nw [e] X.env=(false,eval e X.env)::Nw [] X.env:=by exact aQ rfl):ME X cl (.Call (.Name "tuple" pp) [e] [] pos) (mCB wR fs) :=
 PE.imp (zJ uw hg hm (by decide +kernel) ha (by decide) (by decide) he (iK rfl)) (Mq G2)
end
end L2.PU
namespace K25
open PySem L2 L2.PU
abbrev DFn:=List D->Sto->Option (D×Sto)
abbrev PFn:=List Nh->Option Nh
noncomputable def top (i:Nat):Stmt:=PySem.Challenge.pw_touchtree_k25_sent.main.body.getD i (.Pass ⟨0,0,0,0⟩)
noncomputable abbrev rj:Stmt:=top 52
noncomputable abbrev qx:Stmt:=top 53
noncomputable abbrev ir:Stmt:=top 54
noncomputable abbrev m8:Stmt:=dS (top 50) 0
noncomputable abbrev rh:Stmt:=top 58
noncomputable abbrev ww:Stmt:=top 14
noncomputable abbrev qy:Stmt:=dS (top 50) 2
noncomputable abbrev rg:Stmt:=top 60
noncomputable abbrev mw:Stmt:=dS (top 40) 0
noncomputable abbrev m7:Stmt:=dS (top 39) 0
noncomputable abbrev m6:Stmt:=dS (top 40) 1
noncomputable abbrev kN:Stmt:=dS (top 39) 1
noncomputable abbrev o6:Stmt:=top 16
noncomputable abbrev xR:Stmt:=top 17
noncomputable abbrev u5:Stmt:=top 18
noncomputable abbrev u4:Stmt:=top 15
noncomputable abbrev ua:Stmt:=top 26
noncomputable abbrev o5:Stmt:=top 30
noncomputable abbrev kM:Stmt:=top 19
noncomputable abbrev u6:Stmt:=top 28
noncomputable abbrev rc:Stmt:=top 29
noncomputable abbrev oP:Stmt:=top 31
noncomputable abbrev re:Stmt:=top 27
noncomputable abbrev ub:Stmt:=top 32
noncomputable abbrev Bx:Stmt:=top 33
noncomputable abbrev t9:Stmt:=top 34
noncomputable abbrev wv:Stmt:=top 38
noncomputable abbrev jN:Stmt:=dS (top 39) 2
noncomputable abbrev lV:Stmt:=dS (top 40) 2
noncomputable abbrev kj:Stmt:=top 59
noncomputable abbrev o7:Stmt:=top 55
noncomputable abbrev rf:Stmt:=top 56
noncomputable abbrev l5:Stmt:=top 61
noncomputable abbrev u7:Stmt:=top 62
noncomputable abbrev nP:Stmt:=top 63
noncomputable abbrev ri:Stmt:=top 64
noncomputable abbrev rm:Stmt:=top 65
noncomputable abbrev pE:Stmt:=dS (top 50) 1
noncomputable abbrev p9:Stmt:=top 13
noncomputable abbrev km:Stmt:=dS (top 50) 4
noncomputable abbrev oQ:Stmt:=dS (top 50) 3
noncomputable abbrev nQ:Stmt:=dS (top 50) 11
noncomputable abbrev xQ:Stmt:=top 20
noncomputable abbrev ro:Stmt:=dS (top 50) 5
noncomputable abbrev lJ:Stmt:=dS (top 49) 0
noncomputable abbrev jo:Stmt:=dS (top 50) 12
noncomputable abbrev nR:Stmt:=dS (top 50) 10
noncomputable abbrev pC:Stmt:=dS (top 50) 9
noncomputable abbrev mx:Stmt:=dS (top 50) 8
noncomputable abbrev gO:Stmt:=dS (top 50) 7
noncomputable abbrev qz:Stmt:=dS (top 50) 6
noncomputable abbrev zI:Stmt:=top 41
noncomputable abbrev xP:Stmt:=top 66
structure Adr where
 (C_Hand C_Hands C_Course C_Hall fK eu ef cr fJ i8 eB fI b7 cq cn bN gG kA ii ig gD gB il ij fE i6 fF gF oB gC i7 eA dB cF gI fH gH im fG cZ fL dD ik cG c0 bE mQ fM bW bn cH dC b8 a7 eD l4 pX:NI)
 (fA d7 d6 cm fw i5 d9 fu b5 cj ci bM gy kx h8 hX gw gq ib h9 fk iZ fm gx ox gu i0 d8 dw cC gA fq gz ic fo cX fB dA ia cD cY bD oy fC bV bm cE dz b6 a6 ee lY pV:Oo)
 (t_AROUND t_BOX_halls t_BOX_hands t_CUTS_OFF t_DEEDS t_HEIGHT t_HIDDEN t_IS_DOWN t_IS_ONCE t_LEFT t_LETS_BY t_MARKS t_MOST_CALLS_WITHIN t_NAME t_TOP t_WIDTH t_WORD_halls t_WORD_hands:Tok)
noncomputable abbrev iT:List Str:=["_law_script", "_law_k"]
noncomputable abbrev iw:List Str:=["_law_script", "_law_k", "_law_many"]
noncomputable abbrev iu:List Str:=["_law_script", "_law_at"]
noncomputable abbrev eL:List Str:=["self", "scene"]
noncomputable abbrev iS:List Str:=["_law_scene_here"]
noncomputable abbrev mE:List Str:=["scene", "name"]
noncomputable abbrev iz:List Str:=["self", "name", "word", "is_down", "deeds", "is_once"]
noncomputable abbrev iR:List Str:=["_law_hall_here", "_law_name", "_law_word", "_law_is_down", "_law_deeds", "_law_is_once"]
noncomputable abbrev dN:List Str:=["self", "scene"]
noncomputable abbrev eK:List Str:=["self"]
noncomputable abbrev eJ:List Str:=["self", "hand"]
noncomputable abbrev cT:List Str:=["self", "word"]
noncomputable abbrev jF:List Str:=["scene", "name"]
noncomputable abbrev nU:List Str:=["scene", "name"]
noncomputable abbrev kQ:List Str:=["scene"]
noncomputable abbrev kP:List Str:=["scene", "name"]
noncomputable abbrev jD:List Str:=["scene", "name", "mark"]
noncomputable abbrev jB:List Str:=["scene", "name"]
noncomputable abbrev kT:List Str:=["scene", "name"]
noncomputable abbrev kR:List Str:=["one", "other"]
noncomputable abbrev iN:List Str:=["scene", "name"]
noncomputable abbrev my:List Str:=["scene"]
noncomputable abbrev iO:List Str:=["area", "x", "y"]
noncomputable abbrev jE:List Str:=["rows", "x", "y"]
noncomputable abbrev rC:List Str:=["scene", "x", "y"]
noncomputable abbrev jC:List Str:=["scene", "x", "y"]
noncomputable abbrev mz:List Str:=["one", "other"]
noncomputable abbrev iy:List Str:=["self", "path"]
noncomputable abbrev gY:List Str:=["self", "hand", "moment", "x", "y"]
noncomputable abbrev eZ:List Str:=["_law_hall_here", "_law_name"]
noncomputable abbrev jH:List Str:=["_law_scene_here", "_law_name"]
noncomputable abbrev iQ:List Str:=["_law_scene_here", "_law_name"]
noncomputable abbrev jG:List Str:=["_law_hall_here", "_law_name"]
noncomputable abbrev kU:List Str:=["_law_hall_here", "_law_deed"]
noncomputable abbrev iP:List Str:=["_law_hall_here", "_law_name", "_law_word", "_law_is_down"]
noncomputable abbrev e7:List Str:=["_law_hall_here", "_law_name", "_law_word"]
noncomputable abbrev iU:List Str:=["_law_hall_here", "_law_name", "_law_word"]
noncomputable abbrev g6:List Str:=["self"]
noncomputable abbrev kS:List Str:=["scene", "name"]
noncomputable abbrev fb:List Str:=["self", "name", "word", "is_down"]
noncomputable abbrev f7:List Str:=["self", "number"]
noncomputable abbrev e9:List Str:=["self", "number"]
noncomputable abbrev rF:List Str:=["scene", "name"]
noncomputable abbrev iV:List Str:=["self", "name"]
noncomputable abbrev dq:List Str:=["self", "word", "depth", "told"]
noncomputable abbrev ce:List Str:=["self", "deed", "course"]
noncomputable abbrev fe:List Str:=["self", "deed", "course"]
noncomputable abbrev gZ:List Str:=["self", "number", "course"]
noncomputable abbrev dO:List Str:=["self", "box", "is_down", "course"]
noncomputable abbrev bB:List Str:=["self", "name", "course"]
noncomputable abbrev iA:List Str:=["self", "name", "word"]
noncomputable abbrev pG:List Str:=["hall", "rows"]
structure Tx (K:Ni) (mg:Str->Option Nq) (t:Adr):Prop where
 mg_Hand:mg "Hand" = some (.ref t.C_Hand)
 mg_Hands:mg "Hands" = some (.ref t.C_Hands)
 mg_Course:mg "Course" = some (.ref t.C_Course)
 mg_Hall:mg "Hall" = some (.ref t.C_Hall)
 mk_Hand:Mk K t.C_Hand t.cq
 mk_Hands:Mk K t.C_Hands t.b7
 mk_Course:Mk K t.C_Course t.bW
 mk_Hall:Mk K t.C_Hall t.cr
 yj:mg "_law_cell" = some (.ref t.fK)
 bf:mg "_law_drawn" = some (.ref t.eu)
 xg:mg "_law_scene" = some (.ref t.ef)
 yi:mg "_law_hall" = some (.ref t.fJ)
 kB:mg "box_of" = some (.ref t.i8)
 pL:Meth K t.C_Hall "hear" t.eB
 rP:mg "_law_hear" = some (.ref t.fI)
 rN:Meth K t.C_Hands "hand_of" t.cn
 pK:Meth K t.C_Hand "tell_holder" t.bN
 uc:mg "children" = some (.ref t.gG)
 uJ:mg "below" = some (.ref t.kA)
 AM:mg "painted" = some (.ref t.ii)
 jd:mg "path_of" = some (.ref t.ig)
 o9:mg "has_mark" = some (.ref t.gD)
 zl:mg "is_shown" = some (.ref t.gB)
 vj:mg "area_of" = some (.ref t.il)
 AN:mg "overlap" = some (.ref t.ij)
 yf:mg "window_of" = some (.ref t.fE)
 BQ:mg "takers" = some (.ref t.i6)
 yg:mg "has_point" = some (.ref t.fF)
 zn:mg "first_at" = some (.ref t.gF)
 Gm:mg "hit" = some (.ref t.oB)
 zm:mg "hit_path" = some (.ref t.gC)
 BR:mg "shared" = some (.ref t.i7)
 wa:Meth K t.C_Hand "lead" t.eA
 vg:Meth K t.C_Hands "move" t.dB
 ko:mg "_law_is_there" = some (.ref t.cF)
 ud:mg "_law_box" = some (.ref t.gI)
 rO:mg "_law_path" = some (.ref t.fH)
 zo:mg "_law_cut" = some (.ref t.gH)
 AO:mg "_law_do" = some (.ref t.im)
 yh:mg "_law_turn" = some (.ref t.fG)
 rQ:mg "_law_gone" = some (.ref t.cZ)
 yk:mg "_law_call" = some (.ref t.fL)
 oS:Meth K t.C_Hall "boxes" t.dD
 qf:mg "has_box" = some (.ref t.ik)
 tL:Meth K t.C_Hall "numbers" t.cG
 uI:Meth K t.C_Hall "unhear" t.c0
 ny:Meth K t.C_Hall "unhear_if_there" t.bE
 LZ:mg "cut" = some (.ref t.mQ)
 xf:Meth K t.C_Hall "cut" t.fM
 nW:Meth K t.C_Hall "do_deed_on_box" t.bn
 tN:Meth K t.C_Hall "do_deed" t.cH
 vh:Meth K t.C_Hall "rouse" t.dC
 qS:Meth K t.C_Hall "give_turn" t.b8
 mF:Meth K t.C_Hall "go_along" t.a7
 wb:Meth K t.C_Hall "call" t.eD
 EQ:mg "sent" = some (.ref t.l4)
 Gk:mg "law" = some (.ref t.pX)
 c_AROUND:mg "AROUND" = some (.int (1) t.t_AROUND)
 c_BOX_halls:mg "BOX_halls" = some (.int (0) t.t_BOX_halls)
 c_BOX_hands:mg "BOX_hands" = some (.int (1) t.t_BOX_hands)
 c_CUTS_OFF:mg "CUTS_OFF" = some (.str "c" t.t_CUTS_OFF)
 c_DEEDS:mg "DEEDS" = some (.int (3) t.t_DEEDS)
 c_HEIGHT:mg "HEIGHT" = some (.int (5) t.t_HEIGHT)
 c_HIDDEN:mg "HIDDEN" = some (.str "h" t.t_HIDDEN)
 c_IS_DOWN:mg "IS_DOWN" = some (.int (2) t.t_IS_DOWN)
 c_IS_ONCE:mg "IS_ONCE" = some (.int (4) t.t_IS_ONCE)
 c_LEFT:mg "LEFT" = some (.int (2) t.t_LEFT)
 c_LETS_BY:mg "LETS_BY" = some (.str "l" t.t_LETS_BY)
 c_MARKS:mg "MARKS" = some (.int (6) t.t_MARKS)
 c_MOST_CALLS_WITHIN:mg "MOST_CALLS_WITHIN" = some (.int (3) t.t_MOST_CALLS_WITHIN)
 c_NAME:mg "NAME" = some (.int (0) t.t_NAME)
 c_TOP:mg "TOP" = some (.int (3) t.t_TOP)
 c_WIDTH:mg "WIDTH" = some (.int (4) t.t_WIDTH)
 c_WORD_halls:mg "WORD_halls" = some (.int (1) t.t_WORD_halls)
 c_WORD_hands:mg "WORD_hands" = some (.int (0) t.t_WORD_hands)
 z_any:mg "any" = none
 z_enumerate:mg "enumerate" = none
 z_int:mg "int" = none
 z_len:mg "len" = none
 z_list:mg "list" = none
 z_max:mg "max" = none
 z_min:mg "min" = none
 z_range:mg "range" = none
 z_reversed:mg "reversed" = none
 z_sorted:mg "sorted" = none
 z_sum:mg "sum" = none
 z_tuple:mg "tuple" = none
 z_zip:mg "zip" = none
 al_cut_scenes:mg "cut_scenes" = some (.ref t.mQ)
 cl_Hand:Cls K t.C_Hand
 cl_Hands:Cls K t.C_Hands
 cl_Course:Cls K t.C_Course
 cl_Hall:Cls K t.C_Hall
 na_Course_depth:NoAttr K t.C_Course "depth"
 na_Course_is_ended:NoAttr K t.C_Course "is_ended"
 na_Course_is_kept:NoAttr K t.C_Course "is_kept"
 na_Course_is_last_turn:NoAttr K t.C_Course "is_last_turn"
 na_Course_told:NoAttr K t.C_Course "told"
 na_Course_word:NoAttr K t.C_Course "word"
 na_Hall_hearers:NoAttr K t.C_Hall "hearers"
 na_Hall_made:NoAttr K t.C_Hall "made"
 na_Hall_scene:NoAttr K t.C_Hall "scene"
 na_Hand_clicked:NoAttr K t.C_Hand "clicked"
 na_Hand_clicked_moment:NoAttr K t.C_Hand "clicked_moment"
 na_Hand_held_by:NoAttr K t.C_Hand "held_by"
 na_Hand_pressed_at:NoAttr K t.C_Hand "pressed_at"
 na_Hand_trail:NoAttr K t.C_Hand "trail"
 na_Hand_was_double:NoAttr K t.C_Hand "was_double"
 na_Hands_known:NoAttr K t.C_Hands "known"
 na_Hands_scene:NoAttr K t.C_Hands "scene"
 cy:Fun K "_law_cell" "_law_cell" rj t.fK t.fA
 af:Fun K "_law_drawn" "_law_drawn" qx t.eu t.d7
 dh:Fun K "_law_scene" "_law_scene" ir t.ef t.d6
 cw:Fun K "__init__" "Hall.__init__" m8 t.cr t.cm
 hG:Fun K "_law_hall" "_law_hall" rh t.fJ t.fw
 aG:Fun K "box_of" "box_of" ww t.i8 t.i5
 bo:Fun K "hear" "Hall.hear" qy t.eB t.d9
 bG:Fun K "_law_hear" "_law_hear" rg t.fI t.fu
 cK:Fun K "__init__" "Hands.__init__" mw t.b7 t.b5
 cv:Fun K "__init__" "Hand.__init__" m7 t.cq t.cj
 bC:Fun K "hand_of" "Hands.hand_of" m6 t.cn t.ci
 a9:Fun K "tell_holder" "Hand.tell_holder" kN t.bN t.bM
 bz:Fun K "children" "children" o6 t.gG t.gy
 bY:Fun K "below" "below" xR t.kA t.kx
 dJ:Fun K "painted" "painted" u5 t.ii t.h8
 aB:Fun K "path_of" "path_of" u4 t.ig t.hX
 aZ:Fun K "has_mark" "has_mark" ua t.gD t.gw
 eW:Fun K "is_shown" "is_shown" o5 t.gB t.gq
 cA:Fun K "area_of" "area_of" kM t.il t.ib
 eS:Fun K "overlap" "overlap" u6 t.ij t.h9
 dQ:Fun K "window_of" "window_of" rc t.fE t.fk
 ja:Fun K "takers" "takers" oP t.i6 t.iZ
 bF:Fun K "has_point" "has_point" re t.fF t.fm
 gN:Fun K "first_at" "first_at" ub t.gF t.gx
 oH:Fun K "hit" "hit" Bx t.oB t.ox
 dL:Fun K "hit_path" "hit_path" t9 t.gC t.gu
 jb:Fun K "shared" "shared" wv t.i7 t.i0
 eG:Fun K "lead" "Hand.lead" jN t.eA t.d8
 dG:Fun K "move" "Hands.move" lV t.dB t.dw
 ay:Fun K "_law_is_there" "_law_is_there" kj t.cF t.cC
 bS:Fun K "_law_box" "_law_box" o7 t.gI t.gA
 bQ:Fun K "_law_path" "_law_path" rf t.fH t.fq
 eX:Fun K "_law_cut" "_law_cut" l5 t.gH t.gz
 vU:Fun K "_law_do" "_law_do" u7 t.im t.ic
 sW:Fun K "_law_turn" "_law_turn" nP t.fG t.fo
 bh:Fun K "_law_gone" "_law_gone" ri t.cZ t.cX
 c7:Fun K "_law_call" "_law_call" rm t.fL t.fB
 bp:Fun K "boxes" "Hall.boxes" pE t.dD t.dA
 aR:Fun K "has_box" "has_box" p9 t.ik t.ia
 cI:Fun K "numbers" "Hall.numbers" km t.cG t.cD
 dW:Fun K "unhear" "Hall.unhear" oQ t.c0 t.cY
 b9:Fun K "unhear_if_there" "Hall.unhear_if_there" nQ t.bE t.bD
 lF:Fun K "cut" "cut" xQ t.mQ t.oy
 c8:Fun K "cut" "Hall.cut" ro t.fM t.fC
 aH:Fun K "__init__" "Course.__init__" lJ t.bW t.bV
 oN:Fun K "do_deed_on_box" "Hall.do_deed_on_box" jo t.bn t.bm
 uU:Fun K "do_deed" "Hall.do_deed" nR t.cH t.cE
 wt:Fun K "rouse" "Hall.rouse" pC t.dC t.dz
 sX:Fun K "give_turn" "Hall.give_turn" mx t.b8 t.b6
 aL:Fun K "go_along" "Hall.go_along" gO t.a7 t.a6
 di:Fun K "call" "Hall.call" qz t.eD t.ee
 kI:Fun K "sent" "sent" zI t.l4 t.lY
 sV:Fun K "law" "law" xP t.pX t.pV
 yO:Binds K t.fA iT []
 bg:Binds K t.d7 iw []
 xl:Binds K t.d6 iu []
 tW:Binds K t.cm eL []
 yN:Binds K t.fw iS []
 kG:Binds K t.i5 mE []
 qM:Binds K t.d9 iz []
 sI:Binds K t.fu iR []
 sM:Binds K t.b5 dN []
 tV:Binds K t.cj eK []
 tU:Binds K t.ci eJ []
 qq:Binds K t.bM cT []
 ux:Binds K t.gy jF []
 uO:Binds K t.kx nU []
 Bb:Binds K t.h8 kQ []
 jk:Binds K t.hX kP []
 pv:Binds K t.gw jD []
 zp:Binds K t.gq jB []
 vJ:Binds K t.ib kT []
 Bc:Binds K t.h9 kR []
 yK:Binds K t.fk iN []
 Cp:Binds K t.iZ my []
 yL:Binds K t.fm iO []
 zr:Binds K t.gx jE []
 GX:Binds K t.ox rC []
 zq:Binds K t.gu jC []
 Cs:Binds K t.i0 mz []
 xm:Binds K t.d8 iy []
 wk:Binds K t.dw gY []
 kz:Binds K t.cC eZ []
 uy:Binds K t.gA jH []
 sH:Binds K t.fq iQ []
 zt:Binds K t.gz jG []
 Be:Binds K t.ic kU []
 yM:Binds K t.fo iP []
 sJ:Binds K t.cX e7 []
 yP:Binds K t.fB iU []
 pW:Binds K t.dA g6 []
 qp:Binds K t.ia kS []
 uP:Binds K t.cD fb []
 vK:Binds K t.cY f7 []
 oA:Binds K t.bD e9 []
 GY:Binds K t.oy rF []
 yQ:Binds K t.fC iV []
 lO:Binds K t.bV dq []
 oK:Binds K t.bm ce []
 uQ:Binds K t.cE fe []
 wl:Binds K t.dz gZ []
 sN:Binds K t.b6 dO []
 nt:Binds K t.a6 bB []
 xn:Binds K t.ee iA []
 E7:Binds K t.lY pG []
 Ms:Binds K t.pV ["_law_script"] []
theorem tx_ex {K:Ni} {mg:Str->Option Nq} {C_Hand C_Hands C_Course C_Hall fK eu ef cr fJ i8 eB fI b7 cq cn bN gG kA ii ig gD gB il ij fE i6 fF gF oB gC i7 eA dB cF gI fH gH im fG cZ fL dD ik cG c0 bE mQ fM bW bn cH dC b8 a7 eD l4 pX:NI} {fA d7 d6 cm fw i5 d9 fu b5 cj ci bM gy kx h8 hX gw gq ib h9 fk iZ fm gx ox gu i0 d8 dw cC gA fq gz ic fo cX fB dA ia cD cY bD oy fC bV bm cE dz b6 a6 ee lY pV:Oo} {t_AROUND t_BOX_halls t_BOX_hands t_CUTS_OFF t_DEEDS t_HEIGHT t_HIDDEN t_IS_DOWN t_IS_ONCE t_LEFT t_LETS_BY t_MARKS t_MOST_CALLS_WITHIN t_NAME t_TOP t_WIDTH t_WORD_halls t_WORD_hands:Tok} (tx:Tx K mg ⟨C_Hand,C_Hands,C_Course,C_Hall,fK,eu,ef,cr,fJ,i8,eB,fI,b7,cq,cn,bN,gG,kA,ii,ig,gD,gB,il,ij,fE,i6,fF,gF,oB,gC,i7,eA,dB,cF,gI,fH,gH,im,fG,cZ,fL,dD,ik,cG,c0,bE,mQ,fM,bW,bn,cH,dC,b8,a7,eD,l4,pX,fA,d7,d6,cm,fw,i5,d9,fu,b5,cj,ci,bM,gy,kx,h8,hX,gw,gq,ib,h9,fk,iZ,fm,gx,ox,gu,i0,d8,dw,cC,gA,fq,gz,ic,fo,cX,fB,dA,ia,cD,cY,bD,oy,fC,bV,bm,cE,dz,b6,a6,ee,lY,pV,t_AROUND,t_BOX_halls,t_BOX_hands,t_CUTS_OFF,t_DEEDS,t_HEIGHT,t_HIDDEN,t_IS_DOWN,t_IS_ONCE,t_LEFT,t_LETS_BY,t_MARKS,t_MOST_CALLS_WITHIN,t_NAME,t_TOP,t_WIDTH,t_WORD_halls,t_WORD_hands⟩):∃ t,Tx K mg t:=⟨_,tx⟩
end K25
section
open PySem PySem.W PyProof.Rows
set_option maxRecDepth 100000 in
set_option maxHeartbeats 0 in
theorem K25.tx:∃ K:Params->Frag,(∀ w h,K25.hk.H.says w h->(K w.params).In h)/\∀ (P:Params) (mg:Str->Option Nq) (h:Heap),(K P).In h->h.Ns mainGlobals mg->∃ t,K25.Tx (K P) mg t:=by
 refine' L2.PU.tx_mk (H:=K25.hk.H) (T:=λ K mg=>∃ t,K25.Tx K mg t) (λ w h Y=>show InK _ w h from Y) ?tx
 (case tx =>
  refine (λ (f:PySem.Challenge.rw_touchtree_k25_sent=PySem.Challenge.rw_touchtree_k25_sent->_)=>f rfl) ?_
  k_fill
  intro _ P mg h KX G
  refine' K25.tx_ex ?t2
  case t2 =>
   constructor
   all_goals first
   | exact mg_of KX G (by k_is)
   | exact mg_none_of KX G (by k_is)
   | exact L2.PU.na_mk (by k_is)
   | exact L2.fun_mk (by k_is) (by k_is) (by (try dsimp only); k_is)
   | exact L2.PU.bi_mk (by (repeat' intro _); exact rfl)
   | (constructor <;> (try dsimp only) <;> k_is)
)
end
namespace K25
open PySem L2 L2.PU
noncomputable def cl (t:Adr):Nat->NI
 | 0=>t.C_Hand
 | 1=>t.C_Hands
 | 2=>t.C_Course
 | _=>t.C_Hall
section
variable {Pr:NT} {w:World} {K:Ni} {mg:Str->Option Nq} {base:Heap} {t:Adr}
section
variable {k:Nat} {sg qB wF ni ul yt vo uj vz vq vp uh rY rZ wD uk BX wE nh kY ui qC uo r8 n5 r9 um se vB r6 BY qD sj nl lK iW vt jq oU n8 n6 pP mI pQ qE qA nn sd mH pO si zR:Nat}
variable {jY az br fj eU aS cx jJ me md lg jU jV nF lj tj nG li iY dX tm cQ jh:PFn}
variable {gh gf dU ji bj dY lm dZ mf jW du j0 b0 bL cN cV hW gR gQ iH fS cW jj gi jX fR iG jZ qm:DFn}
variable (tx:Tx K mg t)
variable (lB:FnOk Pr w K mg base CX0 sg t.fK t.fA iT (spP K jY)) (qJ:sg<=k)
variable (aK:FnOk Pr w K mg base CX0 qB t.eu t.d7 iw (spP K az)) (aP:qB<=k)
variable (bJ:FnOk Pr w K mg base CX0 wF t.i8 t.i5 mE (spP K br)) (cU:wF<=k)
variable (gU:FnOk Pr w K mg base CX0 ni t.cq t.cj eK (spM K (cl t) gh)) (mK:ni+1<=k)
variable (gK:FnOk Pr w K mg base CX0 ul t.gG t.gy jF (spP K fj)) (kZ:ul<=k)
variable (gM:FnOk Pr w K mg base CX0 yt t.kA t.kx nU (spP K eU)) (kC:yt<=k)
variable (a8:FnOk Pr w K mg base CX0 vo t.ig t.hX kP (spP K aS)) (cb:vo<=k)
variable (cR:FnOk Pr w K mg base CX0 uj t.gD t.gw jD (spP K cx)) (g8:uj<=k)
variable (ly:FnOk Pr w K mg base CX0 vz t.il t.ib kT (spP K jJ)) (pe:vz<=k)
variable (nK:FnOk Pr w K mg base CX0 vq t.ij t.h9 kR (spP K me)) (ur:vq<=k)
variable (nJ:FnOk Pr w K mg base CX0 vp t.ii t.h8 kQ (spP K md)) (uq:vp<=k)
variable (mj:FnOk Pr w K mg base CX0 uh t.gB t.gq jB (spP K lg)) (su:uh<=k)
variable (lv:FnOk Pr w K mg base CX0 rY t.fE t.fk iN (spP K jU)) (qF:rY<=k)
variable (lw:FnOk Pr w K mg base CX0 rZ t.fF t.fm iO (spP K jV)) (qG:rZ<=k)
variable (oZ:FnOk Pr w K mg base CX0 wD t.i6 t.iZ my (spP K nF)) (vC:wD<=k)
variable (mn:FnOk Pr w K mg base CX0 uk t.gF t.gx jE (spP K lj)) (sy:uk<=k)
variable (vR:FnOk Pr w K mg base CX0 BX t.oB t.ox rC (spP K tj)) (zV:BX<=k)
variable (o0:FnOk Pr w K mg base CX0 wE t.i7 t.i0 mz (spP K nG)) (vD:wE<=k)
variable (gT:FnOk Pr w K mg base CX0 nh t.cn t.ci eJ (spM K (cl t) gf)) (mJ:nh<=k)
variable (eQ:FnOk Pr w K mg base CX0 kY t.bN t.bM cT (spM K (cl t) dU)) (kE:kY<=k)
variable (ml:FnOk Pr w K mg base CX0 ui t.gC t.gu jC (spP K li)) (sx:ui<=k)
variable (j9:FnOk Pr w K mg base CX0 qC t.eA t.d8 iy (spM K (cl t) ji)) (pT:qC<=k)
variable (jL:FnOk Pr w K mg base CX0 uo t.gI t.gA jH (spP K iY)) (oa:uo<=k)
variable (fN:FnOk Pr w K mg base CX0 r8 t.fH t.fq iQ (spP K dX)) (jP:r8<=k)
variable (bw:FnOk Pr w K mg base CX0 n5 t.cF t.cC eZ (spM K (cl t) bj)) (c9:n5<=k)
variable (fO:FnOk Pr w K mg base CX0 r9 t.fI t.fu iR (spM K (cl t) dY)) (jQ:r9<=k)
variable (mq:FnOk Pr w K mg base CX0 um t.gH t.gz jG (spM K (cl t) lm)) (sA:um<=k)
variable (fP:FnOk Pr w K mg base CX0 se t.cZ t.cX e7 (spM K (cl t) dZ)) (jR:se<=k)
variable (vT:FnOk Pr w K mg base CX0 vB t.im t.ic kU (spM K (cl t) mf)) (ut:vB<=k)
variable (sS:FnOk Pr w K mg base CX0 r6 t.fG t.fo iP (spM K (cl t) jW)) (qH:r6<=k)
variable (vS:FnOk Pr w K mg base CX0 BY t.mQ t.oy rF (spP K tm)) (zW:BY<=k)
variable (eF:FnOk Pr w K mg base CX0 qD t.eB t.d9 iz (spM K (cl t) du)) (je:qD<=k)
variable (lE:FnOk Pr w K mg base CX0 sj t.fM t.fC iV (spM K (cl t) j0)) (qL:sj<=k)
variable (cu:FnOk Pr w K mg base CX0 nl t.a7 t.a6 bB (spM K (cl t) b0)) (f9:nl<=k)
variable (bX:FnOk Pr w K mg base CX0 lK t.bW t.bV dq (spM K (cl t) bL)) (eM:lK+1<=k)
variable (c6:FnOk Pr w K mg base CX0 iW t.bE t.bD e9 (spM K (cl t) cN)) (iE:iW<=k)
variable (dI:FnOk Pr w K mg base CX0 vt t.ik t.ia kS (spP K cQ)) (iB:vt<=k)
variable (js:FnOk Pr w K mg base CX0 jq t.bn t.bm ce (spM K (cl t) cV)) (iX:jq<=k)
variable (iI:FnOk Pr w K mg base CX0 oU t.c0 t.cY f7 (spM K (cl t) hW)) (oe:oU<=k)
variable (oG:FnOk Pr w K mg base CX0 n8 t.cH t.cE fe (spM K (cl t) gR)) (nr:n8<=k)
variable (iq:FnOk Pr w K mg base CX0 n6 t.cG t.cD fb (spM K (cl t) gQ)) (nq:n6<=k)
variable (p0:FnOk Pr w K mg base CX0 pP t.dC t.dz gZ (spM K (cl t) iH)) (oW:pP<=k)
variable (mS:FnOk Pr w K mg base CX0 mI t.b8 t.b6 dO (spM K (cl t) fS)) (lN:mI<=k)
variable (dE:FnOk Pr w K mg base CX0 pQ t.dD t.dA g6 (spM K (cl t) cW)) (iF:pQ<=k)
variable (kg:FnOk Pr w K mg base CX0 qE t.eD t.ee iA (spM K (cl t) jj)) (pU:qE<=k)
variable (j8:FnOk Pr w K mg base CX0 qA t.ef t.d6 iu (spP K jh)) (pR:qA<=k)
variable (gW:FnOk Pr w K mg base CX0 nn t.cr t.cm eL (spM K (cl t) gi)) (mL:nn+1<=k)
variable (lz:FnOk Pr w K mg base CX0 sd t.fJ t.fw iS (spM K (cl t) jX)) (qI:sd<=k)
variable (gn:FnOk Pr w K mg base CX0 mH t.b7 t.b5 dN (spM K (cl t) fR)) (lM:mH+1<=k)
variable (jm:FnOk Pr w K mg base CX0 pO t.dB t.dw gY (spM K (cl t) iG)) (oV:pO<=k)
variable (lC:FnOk Pr w K mg base CX0 si t.fL t.fB iU (spM K (cl t) jZ)) (qK:si<=k)
variable (tu:FnOk Pr w K mg base CX0 zR t.l4 t.lY pG (spM K (cl t) qm)) (yu:zR<=k)
noncomputable abbrev y0:List Str:=["_law_script", "_law_k"]
theorem wN:aE y0 iT (ah rj):=bP
noncomputable def lf  : En->Option Out :=
 (cP (sIf (bT (l2 pEq (eV 0) (oE (λ η=>(aN η).bind gL)))) (hJ (l2 nv (eC (.int 7)) (eV 1))) sNx)
  (hJ (l2 aM (l2 pIx (eV 0) (l2 pH (eV 1) (lA oI (aC (eV 0) aN)))) (l2 nv (eC (.int 6553)) (l2 rG (eV 1) (lA oI (aC (eV 0) aN)))))))
include tx in
theorem w8:FnOk Pr w K mg base CX0 (k+1) t.fK t.fA iT (spP K (cJ 2 2 (lf))) :=
 fnP tx.cy wN λ _ _ _ _ _ _ _ hr =>
  (@bi _ _ _ _ _ _ (@S.ifS _ _ _ _ _ _ _ _ _ (tX hr (av 0) (cO (dj ao))) (@bO _ _ _ _ (i9 (sY ar (av 1)))) Ss.nil)
  (@bO _ _ _ _ (i9 (cL (bA (av 0) (E.mod (av 1) (E.len tx.z_len (ac (av 0) ao)))) (sY ar (E.fdiv (av 1) (E.len tx.z_len (ac (av 0) ao))))))))
noncomputable abbrev xo:List Str:=["_law_script", "_law_k", "_law_many", "_law_cell_here"]
theorem lQ:aE xo iw (ah qx):=bP
noncomputable def jT (jY:PFn):En->Option Out :=
 (cP (f6 3 (l2 pH (l2 aM (l2 nv (l2 pH (lA jY (aC (eV 0) (aC (eV 1) aN))) (eC (.int 2147483563))) (eC (.int 69069))) (l2 nv (eC (.int 104723)) (l2 aM (eV 1) (eC (.int 1))))) (eC (.int 2147483563))))
  (cP (f6 3 (l2 pH (l2 aM (l2 nv (eV 3) (eV 3)) (l2 rG (eV 3) (eC (.int 3)))) (eC (.int 2147483399))))
  (hJ (l2 pH (l2 rG (l2 pH (l2 aM (l2 nv (eV 3) (eV 3)) (l2 rG (eV 3) (eC (.int 7)))) (eC (.int 2147483647))) (eC (.int 11))) (eV 2)))))
include tx lB qJ in
theorem v4:FnOk Pr w K mg base CX0 (k+1) t.eu t.d7 iw (spP K (cJ 3 4 (jT jY))) :=
 fnP tx.af lQ λ _ _ _ _ _ _ _ hr =>
  (@bi _ _ _ _ _ _ (jr 3 lQ.nd (E.mod (cL (sY (E.mod (aW lB hr qJ tx.yj tx.cy.kp tx.yO (ac (av 0) (ac (av 1) ao))) ar) ar) (sY ar (cL (av 1) ar))) ar))
  (@bi _ _ _ _ _ _ (jr 3 lQ.nd (E.mod (cL (sY (av 3) (av 3)) (E.fdiv (av 3) ar)) ar))
  (@bO _ _ _ _ (i9 (E.mod (E.fdiv (E.mod (cL (sY (av 3) (av 3)) (E.fdiv (av 3) ar)) ar) ar) (av 2))))))
noncomputable abbrev j7:List Str:=["_law_script", "_law_at", "_law_found", "_law_turn_here", "_law_k", "_law_here", "_law_around", "_law_places", "_law_sizes", "_law_marks", "_law_j", "_law_sign", "_law_name"]
theorem aY:aE j7 iu (ah ir):=bP
noncomputable def jS (az:PFn):En->Option Out :=
 (cP (f6 2 (lA (λ ds=>if ds.length<=No then some (.tuple ds) else none) aN))
  (cP (f6 3 (lA az (aC (eV 0) (aC (l2 aM (eV 1) (eC (.int 1))) (aC (eC (.int 8)) aN)))))
  (cP (qP (λ η=>((aC (lA az (aC (eV 0) (aC (eV 1) (aC (eC (.int 8)) aN)))) aN) η).bind rng1) (tgN 4)
  (cP (f6 5 (l2 aM (l2 aM (eV 1) (eC (.int 3))) (l2 nv (eC (.int 9)) (eV 4))))
  (cP (f6 6 (l2 pIx (l2 aM (oE (λ η=>((aC (eC (.str "")) aN) η).bind gL)) (oE (bH [none] (lI nH (eV 2)) (tgN 0) cS (l2 pIx (eV 0) (eC (.int 0)))))) (lA az (aC (eV 0) (aC (eV 5) (aC (l2 aM (eV 4) (eC (.int 1))) aN))))))
  (cP (m9 7 (bH [none,some 0,some 5] (λ η=>((aC (eC (.int 2)) aN) η).bind rng1) (tgN 0) cS (l2 wS (lA az (aC (eV 1) (aC (l2 aM (l2 aM (eV 2) (eC (.int 1))) (eV 0)) (aC (eC (.int 9)) aN)))) (eC (.int 3)))))
  (λ η=>(cP (m9 8 (bH [none,some 0,some 5] (λ η=>((aC (eC (.int 2)) aN) η).bind rng1) (tgN 0) cS (lA az (aC (eV 1) (aC (l2 aM (l2 aM (eV 2) (eC (.int 3))) (eV 0)) (aC (eC (.int 9)) aN))))))
  (λ η=>(cP (f6 9 (eC (.str "")))
  (cP (qP (λ η=>((aC (eC (.str "cfhl")) aN) η).bind enS) (tgT (aX (tgN 10) (aX (tgN 11) gX)))
  (sIf (bT (l2 pEq (lA az (aC (eV 0) (aC (l2 aM (l2 aM (eV 5) (eC (.int 5))) (eV 10)) (aC (l2 pIx (oE (λ η=>((aC (eC (.int 4)) (aC (eC (.int 2)) (aC (eC (.int 9)) (aC (eC (.int 6)) aN)))) η).bind gL)) (eV 10)) aN)))) (eC (.int 0)))) (f6 9 (l2 aM (eV 9) (eV 11))) sNx))
  (cP (f6 12 (l2 pIx (eC (.str "dbgahcfe")) (l2 pH (l2 aM (eV 4) (eV 3)) (eC (.int 8)))))
  (f6 2 (l2 aM (eV 2) (lA (λ ds=>if ds.length<=No then some (.tuple ds) else none) (aC (l2 aM (l2 aM (lA (λ ds=>if ds.length<=No then some (.tuple ds) else none) (aC (eV 12) (aC (eV 6) aN))) (lA wR (aC (l2 aM (eV 7) (eV 8)) aN))) (lA (λ ds=>if ds.length<=No then some (.tuple ds) else none) (aC (eV 9) aN))) aN))))))) (frz 8 η))) (frz 7 η))))))
  (hJ (eV 2)))))
include tx aK aP in
theorem v0:FnOk Pr w K mg base CX0 (k+1) t.ef t.d6 iu (spP K (cJ 2 13 (jS az))) :=
 fnP tx.dh aY λ _ _ _ _ _ _ _ hr =>
  (@bi _ _ _ _ _ _ (jr 2 aY.nd (dR ao))
  (@bi _ _ _ _ _ _ (jr 3 aY.nd (aW aK hr aP tx.bf tx.af.kp tx.bg (ac (av 0) (ac (cL (av 1) ar) (ac ar ao)))))
  (@bi _ _ _ _ _ _ (@S.for _ _ _ _ _ _ _ _ _ _ _ N0 rfl (I.rng1 tx.z_range (ac (aW aK hr aP tx.bf tx.af.kp tx.bg (ac (av 0) (ac (av 1) (ac ar ao)))) ao)) (aJ (i:=4) aY.nd rfl (by first | exact Or.inl rfl | exact Or.inr rfl) ) (aD (i:=4))
  (@bi _ _ _ _ _ _ (jr 5 aY.nd (cL (cL (av 1) ar) (sY ar (av 4))))
  (@bi _ _ _ _ _ _ (jr 6 aY.nd (bA (cL (cO (dj (ac bc ao))) (cO (jn (N':=["_law_box_here"]) (mp:=[none]) rfl (ba j7 (ah ir) rfl rfl (by decide +kernel)) (aD (i:=0)) (by decide) (I.tup (av 2)) (λ _ _ _=>⟨(aJ (i:=0) (show (["_law_box_here"]:List Str).Nodup by decide +kernel) rfl (Or.inl rfl) (.inr rfl)),Ts.nil,(bA (av 0) ar)⟩)))) (aW aK hr aP tx.bf tx.af.kp tx.bg (ac (av 0) (ac (av 5) (ac (cL (av 4) ar) ao))))))
  (@bi _ _ _ _ _ _ (S.setC 7 (N':=["_law_j", "_law_script", "_law_here"]) (mp:=[none,some 0,some 5]) rfl aY.nd (ba j7 (ah ir) rfl rfl (by decide +kernel)) (aD (i:=0)) (by decide) (I.rng1 tx.z_range (ac ar ao)) (λ _ _ _=>⟨(aJ (i:=0) (show (["_law_j", "_law_script", "_law_here"]:List Str).Nodup by decide +kernel) rfl (Or.inl rfl) (.inr rfl)),Ts.nil,(E.sub (aW aK hr aP tx.bf tx.af.kp tx.bg (ac (av 1) (ac (cL (cL (av 2) ar) (av 0)) (ac ar ao)))) ar)⟩))
  (@Ss.frz _ _ _ _ 7 (@bi _ _ _ _ _ _ (S.setC 8 (N':=["_law_j", "_law_script", "_law_here"]) (mp:=[none,some 0,some 5]) rfl aY.nd (ba j7 (ah ir) rfl rfl (by decide +kernel)) (aD (i:=0)) (by decide) (I.rng1 tx.z_range (ac ar ao)) (λ _ _ _=>⟨(aJ (i:=0) (show (["_law_j", "_law_script", "_law_here"]:List Str).Nodup by decide +kernel) rfl (Or.inl rfl) (.inr rfl)),Ts.nil,(aW aK hr aP tx.bf tx.af.kp tx.bg (ac (av 1) (ac (cL (cL (av 2) ar) (av 0)) (ac ar ao))))⟩))
  (@Ss.frz _ _ _ _ 8 (@bi _ _ _ _ _ _ (jr 9 aY.nd bc)
  (@bi _ _ _ _ _ _ (@S.for _ _ _ _ _ _ _ _ _ _ _ N0 rfl (I.enum rfl tx.z_enumerate (ac bc ao)) (rA (n:=2) rfl (eI (aJ (i:=10) aY.nd rfl (by first | exact Or.inl rfl | exact Or.inr rfl) ) (eI (aJ (i:=11) aY.nd rfl (by first | exact Or.inl rfl | exact Or.inr rfl) ) oR))) (TgP.tup (n:=2) (db (aD (i:=10)) (db (aD (i:=11)) TgsP.nil)) (oO))
  (@bO _ _ _ _ (@S.ifS _ _ _ _ _ _ _ _ _ (tX hr (aW aK hr aP tx.bf tx.af.kp tx.bg (ac (av 0) (ac (cL (cL (av 5) ar) (av 10)) (ac (bA (cO (dj (ac ar (ac ar (ac ar (ac ar ao)))))) (av 10)) ao)))) ar) (@bO _ _ _ _ (jr 9 aY.nd (cL (av 9) (av 11)))) Ss.nil)) (λ _=>rfl))
  (@bi _ _ _ _ _ _ (jr 12 aY.nd (bA bc (E.mod (cL (av 4) (av 3)) ar)))
  (@bO _ _ _ _ (jr 2 aY.nd (cL (av 2) (dR (ac (cL (cL (dR (ac (av 12) (ac (av 6) ao))) (E.tuple tx.z_tuple (ac (cL (av 7) (av 8)) ao))) (dR (ac (av 9) ao))) ao)))))))))))))) (λ _=>rfl))
  (@bO _ _ _ _ (i9 (av 2))))))
noncomputable abbrev t7:List Str:=["self", "scene"]
theorem qZ:aE t7 eL (ah m8):=bP
noncomputable def jx  : Wd->Option MOut :=
 (aV (kJ 3 "scene" (mV 0) (mP (eV 1)))
  (aV (kJ 3 "hearers" (mV 0) yo)
  (kJ 3 "made" (mV 0) (mP (eC (.int 0))))))
include tx in
theorem rL:FnOk Pr w K mg base CX0 (k+1) t.cr t.cm eL (spM K (cl t) (cg 2 2 (jx))) :=
 fnM tx.cw qZ λ _ _ _ _ _ _ hr =>
  (@al _ _ _ _ _ _ (fV (k:=3) (a5 0) (ag λ _=>(av 1)) tx.na_Hall_scene)
  (@al _ _ _ _ _ _ (fV (k:=3) (a5 0) ME.dict0 tx.na_Hall_hearers)
  (@aw _ _ _ _ (fV (k:=3) (a5 0) (ag λ _=>ar) tx.na_Hall_made))))
noncomputable abbrev yY:List Str:=["_law_scene_here"]
theorem wM:aE yY iS (ah rh):=bP
noncomputable def sD  : Wd->Option MOut :=
 (nX (C3 0))
include tx in
theorem wY:FnOk Pr w K mg base CX0 (k+1) t.fJ t.fw iS (spM K (cl t) (cg 1 1 (sD))) :=
 fnM tx.hG wM λ _ _ _ _ _ _ hr =>
  (@aw _ _ _ _ (g9 (ME.hallC 0)))
noncomputable abbrev Cw:List Str:=["scene", "name", "box"]
theorem uZ:aE Cw mE (ah ww):=bP
noncomputable def oX  : En->Option Out :=
 (cP (qP (lI nH (eV 0)) (tgN 2)
  (sIf (bT (l2 pEq (l2 pIx (eV 2) (eC (.int 0))) (eV 1))) (hJ (eV 2)) sNx))
  (λ _=>none))
include tx in
theorem AH:FnOk Pr w K mg base CX0 (k+1) t.i8 t.i5 mE (spP K (cJ 2 3 (oX))) :=
 fnP tx.aG uZ λ _ _ _ _ _ _ _ hr =>
  (@bi _ _ _ _ _ _ (@S.for _ _ _ _ _ _ _ _ _ _ _ N0 rfl (I.tup (av 0)) (aJ (i:=2) uZ.nd rfl (by first | exact Or.inl rfl | exact Or.inr rfl) ) (aD (i:=2))
  (@bO _ _ _ _ (@S.ifS _ _ _ _ _ _ _ _ _ (tX hr (bA (av 2) (dm tx.c_NAME)) (av 1)) (@bO _ _ _ _ (i9 (av 2))) Ss.nil)) (λ _=>rfl))
  (@bO _ _ _ _ S.never))
noncomputable abbrev xp:List Str:=["self", "name", "word", "is_down", "deeds", "is_once", "number"]
theorem pB:aE xp iz (ah qy):=bP
noncomputable def mW (br:PFn):Wd->Option MOut :=
 (aV (iJ (mP (lA br (aC (gj 0 "scene") (aC (eV 1) aN)))))
  (aV (bU 6 (mP (gj 0 "made")))
  (aV (ue (rW (mV 0) "hearers") (mP (eV 6)) (mP (lA (λ ds=>if ds.length<=No then some (.tuple ds) else none) (aC (eV 1) (aC (eV 2) (aC (eV 3) (aC (eV 4) (aC (eV 5) aN))))))))
  (aV (D4 3 "made" (mV 0) (mP (eC (.int 1))))
  (nX (mP (eV 6)))))))
include tx bJ cU in
theorem v6:FnOk Pr w K mg base CX0 (k+1) t.eB t.d9 iz (spM K (cl t) (cg 6 7 (mW br))) :=
 fnM tx.bo pB λ _ _ _ _ _ _ hr =>
  (@al _ _ _ _ _ _ (gJ (ag λ _=>(aW bJ hr cU tx.kB tx.aG.kp tx.kG (ac (lG 0) (ac (av 1) ao)))))
  (@al _ _ _ _ _ _ (bv 6 pB.nd (ag λ _=>(lG 0)))
  (@al _ _ _ _ _ _ (MS.putC hr (ME.fld (a5 0)) (ag λ _=>(av 6)) (ag λ _=>(dR (ac (av 1) (ac (av 2) (ac (av 3) (ac (av 4) (ac (av 5) ao))))))))
  (@al _ _ _ _ _ _ (MS.augF (k:=3) (a5 0) (ag λ _=>ar) tx.na_Hall_made)
  (@aw _ _ _ _ (g9 (ag λ _=>(av 6))))))))
noncomputable abbrev yX:List Str:=["_law_hall_here", "_law_name", "_law_word", "_law_is_down", "_law_deeds", "_law_is_once"]
theorem wK:aE yX iR (ah rg):=bP
noncomputable def ol  : Wd->Option MOut :=
 (aV (ue (de (mV 0) (mP (eC (.str "hearers")))) (de (mV 0) (mP (eC (.str "many")))) (mP (lA (λ ds=>if ds.length<=No then some (.tuple ds) else none) (aC (eV 1) (aC (eV 2) (aC (eV 3) (aC (eV 4) (aC (eV 5) aN))))))))
  (aV (ue (mV 0) (mP (eC (.str "many"))) (mOp aM (de (mV 0) (mP (eC (.str "many")))) (mP (eC (.int 1)))))
  (nX (mOp wS (de (mV 0) (mP (eC (.str "many")))) (mP (eC (.int 1)))))))
include tx in
theorem wX:FnOk Pr w K mg base CX0 (k+1) t.fI t.fu iR (spM K (cl t) (cg 6 6 (ol))) :=
 fnM tx.bG wK λ _ _ _ _ _ _ hr =>
  (@al _ _ _ _ _ _ (MS.putC hr (eP hr (a5 0) (ag λ _=>bc)) (eP hr (a5 0) (ag λ _=>bc)) (ag λ _=>(dR (ac (av 1) (ac (av 2) (ac (av 3) (ac (av 4) (ac (av 5) ao))))))))
  (@al _ _ _ _ _ _ (MS.putC hr (a5 0) (ag λ _=>bc) (ME.add (eP hr (a5 0) (ag λ _=>bc)) (ag λ _=>ar)))
  (@aw _ _ _ _ (g9 (ME.sub (eP hr (a5 0) (ag λ _=>bc)) (ag λ _=>ar))))))
noncomputable abbrev sQ:List Str:=["self", "scene"]
theorem qO:aE sQ dN (ah mw):=bP
noncomputable def gb  : Wd->Option MOut :=
 (aV (kJ 1 "scene" (mV 0) (mP (eV 1)))
  (kJ 1 "known" (mV 0) yo))
include tx in
theorem qQ:FnOk Pr w K mg base CX0 (k+1) t.b7 t.b5 dN (spM K (cl t) (cg 2 2 (gb))) :=
 fnM tx.cK qO λ _ _ _ _ _ _ hr =>
  (@al _ _ _ _ _ _ (fV (k:=1) (a5 0) (ag λ _=>(av 1)) tx.na_Hands_scene)
  (@aw _ _ _ _ (fV (k:=1) (a5 0) ME.dict0 tx.na_Hands_known)))
noncomputable abbrev t4:List Str:=["self"]
theorem qY:aE t4 eK (ah m7):=bP
noncomputable def gP  : Wd->Option MOut :=
 (aV (kJ 0 "trail" (mV 0) (mP (oE (λ η=>(aN η).bind gL))))
  (aV (kJ 0 "pressed_at" (mV 0) (mP (eC .none)))
  (aV (kJ 0 "held_by" (mV 0) (mP (eC .none)))
  (aV (kJ 0 "clicked" (mV 0) (mP (eC .none)))
  (aV (kJ 0 "clicked_moment" (mV 0) (mP (eC (.int 0))))
  (kJ 0 "was_double" (mV 0) (mP (eC (.bool false)))))))))
include tx in
theorem rJ:FnOk Pr w K mg base CX0 (k+1) t.cq t.cj eK (spM K (cl t) (cg 1 1 (gP))) :=
 fnM tx.cv qY λ _ _ _ _ _ _ hr =>
  (@al _ _ _ _ _ _ (fV (k:=0) (a5 0) (ag λ _=>(cO (dj ao))) tx.na_Hand_trail)
  (@al _ _ _ _ _ _ (fV (k:=0) (a5 0) (ag λ _=>E.non) tx.na_Hand_pressed_at)
  (@al _ _ _ _ _ _ (fV (k:=0) (a5 0) (ag λ _=>E.non) tx.na_Hand_held_by)
  (@al _ _ _ _ _ _ (fV (k:=0) (a5 0) (ag λ _=>E.non) tx.na_Hand_clicked)
  (@al _ _ _ _ _ _ (fV (k:=0) (a5 0) (ag λ _=>ar) tx.na_Hand_clicked_moment)
  (@aw _ _ _ _ (fV (k:=0) (a5 0) (ag λ _=>wu) tx.na_Hand_was_double)))))))
noncomputable abbrev tZ:List Str:=["self", "hand"]
theorem qX:aE tZ eJ (ah m6):=bP
noncomputable def jv (gh:DFn):Wd->Option MOut :=
 (nX (Go (rW (mV 0) "known") (mP (eV 1)) (rT 0 gh maN)))
include tx gU mK in
theorem rH:FnOk Pr w K mg base CX0 (k+1) t.cn t.ci eJ (spM K (cl t) (cg 2 2 (jv gh))) :=
 fnM tx.bC qX λ _ _ _ _ _ _ hr =>
  (@aw _ _ _ _ (g9 (ME.setdef (ME.fld (a5 0)) (ag λ _=>(av 1)) (ME.make0 (kc:=0) tx.cl_Hand tx.mk_Hand gU hr mK tx.mg_Hand tx.tV))))
noncomputable abbrev qu:List Str:=["self", "word"]
theorem pA:aE qu cT (ah kN):=bP
noncomputable def hU  : Wd->Option MOut :=
 (nX (Kv (tPv (bT (l2 (Av false) (gj 0 "held_by") (eC .none)))) (mN (λ η=>(aN η).bind gL)) (mN (λ η=>((aC (lA (λ ds=>if ds.length<=No then some (.tuple ds) else none) (aC (eV 1) (aC (gj 0 "held_by") aN))) aN) η).bind gL))))
include tx in
theorem pJ:FnOk Pr w K mg base CX0 (k+1) t.bN t.bM cT (spM K (cl t) (cg 2 2 (hU))) :=
 fnM tx.a9 pA λ _ _ _ _ _ _ hr =>
  (@aw _ _ _ _ (g9 (ME.ifx (jK λ _=>(T.isN (lG 0) E.non)) (ME.nw λ _=>(dj ao)) (ME.nw λ _=>(dj (ac (dR (ac (av 1) (ac (lG 0) ao))) ao))))))
noncomputable abbrev uA:List Str:=["scene", "name"]
theorem xN:aE uA jF (ah o6):=bP
noncomputable def ma  : En->Option Out :=
 (hJ (oE (bH [none,some 1] (lI nH (eV 0)) (tgN 0) (bT (l2 pEq (l2 pIx (eV 0) (eC (.int 1))) (eV 1))) (l2 pIx (eV 0) (eC (.int 0))))))
include tx in
theorem yc:FnOk Pr w K mg base CX0 (k+1) t.gG t.gy jF (spP K (cJ 2 2 (ma))) :=
 fnP tx.bz xN λ _ _ _ _ _ _ _ hr =>
  (@bO _ _ _ _ (i9 (cO (jn (N':=["box", "name"]) (mp:=[none,some 1]) rfl (ba uA (ah o6) rfl rfl (by decide +kernel)) (aD (i:=0)) (by decide) (I.tup (av 0)) (λ _ _ _=>⟨(aJ (i:=0) (show (["box", "name"]:List Str).Nodup by decide +kernel) rfl (Or.inl rfl) (.inr rfl)),(Ts.one (tX hr (bA (av 0) (dm tx.c_AROUND)) (av 1))),(bA (av 0) (dm tx.c_NAME))⟩)))))
noncomputable abbrev Dq:List Str:=["scene", "name", "names", "child"]
theorem qV:aE Dq nU (ah xR):=bP
noncomputable def ql (br:PFn) (fj:PFn) (eU:PFn):En->Option Out :=
 (cP (m9 2 (λ η=>((aC (l2 pIx (lA br (aC (eV 0) (aC (eV 1) aN))) (eC (.int 0))) aN) η).bind gL))
  (cP (qP (lI asL (lA fj (aC (eV 0) (aC (eV 1) aN)))) (tgN 3)
  (xS 2 (lI asL (lA eU (aC (eV 0) (aC (eV 3) aN))))))
  (By 2)))
include tx bJ cU gK kZ gM kC in
theorem BK:FnOk Pr w K mg base CX0 (k+1) t.kA t.kx nU (spP K (cJ 2 4 (ql br fj eU))) :=
 fnP tx.bY qV λ _ _ _ _ _ _ _ hr =>
  (@bi _ _ _ _ _ _ (S.setO 2 qV.nd (dj (ac (bA (aW bJ hr cU tx.kB tx.aG.kp tx.kG (ac (av 0) (ac (av 1) ao))) (dm tx.c_NAME)) ao)))
  (@bi _ _ _ _ _ _ (@S.for _ _ _ _ _ _ _ _ _ _ _ N0 rfl (I.list (aW gK hr kZ tx.uc tx.bz.kp tx.ux (ac (av 0) (ac (av 1) ao)))) (aJ (i:=3) qV.nd rfl (by first | exact Or.inl rfl | exact Or.inr rfl) ) (aD (i:=3))
  (@bO _ _ _ _ (S.ext 2 (aW gM hr kC tx.uJ tx.bY.kp tx.uO (ac (av 0) (ac (av 3) ao))))) (λ _=>rfl))
  (@bO _ _ _ _ (S.retO 2))))
noncomputable abbrev Bi:List Str:=["scene", "names", "name"]
theorem o3:aE Bi kQ (ah u5):=bP
noncomputable def nA (fj:PFn) (eU:PFn):En->Option Out :=
 (cP (m9 1 (λ η=>(aN η).bind gL))
  (cP (qP (lI asL (lA fj (aC (eV 0) (aC (eC (.str "")) aN)))) (tgN 2)
  (xS 1 (lI asL (lA eU (aC (eV 0) (aC (eV 2) aN))))))
  (By 1)))
include tx gK kZ gM kC in
theorem ze:FnOk Pr w K mg base CX0 (k+1) t.ii t.h8 kQ (spP K (cJ 1 3 (nA fj eU))) :=
 fnP tx.dJ o3 λ _ _ _ _ _ _ _ hr =>
  (@bi _ _ _ _ _ _ (S.setO 1 o3.nd (dj ao))
  (@bi _ _ _ _ _ _ (@S.for _ _ _ _ _ _ _ _ _ _ _ N0 rfl (I.list (aW gK hr kZ tx.uc tx.bz.kp tx.ux (ac (av 0) (ac bc ao)))) (aJ (i:=2) o3.nd rfl (by first | exact Or.inl rfl | exact Or.inr rfl) ) (aD (i:=2))
  (@bO _ _ _ _ (S.ext 1 (aW gM hr kC tx.uJ tx.bY.kp tx.uO (ac (av 0) (ac (av 2) ao))))) (λ _=>rfl))
  (@bO _ _ _ _ (S.retO 1))))
noncomputable abbrev Bh:List Str:=["scene", "name", "around"]
theorem t8:aE Bh kP (ah u4):=bP
noncomputable def nz (br:PFn) (aS:PFn):En->Option Out :=
 (cP (f6 2 (l2 pIx (lA br (aC (eV 0) (aC (eV 1) aN))) (eC (.int 1))))
  (cP (sIf (bT (l2 pEq (eV 2) (eC (.str "")))) (hJ (oE (λ η=>((aC (eV 1) aN) η).bind gL))) sNx)
  (hJ (l2 aM (lA aS (aC (eV 0) (aC (eV 2) aN))) (oE (λ η=>((aC (eV 1) aN) η).bind gL))))))
include tx bJ cU a8 cb in
theorem zd:FnOk Pr w K mg base CX0 (k+1) t.ig t.hX kP (spP K (cJ 2 3 (nz br aS))) :=
 fnP tx.aB t8 λ _ _ _ _ _ _ _ hr =>
  (@bi _ _ _ _ _ _ (jr 2 t8.nd (bA (aW bJ hr cU tx.kB tx.aG.kp tx.kG (ac (av 0) (ac (av 1) ao))) (dm tx.c_AROUND)))
  (@bi _ _ _ _ _ _ (@S.ifS _ _ _ _ _ _ _ _ _ (tX hr (av 2) bc) (@bO _ _ _ _ (i9 (cO (dj (ac (av 1) ao))))) Ss.nil)
  (@bO _ _ _ _ (i9 (cL (aW a8 hr cb tx.jd tx.aB.kp tx.jk (ac (av 0) (ac (av 2) ao))) (cO (dj (ac (av 1) ao))))))))
noncomputable abbrev zB:List Str:=["scene", "name", "mark"]
theorem xM:aE zB jD (ah ua):=bP
noncomputable def pj (br:PFn):En->Option Out :=
 (hJ (l2 (pIn false) (eV 2) (l2 pIx (lA br (aC (eV 0) (aC (eV 1) aN))) (eC (.int 6)))))
include tx bJ cU in
theorem ya:FnOk Pr w K mg base CX0 (k+1) t.gD t.gw jD (spP K (cJ 3 3 (pj br))) :=
 fnP tx.aZ xM λ _ _ _ _ _ _ _ hr =>
  (@bO _ _ _ _ (i9 (E.in (av 2) (bA (aW bJ hr cU tx.kB tx.aG.kp tx.kG (ac (av 0) (ac (av 1) ao))) (dm tx.c_MARKS)))))
noncomputable abbrev uz:List Str:=["scene", "name"]
theorem xL:aE uz jB (ah o5):=bP
noncomputable def pf (aS:PFn) (cx:PFn):En->Option Out :=
 (hJ (Hv (lA F8 (aC (oE (bH [none,some 0] (lI asL (lA aS (aC (eV 0) (aC (eV 1) aN)))) (tgN 0) cS (lA cx (aC (eV 1) (aC (eV 0) (aC (eC (.str "h")) aN)))))) aN))))
include tx a8 cb cR g8 in
theorem xY:FnOk Pr w K mg base CX0 (k+1) t.gB t.gq jB (spP K (cJ 2 2 (pf aS cx))) :=
 fnP tx.eW xL λ _ _ _ _ _ _ _ hr =>
  (@bO _ _ _ _ (i9 (E.not (E.any rfl tx.z_any (ac (cO (jn (N':=["step", "scene"]) (mp:=[none,some 0]) rfl (ba uz (ah o5) rfl rfl (by decide +kernel)) (aD (i:=0)) (by decide) (I.list (aW a8 hr cb tx.jd tx.aB.kp tx.jk (ac (av 0) (ac (av 1) ao)))) (λ _ _ _=>⟨(aJ (i:=0) (show (["step", "scene"]:List Str).Nodup by decide +kernel) rfl (Or.inl rfl) (.inr rfl)),Ts.nil,(aW cR hr g8 tx.o9 tx.aZ.kp tx.pv (ac (av 1) (ac (av 0) (ac (E.globS tx.c_HIDDEN) ao))))⟩))) ao)))))
noncomputable abbrev nI:List Str:=["scene", "name", "path", "left", "top", "last"]
theorem jz:aE nI kT (ah kM):=bP
noncomputable def nC (aS:PFn) (br:PFn):En->Option Out :=
 (cP (m9 2 (bH [none,some 0] (lI asL (lA aS (aC (eV 0) (aC (eV 1) aN)))) (tgN 0) cS (lA br (aC (eV 1) (aC (eV 0) aN)))))
  (λ η=>(cP (f6 3 (lA At (aC (oE (bH [none] (lI asL (eV 2)) (tgN 0) cS (l2 pIx (eV 0) (eC (.int 2))))) aN)))
  (cP (f6 4 (lA At (aC (oE (bH [none] (lI asL (eV 2)) (tgN 0) cS (l2 pIx (eV 0) (eC (.int 3))))) aN)))
  (cP (f6 5 (lA br (aC (eV 0) (aC (eV 1) aN))))
  (hJ (lA (λ ds=>if ds.length<=No then some (.tuple ds) else none) (aC (eV 3) (aC (eV 4) (aC (l2 aM (eV 3) (l2 pIx (eV 5) (eC (.int 4)))) (aC (l2 aM (eV 4) (l2 pIx (eV 5) (eC (.int 5)))) aN))))))))) (frz 2 η)))
include tx bJ cU a8 cb in
theorem zh:FnOk Pr w K mg base CX0 (k+1) t.il t.ib kT (spP K (cJ 2 6 (nC aS br))) :=
 fnP tx.cA jz λ _ _ _ _ _ _ _ hr =>
  (@bi _ _ _ _ _ _ (S.setC 2 (N':=["step", "scene"]) (mp:=[none,some 0]) rfl jz.nd (ba nI (ah kM) rfl rfl (by decide +kernel)) (aD (i:=0)) (by decide) (I.list (aW a8 hr cb tx.jd tx.aB.kp tx.jk (ac (av 0) (ac (av 1) ao)))) (λ _ _ _=>⟨(aJ (i:=0) (show (["step", "scene"]:List Str).Nodup by decide +kernel) rfl (Or.inl rfl) (.inr rfl)),Ts.nil,(aW bJ hr cU tx.kB tx.aG.kp tx.kG (ac (av 1) (ac (av 0) ao)))⟩))
  (@Ss.frz _ _ _ _ 2 (@bi _ _ _ _ _ _ (jr 3 jz.nd (E.sum rfl tx.z_sum (ac (cO (jn (N':=["box"]) (mp:=[none]) rfl (ba nI (ah kM) rfl rfl (by decide +kernel)) (aD (i:=0)) (by decide) (I.list (av 2)) (λ _ _ _=>⟨(aJ (i:=0) (show (["box"]:List Str).Nodup by decide +kernel) rfl (Or.inl rfl) (.inr rfl)),Ts.nil,(bA (av 0) (dm tx.c_LEFT))⟩))) ao)))
  (@bi _ _ _ _ _ _ (jr 4 jz.nd (E.sum rfl tx.z_sum (ac (cO (jn (N':=["box"]) (mp:=[none]) rfl (ba nI (ah kM) rfl rfl (by decide +kernel)) (aD (i:=0)) (by decide) (I.list (av 2)) (λ _ _ _=>⟨(aJ (i:=0) (show (["box"]:List Str).Nodup by decide +kernel) rfl (Or.inl rfl) (.inr rfl)),Ts.nil,(bA (av 0) (dm tx.c_TOP))⟩))) ao)))
  (@bi _ _ _ _ _ _ (jr 5 jz.nd (aW bJ hr cU tx.kB tx.aG.kp tx.kG (ac (av 0) (ac (av 1) ao))))
  (@bO _ _ _ _ (i9 (dR (ac (av 3) (ac (av 4) (ac (cL (av 3) (bA (av 5) (dm tx.c_WIDTH))) (ac (cL (av 4) (bA (av 5) (dm tx.c_HEIGHT))) ao))))))))))))
noncomputable abbrev Bj:List Str:=["one", "other", "left", "top"]
theorem o4:aE Bj kR (ah u6):=bP
noncomputable def qk  : En->Option Out :=
 (cP (f6 2 (lA Im (aC (l2 pIx (eV 0) (eC (.int 0))) (aC (l2 pIx (eV 1) (eC (.int 0))) aN))))
  (cP (f6 3 (lA Im (aC (l2 pIx (eV 0) (eC (.int 1))) (aC (l2 pIx (eV 1) (eC (.int 1))) aN))))
  (hJ (lA (λ ds=>if ds.length<=No then some (.tuple ds) else none) (aC (eV 2) (aC (eV 3) (aC (lA Il (aC (l2 pIx (eV 0) (eC (.int 2))) (aC (l2 pIx (eV 1) (eC (.int 2))) aN))) (aC (lA Il (aC (l2 pIx (eV 0) (eC (.int 3))) (aC (l2 pIx (eV 1) (eC (.int 3))) aN))) aN))))))))
include tx in
theorem zf:FnOk Pr w K mg base CX0 (k+1) t.ij t.h9 kR (spP K (cJ 2 4 (qk))) :=
 fnP tx.eS o4 λ _ _ _ _ _ _ _ hr =>
  (@bi _ _ _ _ _ _ (jr 2 o4.nd (E.max rfl tx.z_max (ac (bA (av 0) ar) (ac (bA (av 1) ar) ao))))
  (@bi _ _ _ _ _ _ (jr 3 o4.nd (E.max rfl tx.z_max (ac (bA (av 0) ar) (ac (bA (av 1) ar) ao))))
  (@bO _ _ _ _ (i9 (dR (ac (av 2) (ac (av 3) (ac (E.min rfl tx.z_min (ac (bA (av 0) ar) (ac (bA (av 1) ar) ao))) (ac (E.min rfl tx.z_min (ac (bA (av 0) ar) (ac (bA (av 1) ar) ao))) ao)))))))))
noncomputable abbrev yU:List Str:=["scene", "name", "window", "step"]
theorem jM:aE yU iN (ah rc):=bP
noncomputable def og (jJ:PFn) (aS:PFn) (cx:PFn) (me:PFn):En->Option Out :=
 (cP (f6 2 (lA jJ (aC (eV 0) (aC (eV 1) aN))))
  (cP (qP (lI asL (lA aS (aC (eV 0) (aC (eV 1) aN)))) (tgN 3)
  (sIf (bT (lA cx (aC (eV 0) (aC (eV 3) (aC (eC (.str "c")) aN))))) (f6 2 (lA me (aC (eV 2) (aC (lA jJ (aC (eV 0) (aC (eV 3) aN))) aN)))) sNx))
  (hJ (eV 2))))
include tx a8 cb cR g8 ly pe nK ur in
theorem wT:FnOk Pr w K mg base CX0 (k+1) t.fE t.fk iN (spP K (cJ 2 4 (og jJ aS cx me))) :=
 fnP tx.dQ jM λ _ _ _ _ _ _ _ hr =>
  (@bi _ _ _ _ _ _ (jr 2 jM.nd (aW ly hr pe tx.vj tx.cA.kp tx.vJ (ac (av 0) (ac (av 1) ao))))
  (@bi _ _ _ _ _ _ (@S.for _ _ _ _ _ _ _ _ _ _ _ N0 rfl (I.list (aW a8 hr cb tx.jd tx.aB.kp tx.jk (ac (av 0) (ac (av 1) ao)))) (aJ (i:=3) jM.nd rfl (by first | exact Or.inl rfl | exact Or.inr rfl) ) (aD (i:=3))
  (@bO _ _ _ _ (@S.ifS _ _ _ _ _ _ _ _ _ (T.val (aW cR hr g8 tx.o9 tx.aZ.kp tx.pv (ac (av 0) (ac (av 3) (ac (E.globS tx.c_CUTS_OFF) ao))))) (@bO _ _ _ _ (jr 2 jM.nd (aW nK hr ur tx.AN tx.eS.kp tx.Bc (ac (av 2) (ac (aW ly hr pe tx.vj tx.cA.kp tx.vJ (ac (av 0) (ac (av 3) ao))) ao))))) Ss.nil)) (λ _=>rfl))
  (@bO _ _ _ _ (i9 (av 2)))))
noncomputable abbrev sO:List Str:=["scene", "names"]
theorem uY:aE sO my (ah oP):=bP
noncomputable def sB (md:PFn) (lg:PFn) (cx:PFn) (jU:PFn):En->Option Out :=
 (cP (m9 1 (bH [none,some 0] (λ η=>((aC (lA md (aC (eV 0) aN)) aN) η).bind rvS) (tgN 0) (bT (lA lg (aC (eV 1) (aC (eV 0) aN)))) (eV 0)))
  (λ η=>(hJ (oE (bH [none,some 0] (lI asL (eV 1)) (tgN 0) (zu (bT (lA cx (aC (eV 1) (aC (eV 0) (aC (eC (.str "l")) aN)))))) (lA (λ ds=>if ds.length<=No then some (.tuple ds) else none) (aC (eV 0) (aC (lA jU (aC (eV 1) (aC (eV 0) aN))) aN)))))) (frz 1 η)))
include tx cR g8 nJ uq mj su lv qF in
theorem AF:FnOk Pr w K mg base CX0 (k+1) t.i6 t.iZ my (spP K (cJ 1 2 (sB md lg cx jU))) :=
 fnP tx.ja uY λ _ _ _ _ _ _ _ hr =>
  (@bi _ _ _ _ _ _ (S.setC 1 (N':=["name", "scene"]) (mp:=[none,some 0]) rfl uY.nd (ba sO (ah oP) rfl rfl (by decide +kernel)) (aD (i:=0)) (by decide) (I.rev rfl tx.z_reversed (ac (aW nJ hr uq tx.AM tx.dJ.kp tx.Bb (ac (av 0) ao)) ao)) (λ _ _ _=>⟨(aJ (i:=0) (show (["name", "scene"]:List Str).Nodup by decide +kernel) rfl (Or.inl rfl) (.inr rfl)),(Ts.one (T.val (aW mj hr su tx.zl tx.eW.kp tx.zp (ac (av 1) (ac (av 0) ao))))),(av 0)⟩))
  (@Ss.frz _ _ _ _ 1 (@bO _ _ _ _ (i9 (cO (jn (N':=["name", "scene"]) (mp:=[none,some 0]) rfl (ba sO (ah oP) rfl rfl (by decide +kernel)) (aD (i:=0)) (by decide) (I.list (av 1)) (λ _ _ _=>⟨(aJ (i:=0) (show (["name", "scene"]:List Str).Nodup by decide +kernel) rfl (Or.inl rfl) (.inr rfl)),(Ts.one (T.not (T.val (aW cR hr g8 tx.o9 tx.aZ.kp tx.pv (ac (av 1) (ac (av 0) (ac (E.globS tx.c_LETS_BY) ao))))))),(dR (ac (av 0) (ac (aW lv hr qF tx.yf tx.dQ.kp tx.yK (ac (av 1) (ac (av 0) ao))) ao)))⟩)))))))
noncomputable abbrev yV:List Str:=["area", "x", "y"]
theorem wJ:aE yV iO (ah re):=bP
noncomputable def oh  : En->Option Out :=
 (hJ (Hx (lch pLe pLt (l2 pIx (eV 0) (eC (.int 0))) (eV 1) (l2 pIx (eV 0) (eC (.int 2)))) (lch pLe pLt (l2 pIx (eV 0) (eC (.int 1))) (eV 2) (l2 pIx (eV 0) (eC (.int 3))))))
include tx in
theorem wU:FnOk Pr w K mg base CX0 (k+1) t.fF t.fm iO (spP K (cJ 3 3 (oh))) :=
 fnP tx.bF wJ λ _ _ _ _ _ _ _ hr =>
  (@bO _ _ _ _ (i9 (E.and (E.chain JB (vN λ _ _ _=>gp) BJ (vN λ _ _ _=>gp) (bA (av 0) ar) (av 1) (bA (av 0) ar)) (E.one (E.chain JB (vN λ _ _ _=>gp) BJ (vN λ _ _ _=>gp) (bA (av 0) ar) (av 2) (bA (av 0) ar))))))
noncomputable abbrev zC:List Str:=["rows", "x", "y", "name", "window"]
theorem nN:aE zC jE (ah ub):=bP
noncomputable def jI (jV:PFn):En->Option Out :=
 (cP (qP (lI asL (eV 0)) (tgT (aX (tgN 3) (aX (tgN 4) gX)))
  (sIf (bT (lA jV (aC (eV 4) (aC (eV 1) (aC (eV 2) aN))))) (hJ (eV 3)) sNx))
  (hJ (eC .none)))
include tx lw qG in
theorem yb:FnOk Pr w K mg base CX0 (k+1) t.gF t.gx jE (spP K (cJ 3 5 (jI jV))) :=
 fnP tx.gN nN λ _ _ _ _ _ _ _ hr =>
  (@bi _ _ _ _ _ _ (@S.for _ _ _ _ _ _ _ _ _ _ _ N0 rfl (I.list (av 0)) (rA (n:=2) rfl (eI (aJ (i:=3) nN.nd rfl (by first | exact Or.inl rfl | exact Or.inr rfl) ) (eI (aJ (i:=4) nN.nd rfl (by first | exact Or.inl rfl | exact Or.inr rfl) ) oR))) (TgP.tup (n:=2) (db (aD (i:=3)) (db (aD (i:=4)) TgsP.nil)) (oO))
  (@bO _ _ _ _ (@S.ifS _ _ _ _ _ _ _ _ _ (T.val (aW lw hr qG tx.yg tx.bF.kp tx.yL (ac (av 4) (ac (av 1) (ac (av 2) ao))))) (@bO _ _ _ _ (i9 (av 3))) Ss.nil)) (λ _=>rfl))
  (@bO _ _ _ _ (i9 E.non)))
noncomputable abbrev Hb:List Str:=["scene", "x", "y"]
theorem EB:aE Hb rC (ah Bx):=bP
noncomputable def yB (nF:PFn) (lj:PFn):En->Option Out :=
 (hJ (lA lj (aC (lA nF (aC (eV 0) aN)) (aC (eV 1) (aC (eV 2) aN)))))
include tx oZ vC mn sy in
theorem EK:FnOk Pr w K mg base CX0 (k+1) t.oB t.ox rC (spP K (cJ 3 3 (yB nF lj))) :=
 fnP tx.oH EB λ _ _ _ _ _ _ _ hr =>
  (@bO _ _ _ _ (i9 (aW mn hr sy tx.zn tx.gN.kp tx.zr (ac (aW oZ hr vC tx.BQ tx.ja.kp tx.Cp (ac (av 0) ao)) (ac (av 1) (ac (av 2) ao))))))
noncomputable abbrev zA:List Str:=["scene", "x", "y", "name"]
theorem qU:aE zA jC (ah t9):=bP
noncomputable def pi (tj:PFn) (aS:PFn):En->Option Out :=
 (cP (f6 3 (lA tj (aC (eV 0) (aC (eV 1) (aC (eV 2) aN)))))
  (hJ (vIf (bT (l2 (Av false) (eV 3) (eC .none))) (oE (λ η=>(aN η).bind gL)) (lA aS (aC (eV 0) (aC (eV 3) aN))))))
include tx a8 cb vR zV in
theorem xZ:FnOk Pr w K mg base CX0 (k+1) t.gC t.gu jC (spP K (cJ 3 4 (pi tj aS))) :=
 fnP tx.dL qU λ _ _ _ _ _ _ _ hr =>
  (@bi _ _ _ _ _ _ (jr 3 qU.nd (aW vR hr zV tx.Gm tx.oH.kp tx.GX (ac (av 0) (ac (av 1) (ac (av 2) ao)))))
  (@bO _ _ _ _ (i9 (E.ifE (T.isN (av 3) E.non) (cO (dj ao)) (aW a8 hr cb tx.jd tx.aB.kp tx.jk (ac (av 0) (ac (av 3) ao)))))))
noncomputable abbrev Ct:List Str:=["one", "other", "names", "name", "counterpart"]
theorem nu:aE Ct mz (ah wv):=bP
noncomputable def sC  : En->Option Out :=
 (cP (m9 2 (λ η=>(aN η).bind gL))
  (cP (qP (λ η=>((aC (eV 0) (aC (eV 1) aN)) η).bind zpL) (tgT (aX (tgN 3) (aX (tgN 4) gX)))
  (cP (sIf (bT (l2 pNe (eV 3) (eV 4))) sBk sNx)
  (FB 2 (eV 3))))
  (By 2)))
include tx in
theorem AG:FnOk Pr w K mg base CX0 (k+1) t.i7 t.i0 mz (spP K (cJ 2 5 (sC))) :=
 fnP tx.jb nu λ _ _ _ _ _ _ _ hr =>
  (@bi _ _ _ _ _ _ (S.setO 2 nu.nd (dj ao))
  (@bi _ _ _ _ _ _ (@S.for _ _ _ _ _ _ _ _ _ _ _ N0 rfl (I.zip tx.z_zip (ac (av 0) (ac (av 1) ao))) (rA (n:=2) rfl (eI (aJ (i:=3) nu.nd rfl (by first | exact Or.inl rfl | exact Or.inr rfl) ) (eI (aJ (i:=4) nu.nd rfl (by first | exact Or.inl rfl | exact Or.inr rfl) ) oR))) (TgP.tup (n:=2) (db (aD (i:=3)) (db (aD (i:=4)) TgsP.nil)) (oO))
  (@bi _ _ _ _ _ _ (@S.ifS _ _ _ _ _ _ _ _ _ (T.ne hr (av 3) (av 4)) (@bO _ _ _ _ S.brk) Ss.nil)
  (@bO _ _ _ _ (S.app 2 (av 3)))) (λ _=>rfl))
  (@bO _ _ _ _ (S.retO 2))))
noncomputable abbrev mY:List Str:=["self", "path", "stays", "leaves"]
theorem lS:aE mY iy (ah jN):=bP
noncomputable def mU (nG:PFn):Wd->Option MOut :=
 (aV (bU 2 (mP (lA oI (aC (lA nG (aC (gj 0 "trail") (aC (eV 1) aN))) aN))))
  (aV (bU 3 (mC (bH [none] (λ η=>((aC (eSl (gj 0 "trail") (pS (eV 2)) pN) aN) η).bind rvS) (tgN 0) cS (lA (λ ds=>if ds.length<=No then some (.tuple ds) else none) (aC (eC (.str "leave")) (aC (eV 0) aN))))))
  (aV (kJ 0 "trail" (mV 0) (mP (lA Au (aC (eV 1) aN))))
  (nX (mP (l2 aM (eV 3) (oE (bH [none] (lI asL (eSl (eV 1) (pS (eV 2)) pN)) (tgN 0) cS (lA (λ ds=>if ds.length<=No then some (.tuple ds) else none) (aC (eC (.str "enter")) (aC (eV 0) aN)))))))))))
include tx o0 vD in
theorem v5:FnOk Pr w K mg base CX0 (k+1) t.eA t.d8 iy (spM K (cl t) (cg 2 4 (mU nG))) :=
 fnM tx.eG lS λ _ _ _ _ _ _ hr =>
  (@al _ _ _ _ _ _ (bv 2 lS.nd (ag λ _=>(E.len tx.z_len (ac (aW o0 hr vD tx.BR tx.jb.kp tx.Cs (ac (lG 0) (ac (av 1) ao))) ao))))
  (@al _ _ _ _ _ _ (@MS.setC _ _ _ _ _ _ _ ["name"] [none] _ _ _ _ _ _ _ 3 _ _ _ rfl lS.nd (ba mY (ah jN) rfl rfl (by decide +kernel)) (aD (i:=0)) (by decide) (λ _=>(I.rev rfl tx.z_reversed (ac (E.sl (lG 0) (P.some (av 2)) P.none) ao))) (λ _ _ _ _=>⟨(aJ (i:=0) (show (["name"]:List Str).Nodup by decide +kernel) rfl (Or.inl rfl) (.inr rfl)),Ts.nil,(dR (ac bc (ac (av 0) ao)))⟩) rfl rfl rfl (λ _=>rfl))
  (@al _ _ _ _ _ _ (fV (k:=0) (a5 0) (ag λ _=>(E.listL tx.z_list (ac (av 1) ao))) tx.na_Hand_trail)
  (@aw _ _ _ _ (g9 (ag λ _=>(cL (av 3) (cO (jn (N':=["name"]) (mp:=[none]) rfl (ba mY (ah jN) rfl rfl (by decide +kernel)) (aD (i:=0)) (by decide) (I.list (E.sl (av 1) (P.some (av 2)) P.none)) (λ _ _ _=>⟨(aJ (i:=0) (show (["name"]:List Str).Nodup by decide +kernel) rfl (Or.inl rfl) (.inr rfl)),Ts.nil,(dR (ac bc (ac (av 0) ao)))⟩))))))))))
noncomputable abbrev pY:List Str:=["self", "hand", "moment", "x", "y", "one", "path"]
theorem kK:aE pY gY (ah lV):=bP
noncomputable def jf (gf:DFn) (dU:DFn) (li:PFn) (ji:DFn):Wd->Option MOut :=
 (aV (bU 5 (df 1 "hand_of" gf (mV 0) (maC (mP (eV 1)) maN)))
  (aV (mIf (tPv (bT (l2 (Av true) (gj 5 "held_by") (eC .none)))) (nX (mFz (df 0 "tell_holder" dU (mV 5) (maC (mP (eC (.str "move"))) maN)))) mNx)
  (aV (bU 6 (mP (lA li (aC (gj 0 "scene") (aC (eV 3) (aC (eV 4) aN))))))
  (nX (mOp aM (df 0 "lead" ji (mV 5) (maC (mP (eV 6)) maN)) (mP (oE (bH [none] (lI asL (eSl (eV 6) (pS (l1 EH (eC (.int 1)))) pN)) (tgN 0) cS (lA (λ ds=>if ds.length<=No then some (.tuple ds) else none) (aC (eC (.str "move")) (aC (eV 0) aN)))))))))))
include tx gT mJ eQ kE ml sx j9 pT in
theorem vd:FnOk Pr w K mg base CX0 (k+1) t.dB t.dw gY (spM K (cl t) (cg 5 7 (jf gf dU li ji))) :=
 fnM tx.dG kK λ _ _ _ _ _ _ hr =>
  (@al _ _ _ _ _ _ (bv 5 kK.nd (gl (kc:=1) (a5 0) tx.cl_Hands tx.rN gT hr mJ tx.tU (ak (ag λ _=>(av 1)) bu)))
  (@al _ _ _ _ _ _ (@eE _ _ _ _ _ _ _ _ _ (jK λ _=>(T.notN (lG 5) E.non)) (@aw _ _ _ _ (g9 (ME.fz (gl (kc:=0) (a5 5) tx.cl_Hand tx.pK eQ hr kE tx.qq (ak (ag λ _=>bc) bu))))) gS)
  (@al _ _ _ _ _ _ (bv 6 kK.nd (ag λ _=>(aW ml hr sx tx.zm tx.dL.kp tx.zq (ac (lG 0) (ac (av 3) (ac (av 4) ao))))))
  (@aw _ _ _ _ (g9 (ME.add (gl (kc:=0) (a5 5) tx.cl_Hand tx.wa j9 hr pT tx.xm (ak (ag λ _=>(av 6)) bu)) (ag λ _=>(cO (jn (N':=["name"]) (mp:=[none]) rfl (ba pY (ah lV) rfl rfl (by decide +kernel)) (aD (i:=0)) (by decide) (I.list (E.sl (av 6) (P.some (E.neg ar)) P.none)) (λ _ _ _=>⟨(aJ (i:=0) (show (["name"]:List Str).Nodup by decide +kernel) rfl (Or.inl rfl) (.inr rfl)),Ts.nil,(dR (ac bc (ac (av 0) ao)))⟩))))))))))
noncomputable abbrev oC:List Str:=["_law_hall_here", "_law_name"]
theorem tD:aE oC eZ (ah kj):=bP
noncomputable def kr  : Wd->Option MOut :=
 (nX (mG (pIn false) (mP (eV 1)) (mcL [none] (iMT (de (mV 0) (mP (eC (.str "scene"))))) [0] (tgN 0) CG (mP (l2 pIx (eV 0) (eC (.int 0)))))))
include tx in
theorem tH:FnOk Pr w K mg base CX0 (k+1) t.cF t.cC eZ (spM K (cl t) (cg 2 2 (kr))) :=
 fnM tx.ay tD λ _ _ _ _ _ _ hr =>
  (@aw _ _ _ _ (g9 (ME.in (ag λ _=>(av 1)) (ME.lcomp (N':=["_law_box_here"]) (mp:=[none]) rfl (ba oC (ah kj) rfl rfl (by decide +kernel)) (aD (i:=0)) (by decide) (MI.tup (eP hr (a5 0) (ag λ _=>bc))) (λ _ _ _=>⟨(aJ (i:=0) (show (["_law_box_here"]:List Str).Nodup by decide +kernel) rfl (Or.inl rfl) (.inr rfl)),MTs.nil,(ag λ _=>(bA (av 0) ar))⟩)))))
noncomputable abbrev uB:List Str:=["_law_scene_here", "_law_name"]
theorem xO:aE uB jH (ah o7):=bP
noncomputable def pq  : En->Option Out :=
 (hJ (l2 pIx (oE (bH [none,some 1] (lI nH (eV 0)) (tgN 0) (bT (l2 pEq (l2 pIx (eV 0) (eC (.int 0))) (eV 1))) (eV 0))) (eC (.int 0))))
include tx in
theorem ye:FnOk Pr w K mg base CX0 (k+1) t.gI t.gA jH (spP K (cJ 2 2 (pq))) :=
 fnP tx.bS xO λ _ _ _ _ _ _ _ hr =>
  (@bO _ _ _ _ (i9 (bA (cO (jn (N':=["_law_box_here", "_law_name"]) (mp:=[none,some 1]) rfl (ba uB (ah o7) rfl rfl (by decide +kernel)) (aD (i:=0)) (by decide) (I.tup (av 0)) (λ _ _ _=>⟨(aJ (i:=0) (show (["_law_box_here", "_law_name"]:List Str).Nodup by decide +kernel) rfl (Or.inl rfl) (.inr rfl)),(Ts.one (tX hr (bA (av 0) ar) (av 1))),(av 0)⟩))) ar)))
noncomputable abbrev yW:List Str:=["_law_scene_here", "_law_name", "_law_found"]
theorem mT:aE yW iQ (ah rf):=bP
noncomputable def oj (iY:PFn):En->Option Out :=
 (cP (f6 2 (oE (λ η=>((aC (eV 1) aN) η).bind gL)))
  (cP (sWh (bT (l2 pNe (l2 pIx (lA iY (aC (eV 0) (aC (l2 pIx (eV 2) (eC (.int 0))) aN))) (eC (.int 1))) (eC (.str "")))) (f6 2 (l2 aM (oE (λ η=>((aC (l2 pIx (lA iY (aC (eV 0) (aC (l2 pIx (eV 2) (eC (.int 0))) aN))) (eC (.int 1))) aN) η).bind gL)) (eV 2))) 13)
  (hJ (eV 2))))
include tx jL oa in
theorem wW:FnOk Pr w K mg base CX0 (k+1) t.fH t.fq iQ (spP K (cJ 2 3 (oj iY))) :=
 fnP tx.bQ mT λ _ _ _ _ _ _ _ hr =>
  (@bi _ _ _ _ _ _ (jr 2 mT.nd (cO (dj (ac (av 1) ao))))
  (@bi _ _ _ _ _ _ (S.while 13 N0 (T.ne hr (bA (aW jL hr oa tx.ud tx.bS.kp tx.uy (ac (av 0) (ac (bA (av 2) ar) ao))) ar) bc) (@bO _ _ _ _ (jr 2 mT.nd (cL (cO (dj (ac (bA (aW jL hr oa tx.ud tx.bS.kp tx.uy (ac (av 0) (ac (bA (av 2) ar) ao))) ar) ao))) (av 2)))))
  (@bO _ _ _ _ (i9 (av 2)))))
noncomputable abbrev pz:List Str:=["_law_hall_here", "_law_name", "_law_gone_here"]
theorem qW:aE pz jG (ah l5):=bP
noncomputable def pk (dX:PFn):Wd->Option MOut :=
 (aV (bU 2 (mFz (mcL [none,some 0,some 1] (iMT (de (mV 0) (mP (eC (.str "scene"))))) [0] (tgN 0) (mB (mG (pIn false) (mP (eV 2)) (mCB dX (maC (de (mV 1) (mP (eC (.str "scene")))) (maC (mP (l2 pIx (eV 0) (eC (.int 0)))) maN))))) (mP (l2 pIx (eV 0) (eC (.int 0)))))))
  (ue (mV 0) (mP (eC (.str "scene"))) (mCB wR (maC (mFz (mcL [none,some 2] (iMT (de (mV 0) (mP (eC (.str "scene"))))) [0] (tgN 0) (tPv (bT (l2 (pIn true) (l2 pIx (eV 0) (eC (.int 0))) (eV 1)))) (mP (eV 0)))) maN))))
include tx fN jP in
theorem yd:FnOk Pr w K mg base CX0 (k+1) t.gH t.gz jG (spM K (cl t) (cg 2 3 (pk dX))) :=
 fnM tx.eX qW λ _ _ _ _ _ _ hr =>
  (@al _ _ _ _ _ _ (bv 2 qW.nd (ME.fz (ME.lcomp (N':=["_law_box_here", "_law_hall_here", "_law_name"]) (mp:=[none,some 0,some 1]) rfl (ba pz (ah l5) rfl rfl (by decide +kernel)) (aD (i:=0)) (by decide) (MI.tup (eP hr (a5 0) (ag λ _=>bc))) (λ _ _ _=>⟨(aJ (i:=0) (show (["_law_box_here", "_law_hall_here", "_law_name"]:List Str).Nodup by decide +kernel) rfl (Or.inl rfl) (.inr rfl)),(MTs.one (MT.in (ag λ _=>(av 2)) (ME.callP fN hr jP tx.rO tx.bQ.kp tx.sH (ak (eP hr (a5 1) (ag λ _=>bc)) (ak (ag λ _=>(bA (av 0) ar)) bu))))),(ag λ _=>(bA (av 0) ar))⟩))))
  (@aw _ _ _ _ (MS.putC hr (a5 0) (ag λ _=>bc) (ME.tupB tx.z_tuple (ak (ME.fz (ME.lcomp (N':=["_law_box_here", "_law_gone_here"]) (mp:=[none,some 2]) rfl (ba pz (ah l5) rfl rfl (by decide +kernel)) (aD (i:=0)) (by decide) (MI.tup (eP hr (a5 0) (ag λ _=>bc))) (λ _ _ _=>⟨(aJ (i:=0) (show (["_law_box_here", "_law_gone_here"]:List Str).Nodup by decide +kernel) rfl (Or.inl rfl) (.inr rfl)),(MTs.one (jK λ _=>(T.notIn (bA (av 0) ar) (av 1)))),(ag λ _=>(av 0))⟩))) bu)))))
noncomputable abbrev Bk:List Str:=["_law_hall_here", "_law_deed"]
theorem zb:aE Bk kU (ah u7):=bP
noncomputable def nE (bj:DFn) (dY:DFn) (lm:DFn) (dZ:DFn):Wd->Option MOut :=
 (aV (mIf (tPv (bT (l2 (pIn false) (l2 pIx (eV 1) (eC (.int 0))) (lA (λ ds=>if ds.length<=No then some (.tuple ds) else none) (aC (eC (.str "stop")) (aC (eC (.str "stopnow")) (aC (eC (.str "keep")) aN))))))) (nX (mP (l2 pIx (eV 1) (eC (.int 0))))) mNx)
  (aV (mIf (tPv (bT (l2 pEq (l2 pIx (eV 1) (eC (.int 0))) (eC (.str "unhear"))))) (λ _=>none) (mIf (mB (fg bj (maC (mV 0) (maC (mP (l2 pIx (eV 1) (eC (.int 1)))) maN)))) (mIf (tPv (bT (l2 pEq (l2 pIx (eV 1) (eC (.int 0))) (eC (.str "hear"))))) (iJ (fg dY (maC (mV 0) (maC (mP (l2 pIx (eV 1) (eC (.int 1)))) (maC (mP (l2 pIx (eV 1) (eC (.int 2)))) (maC (mP (l2 pIx (eV 1) (eC (.int 3)))) (maC (mP (lA (λ ds=>if ds.length<=No then some (.tuple ds) else none) aN)) (maC (mP (eC (.bool false))) maN)))))))) (mIf (tPv (bT (l2 pEq (l2 pIx (eV 1) (eC (.int 0))) (eC (.str "cut"))))) (iJ (fg lm (maC (mV 0) (maC (mP (l2 pIx (eV 1) (eC (.int 1)))) maN)))) (mIf (mB (mG pLt (de (mV 0) (mP (eC (.str "deep")))) (mP (eC (.int 3))))) (aV (ue (mV 0) (mP (eC (.str "deep"))) (mOp aM (de (mV 0) (mP (eC (.str "deep")))) (mP (eC (.int 1)))))
  (aV (iJ (fg dZ (maC (mV 0) (maC (mP (l2 pIx (eV 1) (eC (.int 1)))) (maC (mP (l2 pIx (eV 1) (eC (.int 2)))) maN)))))
  (ue (mV 0) (mP (eC (.str "deep"))) (mOp wS (de (mV 0) (mP (eC (.str "deep")))) (mP (eC (.int 1))))))) mNx))) mNx))
  (nX (mP (eC (.str ""))))))
include tx bw c9 fO jQ mq sA fP jR in
theorem zi:FnOk Pr w K mg base CX0 (k+1) t.im t.ic kU (spM K (cl t) (cg 2 2 (nE bj dY lm dZ))) :=
 fnM tx.vU zb λ _ _ _ _ _ _ hr =>
  (@al _ _ _ _ _ _ (@eE _ _ _ _ _ _ _ _ _ (jK λ _=>(T.in (bA (av 1) ar) (dR (ac bc (ac bc (ac bc ao)))))) (@aw _ _ _ _ (g9 (ag λ _=>(bA (av 1) ar)))) gS)
  (@al _ _ _ _ _ _ (@eE _ _ _ _ _ _ _ _ _ (jK λ _=>(tX hr (bA (av 1) ar) bc)) (@aw _ _ _ _ MS.never) (@aw _ _ _ _ (@eE _ _ _ _ _ _ _ _ _ (MT.val (jl bw hr c9 tx.ko tx.ay.kp tx.kz (ak (a5 0) (ak (ag λ _=>(bA (av 1) ar)) bu)))) (@aw _ _ _ _ (@eE _ _ _ _ _ _ _ _ _ (jK λ _=>(tX hr (bA (av 1) ar) bc)) (@aw _ _ _ _ (gJ (jl fO hr jQ tx.rP tx.bG.kp tx.sI (ak (a5 0) (ak (ag λ _=>(bA (av 1) ar)) (ak (ag λ _=>(bA (av 1) ar)) (ak (ag λ _=>(bA (av 1) ar)) (ak (ag λ _=>(dR ao)) (ak (ag λ _=>wu) bu))))))))) (@aw _ _ _ _ (@eE _ _ _ _ _ _ _ _ _ (jK λ _=>(tX hr (bA (av 1) ar) bc)) (@aw _ _ _ _ (gJ (jl mq hr sA tx.zo tx.eX.kp tx.zt (ak (a5 0) (ak (ag λ _=>(bA (av 1) ar)) bu))))) (@aw _ _ _ _ (@eE _ _ _ _ _ _ _ _ _ (MT.lt (eP hr (a5 0) (ag λ _=>bc)) (ag λ _=>ar)) (@al _ _ _ _ _ _ (MS.putC hr (a5 0) (ag λ _=>bc) (ME.add (eP hr (a5 0) (ag λ _=>bc)) (ag λ _=>ar)))
  (@al _ _ _ _ _ _ (gJ (jl fP hr jR tx.rQ tx.bh.kp tx.sJ (ak (a5 0) (ak (ag λ _=>(bA (av 1) ar)) (ak (ag λ _=>(bA (av 1) ar)) bu)))))
  (@aw _ _ _ _ (MS.putC hr (a5 0) (ag λ _=>bc) (ME.sub (eP hr (a5 0) (ag λ _=>bc)) (ag λ _=>ar)))))) gS)))))) gS)))
  (@aw _ _ _ _ (g9 (ag λ _=>bc)))))
noncomputable abbrev sP:List Str:=["_law_hall_here", "_law_name", "_law_word", "_law_is_down", "_law_words", "_law_some", "_law_k", "_law_deeds", "_law_deed"]
theorem fX:aE sP iP (ah nP):=bP
noncomputable def oi (mf:DFn):Wd->Option MOut :=
 (aV (bU 4 (mN (λ η=>(aN η).bind gL)))
  (aV (bU 5 (mcL [none,some 0,some 1,some 2,some 3] (iM (yn (de (mV 0) (mP (eC (.str "hearers")))))) [0] (tgN 0) (mB (mG pEq (mSl (de (de (mV 1) (mP (eC (.str "hearers")))) (mP (eV 0))) pN (pS (eC (.int 3)))) (mP (lA (λ ds=>if ds.length<=No then some (.tuple ds) else none) (aC (eV 2) (aC (eV 3) (aC (eV 4) aN))))))) (mP (eV 0))))
  (aV (tQ [6] (iM (mFz (mV 5))) (tgN 6)
  (mIf (nM (AR false (mP (eV 6)) (de (mV 0) (mP (eC (.str "hearers"))))) (mB (mG (pIn true) (mP (eC (.str "stopnow"))) (mV 4)))) (aV (bU 7 (mOp pIx (de (de (mV 0) (mP (eC (.str "hearers")))) (mP (eV 6))) (mP (eC (.int 3)))))
  (aV (mIf (mB (mOp pIx (de (de (mV 0) (mP (eC (.str "hearers")))) (mP (eV 6))) (mP (eC (.int 4))))) (λ _=>none) mNx)
  (aV (iJ (rX (de (mV 0) (mP (eC (.str "rows")))) (mP (lA (λ ds=>if ds.length<=No then some (.tuple ds) else none) (aC (eV 6) (aC (eV 1) (aC (eV 2) (aC (eV 3) aN))))))))
  (tQ [8] (iPu (lI nH (eV 7))) (tgN 8)
  (iJ (rX (mV 4) (fg mf (maC (mV 0) (maC (mP (eV 8)) maN))))))))) mNx))
  (nX (mFz (mV 4))))))
include tx vT ut in
theorem wV:FnOk Pr w K mg base CX0 (k+1) t.fG t.fo iP (spM K (cl t) (cg 4 9 (oi mf))) :=
 fnM tx.sW fX λ _ _ _ _ _ _ hr =>
  (@al _ _ _ _ _ _ (bv 4 fX.nd (ME.nw λ _=>(dj ao)))
  (@al _ _ _ _ _ _ (MS.setM 5 (N':=["_law_k", "_law_hall_here", "_law_name", "_law_word", "_law_is_down"]) (mp:=[none,some 0,some 1,some 2,some 3]) rfl fX.nd (ba sP (ah nP) rfl rfl (by decide +kernel)) (aD (i:=0)) (by decide) (MI.list (ME.sortC hr tx.z_sorted (eP hr (a5 0) (ag λ _=>bc)))) (λ _ _ _=>⟨(aJ (i:=0) (show (["_law_k", "_law_hall_here", "_law_name", "_law_word", "_law_is_down"]:List Str).Nodup by decide +kernel) rfl (Or.inl rfl) (.inr rfl)),(MTs.one (MT.eq hr (ME.sl (eP hr (eP hr (a5 1) (ag λ _=>bc)) (ag λ _=>(av 0))) (λ _=>P.none) (λ _=>P.some ar)) (ag λ _=>(dR (ac (av 2) (ac (av 3) (ac (av 4) ao))))))),(ag λ _=>(av 0))⟩))
  (@al _ _ _ _ _ _ (@MS.for _ _ _ _ _ _ _ _ _ _ _ N0 rfl (MI.list (ME.fz (a5 5))) (aJ (i:=6) fX.nd rfl (by first | exact Or.inl rfl | exact Or.inr rfl) ) (aD (i:=6))
  (@aw _ _ _ _ (@eE _ _ _ _ _ _ _ _ _ (MTW.t (MTW.and (MT.inC hr (ag λ _=>(av 6)) (eP hr (a5 0) (ag λ _=>bc))) (MTW.and1 (MT.notIn (ag λ _=>bc) (a5 4))))) (@al _ _ _ _ _ _ (bv 7 fX.nd (ME.at (eP hr (eP hr (a5 0) (ag λ _=>bc)) (ag λ _=>(av 6))) (ag λ _=>ar)))
  (@al _ _ _ _ _ _ (@eE _ _ _ _ _ _ _ _ _ (MT.val (ME.at (eP hr (eP hr (a5 0) (ag λ _=>bc)) (ag λ _=>(av 6))) (ag λ _=>ar))) (@aw _ _ _ _ MS.never) gS)
  (@al _ _ _ _ _ _ (gJ (ME.appC (eP hr (a5 0) (ag λ _=>bc)) (ag λ _=>(dR (ac (av 6) (ac (av 1) (ac (av 2) (ac (av 3) ao))))))))
  (@aw _ _ _ _ (@MS.for _ _ _ _ _ _ _ _ _ _ _ N0 rfl (MI.pu λ _=>(I.tup (av 7))) (aJ (i:=8) fX.nd rfl (by first | exact Or.inl rfl | exact Or.inr rfl) ) (aD (i:=8))
  (@aw _ _ _ _ (gJ (ME.appC (a5 4) (jl vT hr ut tx.AO tx.vU.kp tx.Be (ak (a5 0) (ak (ag λ _=>(av 8)) bu)))))) (λ _=>rfl)))))) gS)) (λ _=>rfl))
  (@aw _ _ _ _ (g9 (ME.fz (a5 4)))))))
noncomputable abbrev yZ:List Str:=["_law_hall_here", "_law_name", "_law_word", "_law_path_here", "_law_words", "_law_turn_here", "_law_one"]
theorem fY:aE yZ e7 (ah ri):=bP
noncomputable def om (dX:PFn) (bj:DFn) (jW:DFn):Wd->Option MOut :=
 (aV (bU 3 (mCB dX (maC (de (mV 0) (mP (eC (.str "scene")))) (maC (mP (eV 1)) maN))))
  (aV (bU 4 (mP (oE (λ η=>(aN η).bind gL))))
  (aV (tQ [5] (iPu (λ η=>((aC (l2 nv (eC (.int 2)) (lA oI (aC (eV 3) aN))) aN) η).bind rng1)) (tgN 5)
  (aV (bU 6 (mP (l2 pIx (l2 aM (eV 3) (l2 pRv (eV 3) (l1 EH (eC (.int 1))))) (eV 5))))
  (mIf (nM (tPv (bT (l2 (pIn true) (eC (.str "stop")) (eV 4)))) (nM (tPv (bT (l2 (pIn true) (eC (.str "stopnow")) (eV 4)))) (mB (fg bj (maC (mV 0) (maC (mP (eV 6)) maN)))))) (bU 4 (mOp aM (mP (eV 4)) (fg jW (maC (mV 0) (maC (mP (eV 6)) (maC (mP (eV 2)) (maC (mP (l2 pLt (eV 5) (lA oI (aC (eV 3) aN)))) maN))))))) mNx)))
  (nX (mP (l2 (pIn false) (eC (.str "keep")) (eV 4)))))))
include tx fN jP bw c9 sS qH in
theorem wZ:FnOk Pr w K mg base CX0 (k+1) t.cZ t.cX e7 (spM K (cl t) (cg 3 7 (om dX bj jW))) :=
 fnM tx.bh fY λ _ _ _ _ _ _ hr =>
  (@al _ _ _ _ _ _ (bv 3 fY.nd (ME.callP fN hr jP tx.rO tx.bQ.kp tx.sH (ak (eP hr (a5 0) (ag λ _=>bc)) (ak (ag λ _=>(av 1)) bu))))
  (@al _ _ _ _ _ _ (bv 4 fY.nd (ag λ _=>(cO (dj ao))))
  (@al _ _ _ _ _ _ (@MS.for _ _ _ _ _ _ _ _ _ _ _ N0 rfl (MI.pu λ _=>(I.rng1 tx.z_range (ac (sY ar (E.len tx.z_len (ac (av 3) ao))) ao))) (aJ (i:=5) fY.nd rfl (by first | exact Or.inl rfl | exact Or.inr rfl) ) (aD (i:=5))
  (@al _ _ _ _ _ _ (bv 6 fY.nd (ag λ _=>(bA (cL (av 3) (E.slRev (av 3) (E.neg ar))) (av 5))))
  (@aw _ _ _ _ (@eE _ _ _ _ _ _ _ _ _ (MTW.t (MTW.and (jK λ _=>(T.notIn bc (av 4))) (MTW.and (jK λ _=>(T.notIn bc (av 4))) (MTW.and1 (MT.val (jl bw hr c9 tx.ko tx.ay.kp tx.kz (ak (a5 0) (ak (ag λ _=>(av 6)) bu)))))))) (@aw _ _ _ _ (bv 4 fY.nd (ME.add (ag λ _=>(av 4)) (jl sS hr qH tx.yh tx.sW.kp tx.yM (ak (a5 0) (ak (ag λ _=>(av 6)) (ak (ag λ _=>(av 2)) (ak (ag λ _=>(E.lt (av 5) (E.len tx.z_len (ac (av 3) ao)))) bu)))))))) gS))) (λ _=>rfl))
  (@aw _ _ _ _ (g9 (ag λ _=>(E.in bc (av 4))))))))
noncomputable abbrev y1:List Str:=["_law_hall_here", "_law_name", "_law_word", "_law_is_kept"]
theorem qw:aE y1 iU (ah rm):=bP
noncomputable def oq (dZ:DFn):Wd->Option MOut :=
 (aV (ue (mV 0) (mP (eC (.str "rows"))) (mN (λ η=>(aN η).bind gL)))
  (aV (bU 3 (fg dZ (maC (mV 0) (maC (mP (eV 1)) (maC (mP (eV 2)) maN)))))
  (nX (zM (maC (mFz (de (mV 0) (mP (eC (.str "rows"))))) (maC (mP (eV 3)) maN))))))
include tx fP jR in
theorem xa:FnOk Pr w K mg base CX0 (k+1) t.fL t.fB iU (spM K (cl t) (cg 3 4 (oq dZ))) :=
 fnM tx.c7 qw λ _ _ _ _ _ _ hr =>
  (@al _ _ _ _ _ _ (MS.putC hr (a5 0) (ag λ _=>bc) (ME.nw λ _=>(dj ao)))
  (@al _ _ _ _ _ _ (bv 3 qw.nd (jl fP hr jR tx.rQ tx.bh.kp tx.sJ (ak (a5 0) (ak (ag λ _=>(av 1)) (ak (ag λ _=>(av 2)) bu)))))
  (@aw _ _ _ _ (g9 (ME.tupM (ak (ME.fz (eP hr (a5 0) (ag λ _=>bc))) (ak (ag λ _=>(av 3)) bu)))))))
noncomputable abbrev wp:List Str:=["self"]
theorem u0:aE wp g6 (ah pE):=bP
noncomputable def lX  : Wd->Option MOut :=
 (nX (mP (gj 0 "scene")))
include tx in
theorem vf:FnOk Pr w K mg base CX0 (k+1) t.dD t.dA g6 (spM K (cl t) (cg 1 1 (lX))) :=
 fnM tx.bp u0 λ _ _ _ _ _ _ hr =>
  (@aw _ _ _ _ (g9 (ag λ _=>(lG 0))))
noncomputable abbrev vP:List Str:=["scene", "name"]
theorem za:aE vP kS (ah p9):=bP
noncomputable def nB  : En->Option Out :=
 (hJ (lA F8 (aC (oE (bH [none,some 1] (lI nH (eV 0)) (tgN 0) cS (l2 pEq (l2 pIx (eV 0) (eC (.int 0))) (eV 1)))) aN)))
include tx in
theorem zg:FnOk Pr w K mg base CX0 (k+1) t.ik t.ia kS (spP K (cJ 2 2 (nB))) :=
 fnP tx.aR za λ _ _ _ _ _ _ _ hr =>
  (@bO _ _ _ _ (i9 (E.any rfl tx.z_any (ac (cO (jn (N':=["box", "name"]) (mp:=[none,some 1]) rfl (ba vP (ah p9) rfl rfl (by decide +kernel)) (aD (i:=0)) (by decide) (I.tup (av 0)) (λ _ _ _=>⟨(aJ (i:=0) (show (["box", "name"]:List Str).Nodup by decide +kernel) rfl (Or.inl rfl) (.inr rfl)),Ts.nil,(E.eq hr (bA (av 0) (dm tx.c_NAME)) (av 1))⟩))) ao))))
noncomputable abbrev oF:List Str:=["self", "name", "word", "is_down", "wanted"]
theorem mZ:aE oF fb (ah km):=bP
noncomputable def ku  : Wd->Option MOut :=
 (aV (bU 4 (mP (lA (λ ds=>if ds.length<=No then some (.tuple ds) else none) (aC (eV 1) (aC (eV 2) (aC (eV 3) aN))))))
  (nX (mFz (IA 0 "hearers" [none,none,some 4] (tgT (aX (tgN 0) (aX (tgN 1) gX))) (bT (l2 pEq (eSl (eV 1) pN (pS (eC (.int 3)))) (eV 2))) (eV 0)))))
include tx in
theorem tJ:FnOk Pr w K mg base CX0 (k+1) t.cG t.cD fb (spM K (cl t) (cg 4 5 (ku))) :=
 fnM tx.cI mZ λ _ _ _ _ _ _ hr =>
  (@al _ _ _ _ _ _ (bv 4 mZ.nd (ag λ _=>(dR (ac (av 1) (ac (av 2) (ac (av 3) ao))))))
  (@aw _ _ _ _ (g9 (ME.fz (ME.itemsC (N':=["number", "hearer", "wanted"]) (mp:=[none,none,some 4]) (fld := "hearers") 0 rfl (ba oF (ah km) rfl rfl (by decide +kernel)) (TgP.tup (n:=2) (db (aD (i:=0)) (db (aD (i:=1)) TgsP.nil)) (oO)) (by decide) (λ _ _ _ _=>⟨(rA (n:=2) rfl (eI (aJ (i:=0) (show (["number", "hearer", "wanted"]:List Str).Nodup by decide +kernel) rfl (Or.inl rfl) (.inr rfl)) (eI (aJ (i:=1) (show (["number", "hearer", "wanted"]:List Str).Nodup by decide +kernel) rfl (Or.inl rfl) (.inr rfl)) oR))),(Ts.one (tX hr (E.sl (av 1) P.none (P.some (dm tx.c_DEEDS))) (av 2))),(av 0)⟩))))))
noncomputable abbrev vQ:List Str:=["self", "number"]
theorem uD:aE vQ f7 (ah oQ):=bP
noncomputable def oY  : Wd->Option MOut :=
 (aV (mIf (AR true (mP (eV 1)) (rW (mV 0) "hearers")) (λ _=>none) mNx)
  (iJ (JE (rW (mV 0) "hearers") (mP (eV 1)))))
include tx in
theorem uG:FnOk Pr w K mg base CX0 (k+1) t.c0 t.cY f7 (spM K (cl t) (cg 2 2 (oY))) :=
 fnM tx.dW uD λ _ _ _ _ _ _ hr =>
  (@al _ _ _ _ _ _ (@eE _ _ _ _ _ _ _ _ _ (MT.notInC hr (ag λ _=>(av 1)) (ME.fld (a5 0))) (@aw _ _ _ _ MS.never) gS)
  (@aw _ _ _ _ (gJ (ME.popC (ME.fld (a5 0)) (ag λ _=>(av 1))))))
noncomputable abbrev Cv:List Str:=["scene", "name", "gone"]
theorem zH:aE Cv rF (ah xQ):=bP
noncomputable def vE (eU:PFn):En->Option Out :=
 (cP (f6 2 (lA eU (aC (eV 0) (aC (eV 1) aN))))
  (hJ (lA wR (aC (oE (bH [none,some 2] (lI nH (eV 0)) (tgN 0) (bT (l2 (pIn true) (l2 pIx (eV 0) (eC (.int 0))) (eV 1))) (eV 0))) aN))))
include tx gM kC in
theorem EL:FnOk Pr w K mg base CX0 (k+1) t.mQ t.oy rF (spP K (cJ 2 3 (vE eU))) :=
 fnP tx.lF zH λ _ _ _ _ _ _ _ hr =>
  (@bi _ _ _ _ _ _ (jr 2 zH.nd (aW gM hr kC tx.uJ tx.bY.kp tx.uO (ac (av 0) (ac (av 1) ao))))
  (@bO _ _ _ _ (i9 (E.tuple tx.z_tuple (ac (cO (jn (N':=["box", "gone"]) (mp:=[none,some 2]) rfl (ba Cv (ah xQ) rfl rfl (by decide +kernel)) (aD (i:=0)) (by decide) (I.tup (av 0)) (λ _ _ _=>⟨(aJ (i:=0) (show (["box", "gone"]:List Str).Nodup by decide +kernel) rfl (Or.inl rfl) (.inr rfl)),(Ts.one (T.notIn (bA (av 0) (dm tx.c_NAME)) (av 1))),(av 0)⟩))) ao)))))
noncomputable abbrev y2:List Str:=["self", "name"]
theorem wO:aE y2 iV (ah ro):=bP
noncomputable def ot (tm:PFn):Wd->Option MOut :=
 (kJ 3 "scene" (mV 0) (mP (lA tm (aC (gj 0 "scene") (aC (eV 1) aN)))))
include tx vS zW in
theorem xb:FnOk Pr w K mg base CX0 (k+1) t.fM t.fC iV (spM K (cl t) (cg 2 2 (ot tm))) :=
 fnM tx.c8 wO λ _ _ _ _ _ _ hr =>
  (@aw _ _ _ _ (fV (k:=3) (a5 0) (ag λ _=>(aW vS hr zW tx.al_cut_scenes tx.lF.kp tx.GY (ac (lG 0) (ac (av 1) ao)))) tx.na_Hall_scene))
noncomputable abbrev qT:List Str:=["self", "word", "depth", "told"]
theorem p8:aE qT dq (ah lJ):=bP
noncomputable def iD  : Wd->Option MOut :=
 (aV (kJ 2 "word" (mV 0) (mP (eV 1)))
  (aV (kJ 2 "depth" (mV 0) (mP (eV 2)))
  (aV (kJ 2 "told" (mV 0) (mV 3))
  (aV (kJ 2 "is_kept" (mV 0) (mP (eC (.bool false))))
  (aV (kJ 2 "is_last_turn" (mV 0) (mP (eC (.bool false))))
  (kJ 2 "is_ended" (mV 0) (mP (eC (.bool false)))))))))
include tx in
theorem qd:FnOk Pr w K mg base CX0 (k+1) t.bW t.bV dq (spM K (cl t) (cg 4 4 (iD))) :=
 fnM tx.aH p8 λ _ _ _ _ _ _ hr =>
  (@al _ _ _ _ _ _ (fV (k:=2) (a5 0) (ag λ _=>(av 1)) tx.na_Course_word)
  (@al _ _ _ _ _ _ (fV (k:=2) (a5 0) (ag λ _=>(av 2)) tx.na_Course_depth)
  (@al _ _ _ _ _ _ (fV (k:=2) (a5 0) (a5 3) tx.na_Course_told)
  (@al _ _ _ _ _ _ (fV (k:=2) (a5 0) (ag λ _=>wu) tx.na_Course_is_kept)
  (@al _ _ _ _ _ _ (fV (k:=2) (a5 0) (ag λ _=>wu) tx.na_Course_is_last_turn)
  (@aw _ _ _ _ (fV (k:=2) (a5 0) (ag λ _=>wu) tx.na_Course_is_ended)))))))
noncomputable abbrev oM:List Str:=["self", "deed", "course"]
theorem nO:aE oM ce (ah jo):=bP
noncomputable def bK (du:DFn) (j0:DFn) (b0:DFn) (bL:DFn):Wd->Option MOut :=
 (mIf (tPv (bT (l2 pEq (l2 pIx (eV 1) (eC (.int 0))) (eC (.str "hear"))))) (iJ (df 3 "hear" du (mV 0) (maC (mP (l2 pIx (eV 1) (eC (.int 1)))) (maC (mP (l2 pIx (eV 1) (eC (.int 2)))) (maC (mP (l2 pIx (eV 1) (eC (.int 3)))) (maC (mP (lA (λ ds=>if ds.length<=No then some (.tuple ds) else none) aN)) (maC (mP (eC (.bool false))) maN))))))) (mIf (tPv (bT (l2 pEq (l2 pIx (eV 1) (eC (.int 0))) (eC (.str "cut"))))) (iJ (df 3 "cut" j0 (mV 0) (maC (mP (l2 pIx (eV 1) (eC (.int 1)))) maN))) (mIf (tPv (bT (l2 pLt (gj 2 "depth") (eC (.int 3))))) (iJ (df 3 "go_along" b0 (mV 0) (maC (mP (l2 pIx (eV 1) (eC (.int 1)))) (maC (rT 2 bL (maC (mP (l2 pIx (eV 1) (eC (.int 2)))) (maC (mP (l2 aM (gj 2 "depth") (eC (.int 1)))) (maC (rW (mV 2) "told") maN)))) maN)))) mNx)))
include tx eF je lE qL cu f9 bX eM in
theorem nV:FnOk Pr w K mg base CX0 (k+1) t.bn t.bm ce (spM K (cl t) (cg 3 3 (bK du j0 b0 bL))) :=
 fnM tx.oN nO λ _ _ _ _ _ _ hr =>
  (@aw _ _ _ _ (@eE _ _ _ _ _ _ _ _ _ (jK λ _=>(tX hr (bA (av 1) ar) bc)) (@aw _ _ _ _ (gJ (gl (kc:=3) (a5 0) tx.cl_Hall tx.pL eF hr je tx.qM (ak (ag λ _=>(bA (av 1) ar)) (ak (ag λ _=>(bA (av 1) ar)) (ak (ag λ _=>(bA (av 1) ar)) (ak (ag λ _=>(dR ao)) (ak (ag λ _=>wu) bu)))))))) (@aw _ _ _ _ (@eE _ _ _ _ _ _ _ _ _ (jK λ _=>(tX hr (bA (av 1) ar) bc)) (@aw _ _ _ _ (gJ (gl (kc:=3) (a5 0) tx.cl_Hall tx.xf lE hr qL tx.yQ (ak (ag λ _=>(bA (av 1) ar)) bu)))) (@aw _ _ _ _ (@eE _ _ _ _ _ _ _ _ _ (jK λ _=>(T.lt (lG 2) (dm tx.c_MOST_CALLS_WITHIN))) (@aw _ _ _ _ (gJ (gl (kc:=3) (a5 0) tx.cl_Hall tx.mF cu hr f9 tx.nt (ak (ag λ _=>(bA (av 1) ar)) (ak (ME.make (kc:=2) tx.cl_Course tx.mk_Course bX hr eM tx.mg_Course tx.lO (ak (ag λ _=>(bA (av 1) ar)) (ak (ag λ _=>(cL (lG 2) ar)) (ak (ME.fld (a5 2)) bu)))) bu))))) gS))))))
noncomputable abbrev uR:List Str:=["self", "deed", "course"]
theorem tF:aE uR fe (ah nR):=bP
noncomputable def hV (cN:DFn) (cQ:PFn) (cV:DFn):Wd->Option MOut :=
 (mIf (tPv (bT (l2 pEq (l2 pIx (eV 1) (eC (.int 0))) (eC (.str "keep"))))) (kJ 2 "is_kept" (mV 2) (mP (eC (.bool true)))) (mIf (tPv (bT (l2 pEq (l2 pIx (eV 1) (eC (.int 0))) (eC (.str "stop"))))) (kJ 2 "is_last_turn" (mV 2) (mP (eC (.bool true)))) (mIf (tPv (bT (l2 pEq (l2 pIx (eV 1) (eC (.int 0))) (eC (.str "stopnow"))))) (kJ 2 "is_ended" (mV 2) (mP (eC (.bool true)))) (mIf (tPv (bT (l2 pEq (l2 pIx (eV 1) (eC (.int 0))) (eC (.str "unhear"))))) (iJ (df 3 "unhear_if_there" cN (mV 0) (maC (mP (l2 pIx (eV 1) (eC (.int 1)))) maN))) (mIf (tPv (bT (lA cQ (aC (gj 0 "scene") (aC (l2 pIx (eV 1) (eC (.int 1))) aN))))) (iJ (df 3 "do_deed_on_box" cV (mV 0) (maC (mP (eV 1)) (maC (mV 2) maN)))) mNx)))))
include tx c6 iE dI iB js iX in
theorem tK:FnOk Pr w K mg base CX0 (k+1) t.cH t.cE fe (spM K (cl t) (cg 3 3 (hV cN cQ cV))) :=
 fnM tx.uU tF λ _ _ _ _ _ _ hr =>
  (@aw _ _ _ _ (@eE _ _ _ _ _ _ _ _ _ (jK λ _=>(tX hr (bA (av 1) ar) bc)) (@aw _ _ _ _ (fV (k:=2) (a5 2) (ag λ _=>wu) tx.na_Course_is_kept)) (@aw _ _ _ _ (@eE _ _ _ _ _ _ _ _ _ (jK λ _=>(tX hr (bA (av 1) ar) bc)) (@aw _ _ _ _ (fV (k:=2) (a5 2) (ag λ _=>wu) tx.na_Course_is_last_turn)) (@aw _ _ _ _ (@eE _ _ _ _ _ _ _ _ _ (jK λ _=>(tX hr (bA (av 1) ar) bc)) (@aw _ _ _ _ (fV (k:=2) (a5 2) (ag λ _=>wu) tx.na_Course_is_ended)) (@aw _ _ _ _ (@eE _ _ _ _ _ _ _ _ _ (jK λ _=>(tX hr (bA (av 1) ar) bc)) (@aw _ _ _ _ (gJ (gl (kc:=3) (a5 0) tx.cl_Hall tx.ny c6 hr iE tx.oA (ak (ag λ _=>(bA (av 1) ar)) bu)))) (@aw _ _ _ _ (@eE _ _ _ _ _ _ _ _ _ (jK λ _=>(T.val (aW dI hr iB tx.qf tx.aR.kp tx.qp (ac (lG 0) (ac (bA (av 1) ar) ao))))) (@aw _ _ _ _ (gJ (gl (kc:=3) (a5 0) tx.cl_Hall tx.nW js hr iX tx.oK (ak (ag λ _=>(av 1)) (ak (a5 2) bu))))) gS))))))))))
noncomputable abbrev wn:List Str:=["self", "number", "course", "hearer", "deed"]
theorem kL:aE wn gZ (ah pC):=bP
noncomputable def jg (hW:DFn) (gR:DFn):Wd->Option MOut :=
 (aV (bU 3 (de (rW (mV 0) "hearers") (mP (eV 1))))
  (aV (iJ (rX (rW (mV 2) "told") (mP (lA (λ ds=>if ds.length<=No then some (.tuple ds) else none) (aC (eV 1) (aC (l2 pIx (eV 3) (eC (.int 0))) (aC (l2 pIx (eV 3) (eC (.int 1))) (aC (l2 pIx (eV 3) (eC (.int 2))) aN))))))))
  (aV (mIf (tPv (bT (l2 pIx (eV 3) (eC (.int 4))))) (iJ (df 3 "unhear" hW (mV 0) (maC (mP (eV 1)) maN))) mNx)
  (tQ [4] (iPu (lI nH (l2 pIx (eV 3) (eC (.int 3))))) (tgN 4)
  (iJ (df 3 "do_deed" gR (mV 0) (maC (mP (eV 4)) (maC (mV 2) maN))))))))
include tx iI oe oG nr in
theorem ve:FnOk Pr w K mg base CX0 (k+1) t.dC t.dz gZ (spM K (cl t) (cg 3 5 (jg hW gR))) :=
 fnM tx.wt kL λ _ _ _ _ _ _ hr =>
  (@al _ _ _ _ _ _ (bv 3 kL.nd (eP hr (ME.fld (a5 0)) (ag λ _=>(av 1))))
  (@al _ _ _ _ _ _ (gJ (ME.appC (ME.fld (a5 2)) (ag λ _=>(dR (ac (av 1) (ac (bA (av 3) (dm tx.c_BOX_halls)) (ac (bA (av 3) (dm tx.c_WORD_halls)) (ac (bA (av 3) (dm tx.c_IS_DOWN)) ao))))))))
  (@al _ _ _ _ _ _ (@eE _ _ _ _ _ _ _ _ _ (jK λ _=>(T.val (bA (av 3) (dm tx.c_IS_ONCE)))) (@aw _ _ _ _ (gJ (gl (kc:=3) (a5 0) tx.cl_Hall tx.uI iI hr oe tx.vK (ak (ag λ _=>(av 1)) bu)))) gS)
  (@aw _ _ _ _ (@MS.for _ _ _ _ _ _ _ _ _ _ _ N0 rfl (MI.pu λ _=>(I.tup (bA (av 3) (dm tx.c_DEEDS)))) (aJ (i:=4) kL.nd rfl (by first | exact Or.inl rfl | exact Or.inr rfl) ) (aD (i:=4))
  (@aw _ _ _ _ (gJ (gl (kc:=3) (a5 0) tx.cl_Hall tx.tN oG hr nr tx.uQ (ak (ag λ _=>(av 4)) (ak (a5 2) bu))))) (λ _=>rfl))))))
noncomputable abbrev sR:List Str:=["self", "box", "is_down", "course", "number"]
theorem lH:aE sR dO (ah mx):=bP
noncomputable def gd (gQ:DFn) (iH:DFn):Wd->Option MOut :=
 (tQ [4] (iM (df 3 "numbers" gQ (mV 0) (maC (mP (eV 1)) (maC (mP (gj 3 "word")) (maC (mP (eV 2)) maN))))) (tgN 4)
  (mIf (nM (AR false (mP (eV 4)) (rW (mV 0) "hearers")) (tPv (zu (bT (gj 3 "is_ended"))))) (iJ (df 3 "rouse" iH (mV 0) (maC (mP (eV 4)) (maC (mV 3) maN)))) mNx))
include tx iq nq p0 oW in
theorem qR:FnOk Pr w K mg base CX0 (k+1) t.b8 t.b6 dO (spM K (cl t) (cg 4 5 (gd gQ iH))) :=
 fnM tx.sX lH λ _ _ _ _ _ _ hr =>
  (@aw _ _ _ _ (@MS.for _ _ _ _ _ _ _ _ _ _ _ N0 rfl (MI.list (gl (kc:=3) (a5 0) tx.cl_Hall tx.tL iq hr nq tx.uP (ak (ag λ _=>(av 1)) (ak (ag λ _=>(lG 3)) (ak (ag λ _=>(av 2)) bu))))) (aJ (i:=4) lH.nd rfl (by first | exact Or.inl rfl | exact Or.inr rfl) ) (aD (i:=4))
  (@aw _ _ _ _ (@eE _ _ _ _ _ _ _ _ _ (MTW.t (MTW.and (MT.inC hr (ag λ _=>(av 4)) (ME.fld (a5 0))) (MTW.and1 (jK λ _=>(T.not (T.val (lG 3))))))) (@aw _ _ _ _ (gJ (gl (kc:=3) (a5 0) tx.cl_Hall tx.vh p0 hr oW tx.wl (ak (ag λ _=>(av 4)) (ak (a5 3) bu))))) gS)) (λ _=>rfl)))
noncomputable abbrev jy:List Str:=["self", "name", "course", "path", "turns", "box", "is_down"]
theorem dM:aE jy bB (ah gO):=bP
noncomputable def jw (aS:PFn) (cQ:PFn) (fS:DFn):Wd->Option MOut :=
 (aV (bU 3 (mP (lA aS (aC (gj 0 "scene") (aC (eV 1) aN)))))
  (aV (bU 4 (mP (l2 aM (oE (bH [none] (lI asL (eV 3)) (tgN 0) cS (lA (λ ds=>if ds.length<=No then some (.tuple ds) else none) (aC (eV 0) (aC (eC (.bool true)) aN))))) (oE (bH [none] (λ η=>((aC (eV 3) aN) η).bind rvS) (tgN 0) cS (lA (λ ds=>if ds.length<=No then some (.tuple ds) else none) (aC (eV 0) (aC (eC (.bool false)) aN))))))))
  (aV (tQ [5,6] (iPu (lI asL (eV 4))) (tgT (aX (tgN 5) (aX (tgN 6) gX)))
  (mIf (tPv (E8 (bT (lA cQ (aC (gj 0 "scene") (aC (eV 5) aN)))) (zu (bT (gj 2 "is_last_turn"))))) (iJ (df 3 "give_turn" fS (mV 0) (maC (mP (eV 5)) (maC (mP (eV 6)) (maC (mV 2) maN))))) mNx))
  (nX (mP (gj 2 "is_kept"))))))
include tx a8 cb dI iB mS lN in
theorem rK:FnOk Pr w K mg base CX0 (k+1) t.a7 t.a6 bB (spM K (cl t) (cg 3 7 (jw aS cQ fS))) :=
 fnM tx.aL dM λ _ _ _ _ _ _ hr =>
  (@al _ _ _ _ _ _ (bv 3 dM.nd (ag λ _=>(aW a8 hr cb tx.jd tx.aB.kp tx.jk (ac (lG 0) (ac (av 1) ao)))))
  (@al _ _ _ _ _ _ (bv 4 dM.nd (ag λ _=>(cL (cO (jn (N':=["box"]) (mp:=[none]) rfl (ba jy (ah gO) rfl rfl (by decide +kernel)) (aD (i:=0)) (by decide) (I.list (av 3)) (λ _ _ _=>⟨(aJ (i:=0) (show (["box"]:List Str).Nodup by decide +kernel) rfl (Or.inl rfl) (.inr rfl)),Ts.nil,(dR (ac (av 0) (ac wu ao)))⟩))) (cO (jn (N':=["box"]) (mp:=[none]) rfl (ba jy (ah gO) rfl rfl (by decide +kernel)) (aD (i:=0)) (by decide) (I.rev rfl tx.z_reversed (ac (av 3) ao)) (λ _ _ _=>⟨(aJ (i:=0) (show (["box"]:List Str).Nodup by decide +kernel) rfl (Or.inl rfl) (.inr rfl)),Ts.nil,(dR (ac (av 0) (ac wu ao)))⟩))))))
  (@al _ _ _ _ _ _ (@MS.for _ _ _ _ _ _ _ _ _ _ _ N0 rfl (MI.pu λ _=>(I.list (av 4))) (rA (n:=2) rfl (eI (aJ (i:=5) dM.nd rfl (by first | exact Or.inl rfl | exact Or.inr rfl) ) (eI (aJ (i:=6) dM.nd rfl (by first | exact Or.inl rfl | exact Or.inr rfl) ) oR))) (TgP.tup (n:=2) (db (aD (i:=5)) (db (aD (i:=6)) TgsP.nil)) (oO))
  (@aw _ _ _ _ (@eE _ _ _ _ _ _ _ _ _ (jK λ _=>(TW.t (TW.and (T.val (aW dI hr iB tx.qf tx.aR.kp tx.qp (ac (lG 0) (ac (av 5) ao)))) (TW.and1 (T.not (T.val (lG 2))))))) (@aw _ _ _ _ (gJ (gl (kc:=3) (a5 0) tx.cl_Hall tx.qS mS hr lN tx.sN (ak (ag λ _=>(av 5)) (ak (ag λ _=>(av 6)) (ak (a5 2) bu)))))) gS)) (λ _=>rfl))
  (@aw _ _ _ _ (g9 (ag λ _=>(lG 2)))))))
noncomputable abbrev xq:List Str:=["self", "name", "word", "told", "is_kept"]
theorem lU:aE xq iA (ah qz):=bP
noncomputable def mX (b0:DFn) (bL:DFn):Wd->Option MOut :=
 (aV (bU 3 (mN (λ η=>(aN η).bind gL)))
  (aV (bU 4 (df 3 "go_along" b0 (mV 0) (maC (mP (eV 1)) (maC (rT 2 bL (maC (mP (eV 2)) (maC (mP (eC (.int 0))) (maC (mV 3) maN)))) maN))))
  (nX (zM (maC (mFz (mV 3)) (maC (mP (eV 4)) maN))))))
include tx cu f9 bX eM in
theorem v7:FnOk Pr w K mg base CX0 (k+1) t.eD t.ee iA (spM K (cl t) (cg 3 5 (mX b0 bL))) :=
 fnM tx.di lU λ _ _ _ _ _ _ hr =>
  (@al _ _ _ _ _ _ (bv 3 lU.nd (ME.nw λ _=>(dj ao)))
  (@al _ _ _ _ _ _ (bv 4 lU.nd (gl (kc:=3) (a5 0) tx.cl_Hall tx.mF cu hr f9 tx.nt (ak (ag λ _=>(av 1)) (ak (ME.make (kc:=2) tx.cl_Course tx.mk_Course bX hr eM tx.mg_Course tx.lO (ak (ag λ _=>(av 2)) (ak (ag λ _=>ar) (ak (a5 3) bu)))) bu))))
  (@aw _ _ _ _ (g9 (ME.tupM (ak (ME.fz (a5 3)) (ak (ag λ _=>(av 4)) bu)))))))
noncomputable abbrev Fb:List Str:=["hall", "rows", "called", "kept", "number", "row", "answer"]
theorem lP:aE Fb pG (ah zI):=bP
noncomputable def wf (cQ:PFn) (cW:DFn) (jj:DFn):Wd->Option MOut :=
 (aV (bU 2 (mN (λ η=>(aN η).bind gL)))
  (aV (bU 3 (mN (λ η=>(aN η).bind gL)))
  (aV (tQ [4,5] (iPu (λ η=>((aC (eV 1) aN) η).bind enL)) (tgT (aX (tgN 4) (aX (tgN 5) gX)))
  (mIf (mB (mCB cQ (maC (df 3 "boxes" cW (mV 0) maN) (maC (mP (l2 pIx (eV 5) (eC (.int 1)))) maN)))) (aV (bU 6 (df 3 "call" jj (mV 0) (maC (mP (l2 pIx (eV 5) (eC (.int 1)))) (maC (mP (l2 pIx (eV 5) (eC (.int 0)))) maN))))
  (aV (iJ (zN (mV 2) (mP (l2 pIx (eV 6) (eC (.int 0))))))
  (mIf (tPv (bT (l2 pIx (eV 6) (eC (.int 1))))) (iJ (rX (mV 3) (mP (eV 4)))) mNx))) mNx))
  (nX (zM (maC (mFz (mV 2)) (maC (mFz (mV 3)) maN)))))))
include tx dI iB dE iF kg pU in
theorem CW:FnOk Pr w K mg base CX0 (k+1) t.l4 t.lY pG (spM K (cl t) (cg 2 7 (wf cQ cW jj))) :=
 fnM tx.kI lP λ _ _ _ _ _ _ hr =>
  (@al _ _ _ _ _ _ (bv 2 lP.nd (ME.nw λ _=>(dj ao)))
  (@al _ _ _ _ _ _ (bv 3 lP.nd (ME.nw λ _=>(dj ao)))
  (@al _ _ _ _ _ _ (@MS.for _ _ _ _ _ _ _ _ _ _ _ N0 rfl (MI.pu λ _=>(I.enumL rfl tx.z_enumerate (ac (av 1) ao))) (rA (n:=2) rfl (eI (aJ (i:=4) lP.nd rfl (by first | exact Or.inl rfl | exact Or.inr rfl) ) (eI (aJ (i:=5) lP.nd rfl (by first | exact Or.inl rfl | exact Or.inr rfl) ) oR))) (TgP.tup (n:=2) (db (aD (i:=4)) (db (aD (i:=5)) TgsP.nil)) (oO))
  (@aw _ _ _ _ (@eE _ _ _ _ _ _ _ _ _ (MT.val (ME.callP dI hr iB tx.qf tx.aR.kp tx.qp (ak (ME.meth0 (kc:=3) (a5 0) tx.cl_Hall tx.oS dE hr iF tx.pW) (ak (ag λ _=>(bA (av 5) (dm tx.c_BOX_hands))) bu)))) (@al _ _ _ _ _ _ (bv 6 lP.nd (gl (kc:=3) (a5 0) tx.cl_Hall tx.wb kg hr pU tx.xn (ak (ag λ _=>(bA (av 5) (dm tx.c_BOX_hands))) (ak (ag λ _=>(bA (av 5) (dm tx.c_WORD_hands))) bu))))
  (@al _ _ _ _ _ _ (gJ (ME.extC (a5 2) (ag λ _=>(bA (av 6) ar))))
  (@aw _ _ _ _ (@eE _ _ _ _ _ _ _ _ _ (jK λ _=>(T.val (bA (av 6) ar))) (@aw _ _ _ _ (gJ (ME.appC (a5 3) (ag λ _=>(av 4))))) gS)))) gS)) (λ _=>rfl))
  (@aw _ _ _ _ (g9 (ME.tupM (ak (ME.fz (a5 2)) (ak (ME.fz (a5 3)) bu))))))))
noncomputable abbrev Cu:List Str:=["_law_script", "_law_scene_here", "_law_hall_here", "_law_mine", "_law_names", "_law_calls", "_law_k", "_law_here", "_law_name", "_law_word", "_law_is_down", "_law_other", "_law_deeds", "_law_some", "_law_hands", "_law_rows", "_law_x", "_law_called", "_law_kept", "_law_at", "_law_row", "_law_is_kept"]
theorem aU:aE Cu ["_law_script"] (ah xP):=bP
noncomputable def yA (jh:PFn) (gi:DFn) (jX:DFn) (az:PFn) (du:DFn) (dY:DFn) (fR:DFn) (iG:DFn) (bj:DFn) (jZ:DFn) (cW:DFn) (qm:DFn):Wd->Option MOut :=
 (aV (bU 1 (mP (lA jh (aC (eV 0) (aC (eC (.int 0)) aN)))))
  (aV (bU 2 (rT 3 gi (maC (mP (eV 1)) maN)))
  (aV (bU 3 (fg jX (maC (mP (eV 1)) maN)))
  (aV (bU 4 (mC (bH [none] (lI nH (eV 1)) (tgN 0) cS (l2 pIx (eV 0) (eC (.int 0))))))
  (aV (bU 5 (mP (eC (.int 0))))
  (aV (tQ [6] (iPu (λ η=>((aC (l2 pIx (oE (λ η=>((aC (eC (.int 0)) (aC (lA az (aC (eV 0) (aC (eC (.int 100)) (aC (eC (.int 6)) aN)))) aN)) η).bind gL)) (lA xX (aC (l2 pNe (eV 1) (lA (λ ds=>if ds.length<=No then some (.tuple ds) else none) aN)) aN))) aN) η).bind rng1)) (tgN 6)
  (aV (bU 7 (mP (l2 aM (eC (.int 101)) (l2 nv (eC (.int 9)) (eV 6)))))
  (aV (bU 8 (mP (l2 pIx (eV 4) (lA az (aC (eV 0) (aC (eV 7) (aC (lA oI (aC (eV 4) aN)) aN)))))))
  (aV (bU 9 (mP (l2 pIx (oE (λ η=>((aC (eC (.str "move")) (aC (eC (.str "enter")) (aC (eC (.str "leave")) (aC (eC (.str "down")) aN)))) η).bind gL)) (lA az (aC (eV 0) (aC (l2 aM (eV 7) (eC (.int 1))) (aC (eC (.int 4)) aN)))))))
  (aV (bU 10 (mP (l2 pEq (lA az (aC (eV 0) (aC (l2 aM (eV 7) (eC (.int 2))) (aC (eC (.int 2)) aN)))) (eC (.int 0)))))
  (aV (bU 11 (mP (l2 pIx (eV 4) (lA az (aC (eV 0) (aC (l2 aM (eV 7) (eC (.int 4))) (aC (lA oI (aC (eV 4) aN)) aN)))))))
  (aV (bU 12 (mP (oE (λ η=>((aC (lA (λ ds=>if ds.length<=No then some (.tuple ds) else none) aN) (aC (lA (λ ds=>if ds.length<=No then some (.tuple ds) else none) (aC (lA (λ ds=>if ds.length<=No then some (.tuple ds) else none) (aC (eC (.str "keep")) aN)) aN)) (aC (lA (λ ds=>if ds.length<=No then some (.tuple ds) else none) (aC (lA (λ ds=>if ds.length<=No then some (.tuple ds) else none) (aC (eC (.str "stop")) aN)) aN)) (aC (lA (λ ds=>if ds.length<=No then some (.tuple ds) else none) (aC (lA (λ ds=>if ds.length<=No then some (.tuple ds) else none) (aC (eC (.str "cut")) (aC (eV 11) aN))) aN)) (aC (lA (λ ds=>if ds.length<=No then some (.tuple ds) else none) (aC (lA (λ ds=>if ds.length<=No then some (.tuple ds) else none) (aC (eC (.str "keep")) aN)) (aC (lA (λ ds=>if ds.length<=No then some (.tuple ds) else none) (aC (eC (.str "call")) (aC (eV 11) (aC (eC (.str "enter")) aN)))) aN))) aN))))) η).bind gL))))
  (aV (bU 13 (mP (l2 pIx (eV 12) (lA az (aC (eV 0) (aC (l2 aM (eV 7) (eC (.int 3))) (aC (eC (.int 5)) aN)))))))
  (aV (bU 5 (mP (l2 aM (eV 5) (lA xX (aC (l2 pEq (lA oI (aC (eV 13) aN)) (eC (.int 2))) aN)))))
  (aV (bU 13 (mP (vIf (bT (l2 pLt (eV 5) (eC (.int 3)))) (eV 13) (eSl (eV 13) pN (pS (eC (.int 1)))))))
  (aV (iJ (df 3 "hear" du (mV 2) (maC (mP (eV 8)) (maC (mP (eV 9)) (maC (mP (eV 10)) (maC (mP (eV 13)) (maC (mP (eC (.bool false))) maN)))))))
  (iJ (fg dY (maC (mV 3) (maC (mP (eV 8)) (maC (mP (eV 9)) (maC (mP (eV 10)) (maC (mP (eV 13)) (maC (mP (eC (.bool false))) maN)))))))))))))))))))
  (aV (bU 14 (rT 1 fR (maC (mP (eV 1)) maN)))
  (aV (bU 15 (mP (oE (λ η=>(aN η).bind gL))))
  (aV (tQ [6] (iPu (λ η=>((aC (eC (.int 3)) aN) η).bind rng1)) (tgN 6)
  (aV (bU 16 (mP (l2 wS (lA az (aC (eV 0) (aC (l2 aM (eC (.int 200)) (l2 nv (eC (.int 3)) (eV 6))) (aC (eC (.int 9)) aN)))) (eC (.int 1)))))
  (bU 15 (mOp aM (mP (eV 15)) (df 1 "move" iG (mV 14) (maC (mP (eC (.int 0))) (maC (mP (eV 6)) (maC (mP (eV 16)) (maC (mP (l2 wS (lA az (aC (eV 0) (aC (l2 aM (eC (.int 201)) (l2 nv (eC (.int 3)) (eV 6))) (aC (eC (.int 9)) aN)))) (eC (.int 1)))) maN)))))))))
  (aV (bU 15 (mP (l2 aM (eV 15) (oE (λ η=>((aC (lA (λ ds=>if ds.length<=No then some (.tuple ds) else none) (aC (eC (.str "move")) (aC (eC (.str "zz")) aN))) aN) η).bind gL)))))
  (aV (bU 17 (mP (oE (λ η=>(aN η).bind gL))))
  (aV (bU 18 (mP (oE (λ η=>(aN η).bind gL))))
  (aV (tQ [19,20] (iPu (λ η=>((aC (eV 15) aN) η).bind enL)) (tgT (aX (tgN 19) (aX (tgN 20) gX)))
  (mIf (mB (fg bj (maC (mV 3) (maC (mP (l2 pIx (eV 20) (eC (.int 1)))) maN)))) (aV (ER [13,21] (fg jZ (maC (mV 3) (maC (mP (l2 pIx (eV 20) (eC (.int 1)))) (maC (mP (l2 pIx (eV 20) (eC (.int 0)))) maN)))) (tgT (aX (tgN 13) (aX (tgN 21) gX))))
  (aV (bU 17 (mP (l2 aM (eV 17) (eV 13))))
  (bU 18 (mP (l2 aM (eV 18) (GK (λ η=>((aC (eV 19) aN) η).bind gL) (lA xX (aC (eV 21) aN)))))))) mNx))
  (nX (Kw (mG pEq (fg qm (maC (mV 2) (maC (mP (eV 15)) maN))) (mP (lA (λ ds=>if ds.length<=No then some (.tuple ds) else none) (aC (eV 17) (aC (eV 18) aN))))) (mG pEq (df 3 "boxes" cW (mV 2) maN) (de (mV 3) (mP (eC (.str "scene"))))))))))))))))))))
include tx aK aP bw c9 fO jQ eF je dE iF j8 pR gW mL lz qI gn lM jm oV lC qK tu yu in
theorem EJ:FnOk Pr w K mg base CX0 (k+1) t.pX t.pV ["_law_script"] (spM K (cl t) (cg 1 22 (yA jh gi jX az du dY fR iG bj jZ cW qm))) :=
 fnM tx.sV aU λ _ _ _ _ _ _ hr =>
  (@al _ _ _ _ _ _ (bv 1 aU.nd (ag λ _=>(aW j8 hr pR tx.xg tx.dh.kp tx.xl (ac (av 0) (ac ar ao)))))
  (@al _ _ _ _ _ _ (bv 2 aU.nd (ME.make (kc:=3) tx.cl_Hall tx.mk_Hall gW hr mL tx.mg_Hall tx.tW (ak (ag λ _=>(av 1)) bu)))
  (@al _ _ _ _ _ _ (bv 3 aU.nd (jl lz hr qI tx.yi tx.hG.kp tx.yN (ak (ag λ _=>(av 1)) bu)))
  (@al _ _ _ _ _ _ (@MS.setC _ _ _ _ _ _ _ ["_law_box_here"] [none] _ _ _ _ _ _ _ 4 _ _ _ rfl aU.nd (ba Cu (ah xP) rfl rfl (by decide +kernel)) (aD (i:=0)) (by decide) (λ _=>(I.tup (av 1))) (λ _ _ _ _=>⟨(aJ (i:=0) (show (["_law_box_here"]:List Str).Nodup by decide +kernel) rfl (Or.inl rfl) (.inr rfl)),Ts.nil,(bA (av 0) ar)⟩) rfl rfl rfl (λ _=>rfl))
  (@al _ _ _ _ _ _ (bv 5 aU.nd (ag λ _=>ar))
  (@al _ _ _ _ _ _ (@MS.for _ _ _ _ _ _ _ _ _ _ _ N0 rfl (MI.pu λ _=>(I.rng1 tx.z_range (ac (bA (cO (dj (ac ar (ac (aW aK hr aP tx.bf tx.af.kp tx.bg (ac (av 0) (ac ar (ac ar ao)))) ao)))) (E.toInt tx.z_int (ac (E.ne hr (av 1) (dR ao)) ao))) ao))) (aJ (i:=6) aU.nd rfl (by first | exact Or.inl rfl | exact Or.inr rfl) ) (aD (i:=6))
  (@al _ _ _ _ _ _ (bv 7 aU.nd (ag λ _=>(cL ar (sY ar (av 6)))))
  (@al _ _ _ _ _ _ (bv 8 aU.nd (ag λ _=>(bA (av 4) (aW aK hr aP tx.bf tx.af.kp tx.bg (ac (av 0) (ac (av 7) (ac (E.len tx.z_len (ac (av 4) ao)) ao)))))))
  (@al _ _ _ _ _ _ (bv 9 aU.nd (ag λ _=>(bA (cO (dj (ac bc (ac bc (ac bc (ac bc ao)))))) (aW aK hr aP tx.bf tx.af.kp tx.bg (ac (av 0) (ac (cL (av 7) ar) (ac ar ao)))))))
  (@al _ _ _ _ _ _ (bv 10 aU.nd (ag λ _=>(E.eq hr (aW aK hr aP tx.bf tx.af.kp tx.bg (ac (av 0) (ac (cL (av 7) ar) (ac ar ao)))) ar)))
  (@al _ _ _ _ _ _ (bv 11 aU.nd (ag λ _=>(bA (av 4) (aW aK hr aP tx.bf tx.af.kp tx.bg (ac (av 0) (ac (cL (av 7) ar) (ac (E.len tx.z_len (ac (av 4) ao)) ao)))))))
  (@al _ _ _ _ _ _ (@bv _ _ _ _ _ _ 12 _ aU.nd (@ag _ _ _ _ (λ _=>(@cO _ _ _ _ (@dj _ _ _ _ _ (@ac _ _ _ _ _ _ (@dR _ _ _ _ _ _ ao) (@ac _ _ _ _ _ _ (@dR _ _ _ _ _ _ (@ac _ _ _ _ _ _ (@dR _ _ _ _ _ _ (@ac _ _ _ _ _ _ bc ao (aQ rfl))) ao (aQ rfl))) (@ac _ _ _ _ _ _ (@dR _ _ _ _ _ _ (@ac _ _ _ _ _ _ (@dR _ _ _ _ _ _ (@ac _ _ _ _ _ _ bc ao (aQ rfl))) ao (aQ rfl))) (@ac _ _ _ _ _ _ (@dR _ _ _ _ _ _ (@ac _ _ _ _ _ _ (@dR _ _ _ _ _ _ (@ac _ _ _ _ _ _ bc (@ac _ _ _ _ _ _ (av 11) ao (aQ rfl)) (aQ rfl))) ao (aQ rfl))) (@ac _ _ _ _ _ _ (@dR _ _ _ _ _ _ (@ac _ _ _ _ _ _ (@dR _ _ _ _ _ _ (@ac _ _ _ _ _ _ bc ao (aQ rfl))) (@ac _ _ _ _ _ _ (@dR _ _ _ _ _ _ (@ac _ _ _ _ _ _ bc (@ac _ _ _ _ _ _ (av 11) (@ac _ _ _ _ _ _ bc ao (aQ rfl)) (aQ rfl)) (aQ rfl))) ao (aQ rfl)) (aQ rfl))) ao (aQ rfl)) (aQ rfl)) (aQ rfl)) (aQ rfl)) (aQ rfl)))))) rfl (by first | exact Or.inl rfl | exact Or.inr rfl) rfl (by first | exact .inl rfl | exact .inr rfl))
  (@al _ _ _ _ _ _ (bv 13 aU.nd (ag λ _=>(bA (av 12) (aW aK hr aP tx.bf tx.af.kp tx.bg (ac (av 0) (ac (cL (av 7) ar) (ac ar ao)))))))
  (@al _ _ _ _ _ _ (bv 5 aU.nd (ag λ _=>(cL (av 5) (E.toInt tx.z_int (ac (E.eq hr (E.len tx.z_len (ac (av 13) ao)) ar) ao)))))
  (@al _ _ _ _ _ _ (bv 13 aU.nd (ag λ _=>(E.ifE (T.lt (av 5) ar) (av 13) (E.sl (av 13) P.none (P.some ar)))))
  (@al _ _ _ _ _ _ (gJ (gl (kc:=3) (a5 2) tx.cl_Hall tx.pL eF hr je tx.qM (ak (ag λ _=>(av 8)) (ak (ag λ _=>(av 9)) (ak (ag λ _=>(av 10)) (ak (ag λ _=>(av 13)) (ak (ag λ _=>wu) bu)))))))
  (@aw _ _ _ _ (gJ (jl fO hr jQ tx.rP tx.bG.kp tx.sI (ak (a5 3) (ak (ag λ _=>(av 8)) (ak (ag λ _=>(av 9)) (ak (ag λ _=>(av 10)) (ak (ag λ _=>(av 13)) (ak (ag λ _=>wu) bu))))))))))))))))))) (λ _=>rfl))
  (@al _ _ _ _ _ _ (bv 14 aU.nd (ME.make (kc:=1) tx.cl_Hands tx.mk_Hands gn hr lM tx.mg_Hands tx.sM (ak (ag λ _=>(av 1)) bu)))
  (@al _ _ _ _ _ _ (bv 15 aU.nd (ag λ _=>(cO (dj ao))))
  (@al _ _ _ _ _ _ (@MS.for _ _ _ _ _ _ _ _ _ _ _ N0 rfl (MI.pu λ _=>(I.rng1 tx.z_range (ac ar ao))) (aJ (i:=6) aU.nd rfl (by first | exact Or.inl rfl | exact Or.inr rfl) ) (aD (i:=6))
  (@al _ _ _ _ _ _ (bv 16 aU.nd (ag λ _=>(E.sub (aW aK hr aP tx.bf tx.af.kp tx.bg (ac (av 0) (ac (cL ar (sY ar (av 6))) (ac ar ao)))) ar)))
  (@aw _ _ _ _ (bv 15 aU.nd (ME.add (ag λ _=>(av 15)) (gl (kc:=1) (a5 14) tx.cl_Hands tx.vg jm hr oV tx.wk (ak (ag λ _=>ar) (ak (ag λ _=>(av 6)) (ak (ag λ _=>(av 16)) (ak (ag λ _=>(E.sub (aW aK hr aP tx.bf tx.af.kp tx.bg (ac (av 0) (ac (cL ar (sY ar (av 6))) (ac ar ao)))) ar)) bu))))))))) (λ _=>rfl))
  (@al _ _ _ _ _ _ (bv 15 aU.nd (ag λ _=>(cL (av 15) (cO (dj (ac (dR (ac bc (ac bc ao))) ao))))))
  (@al _ _ _ _ _ _ (bv 17 aU.nd (ag λ _=>(cO (dj ao))))
  (@al _ _ _ _ _ _ (bv 18 aU.nd (ag λ _=>(cO (dj ao))))
  (@al _ _ _ _ _ _ (@MS.for _ _ _ _ _ _ _ _ _ _ _ N0 rfl (MI.pu λ _=>(I.enumL rfl tx.z_enumerate (ac (av 15) ao))) (rA (n:=2) rfl (eI (aJ (i:=19) aU.nd rfl (by first | exact Or.inl rfl | exact Or.inr rfl) ) (eI (aJ (i:=20) aU.nd rfl (by first | exact Or.inl rfl | exact Or.inr rfl) ) oR))) (TgP.tup (n:=2) (db (aD (i:=19)) (db (aD (i:=20)) TgsP.nil)) (oO))
  (@aw _ _ _ _ (@eE _ _ _ _ _ _ _ _ _ (MT.val (jl bw hr c9 tx.ko tx.ay.kp tx.kz (ak (a5 3) (ak (ag λ _=>(bA (av 20) ar)) bu)))) (@al _ _ _ _ _ _ (MS.unp (jl lC hr qK tx.yk tx.c7.kp tx.yP (ak (a5 3) (ak (ag λ _=>(bA (av 20) ar)) (ak (ag λ _=>(bA (av 20) ar)) bu)))) (rA (n:=2) rfl (eI (aJ (i:=13) aU.nd rfl (by first | exact Or.inl rfl | exact Or.inr rfl) ) (eI (aJ (i:=21) aU.nd rfl (by first | exact Or.inl rfl | exact Or.inr rfl) ) oR))) (TgP.tup (n:=2) (db (aD (i:=13)) (db (aD (i:=21)) TgsP.nil)) (oO)))
  (@al _ _ _ _ _ _ (bv 17 aU.nd (ag λ _=>(cL (av 17) (av 13))))
  (@aw _ _ _ _ (bv 18 aU.nd (ag λ _=>(cL (av 18) (E.rep (dj (ac (av 19) ao)) (E.toInt tx.z_int (ac (av 21) ao))))))))) gS)) (λ _=>rfl))
  (@aw _ _ _ _ (g9 (ME.and (ME.eq hr (jl tu hr yu tx.EQ tx.kI.kp tx.E7 (ak (a5 2) (ak (ag λ _=>(av 15)) bu))) (ag λ _=>(dR (ac (av 17) (ac (av 18) ao))))) (ME.one (ME.eq hr (ME.meth0 (kc:=3) (a5 2) tx.cl_Hall tx.oS dE hr iF tx.pW) (eP hr (a5 3) (ag λ _=>bc))))))))))))))))))))
end
noncomputable def cy:PFn:=cJ 2 2 (lf )
theorem lB (tx:Tx K mg t):FnOk Pr w K mg base CX0 1 t.fK t.fA iT (spP K cy):=w8 (k:=0) tx 
noncomputable def af:PFn:=cJ 3 4 (jT cy)
theorem aK (tx:Tx K mg t):FnOk Pr w K mg base CX0 2 t.eu t.d7 iw (spP K af):=v4 (k:=1) tx (lB tx) (by omega)
noncomputable def dh:PFn:=cJ 2 13 (jS af)
theorem j8 (tx:Tx K mg t):FnOk Pr w K mg base CX0 3 t.ef t.d6 iu (spP K dh):=v0 (k:=2) tx (aK tx) (by omega)
noncomputable def cw:DFn:=cg 2 2 (jx )
theorem gW (tx:Tx K mg t):FnOk Pr w K mg base CX0 1 t.cr t.cm eL (spM K (cl t) cw):=rL (k:=0) tx 
noncomputable def hG:DFn:=cg 1 1 (sD )
theorem lz (tx:Tx K mg t):FnOk Pr w K mg base CX0 1 t.fJ t.fw iS (spM K (cl t) hG):=wY (k:=0) tx 
noncomputable def aG:PFn:=cJ 2 3 (oX )
theorem bJ (tx:Tx K mg t):FnOk Pr w K mg base CX0 1 t.i8 t.i5 mE (spP K aG):=AH (k:=0) tx 
noncomputable def bo:DFn:=cg 6 7 (mW aG)
theorem eF (tx:Tx K mg t):FnOk Pr w K mg base CX0 2 t.eB t.d9 iz (spM K (cl t) bo):=v6 (k:=1) tx (bJ tx) (by omega)
noncomputable def bG:DFn:=cg 6 6 (ol )
theorem fO (tx:Tx K mg t):FnOk Pr w K mg base CX0 1 t.fI t.fu iR (spM K (cl t) bG):=wX (k:=0) tx 
noncomputable def cK:DFn:=cg 2 2 (gb )
theorem gn (tx:Tx K mg t):FnOk Pr w K mg base CX0 1 t.b7 t.b5 dN (spM K (cl t) cK):=qQ (k:=0) tx 
noncomputable def cv:DFn:=cg 1 1 (gP )
theorem gU (tx:Tx K mg t):FnOk Pr w K mg base CX0 1 t.cq t.cj eK (spM K (cl t) cv):=rJ (k:=0) tx 
noncomputable def bC:DFn:=cg 2 2 (jv cv)
theorem gT (tx:Tx K mg t):FnOk Pr w K mg base CX0 3 t.cn t.ci eJ (spM K (cl t) bC):=rH (k:=2) tx (gU tx) (by omega)
noncomputable def a9:DFn:=cg 2 2 (hU )
theorem eQ (tx:Tx K mg t):FnOk Pr w K mg base CX0 1 t.bN t.bM cT (spM K (cl t) a9):=pJ (k:=0) tx 
noncomputable def bz:PFn:=cJ 2 2 (ma )
theorem gK (tx:Tx K mg t):FnOk Pr w K mg base CX0 1 t.gG t.gy jF (spP K bz):=yc (k:=0) tx 
noncomputable def bY:Nat->PFn
 | 0=>λ _=>none
 | n+1=>cJ 2 4 (ql aG bz (bY n))
theorem gM (tx:Tx K mg t):∀ n:Nat,FnOk Pr w K mg base CX0 (n+1) t.kA t.kx nU (spP K (bY n))
 | 0=>fn0
 | n+1=>(BK (k:=n+1) tx (bJ tx) (by omega) (gK tx) (by omega) (gM tx n) (by omega)).mono (by omega)
noncomputable def dJ:PFn:=cJ 1 3 (nA bz (bY 13))
theorem nJ (tx:Tx K mg t):FnOk Pr w K mg base CX0 15 t.ii t.h8 kQ (spP K dJ):=ze (k:=14) tx (gK tx) (by omega) (gM tx 13) (by omega)
noncomputable def aB:Nat->PFn
 | 0=>λ _=>none
 | n+1=>cJ 2 3 (nz aG (aB n))
theorem a8 (tx:Tx K mg t):∀ n:Nat,FnOk Pr w K mg base CX0 (n+1) t.ig t.hX kP (spP K (aB n))
 | 0=>fn0
 | n+1=>(zd (k:=n+1) tx (bJ tx) (by omega) (a8 tx n) (by omega)).mono (by omega)
noncomputable def aZ:PFn:=cJ 3 3 (pj aG)
theorem cR (tx:Tx K mg t):FnOk Pr w K mg base CX0 2 t.gD t.gw jD (spP K aZ):=ya (k:=1) tx (bJ tx) (by omega)
noncomputable def eW:PFn:=cJ 2 2 (pf (aB 13) aZ)
theorem mj (tx:Tx K mg t):FnOk Pr w K mg base CX0 15 t.gB t.gq jB (spP K eW):=xY (k:=14) tx (a8 tx 13) (by omega) (cR tx) (by omega)
noncomputable def cA:PFn:=cJ 2 6 (nC (aB 13) aG)
theorem ly (tx:Tx K mg t):FnOk Pr w K mg base CX0 15 t.il t.ib kT (spP K cA):=zh (k:=14) tx (bJ tx) (by omega) (a8 tx 13) (by omega)
noncomputable def eS:PFn:=cJ 2 4 (qk )
theorem nK (tx:Tx K mg t):FnOk Pr w K mg base CX0 1 t.ij t.h9 kR (spP K eS):=zf (k:=0) tx 
noncomputable def dQ:PFn:=cJ 2 4 (og cA (aB 13) aZ eS)
theorem lv (tx:Tx K mg t):FnOk Pr w K mg base CX0 16 t.fE t.fk iN (spP K dQ):=wT (k:=15) tx (a8 tx 13) (by omega) (cR tx) (by omega) (ly tx) (by omega) (nK tx) (by omega)
noncomputable def ja:PFn:=cJ 1 2 (sB dJ eW aZ dQ)
theorem oZ (tx:Tx K mg t):FnOk Pr w K mg base CX0 17 t.i6 t.iZ my (spP K ja):=AF (k:=16) tx (cR tx) (by omega) (nJ tx) (by omega) (mj tx) (by omega) (lv tx) (by omega)
noncomputable def bF:PFn:=cJ 3 3 (oh )
theorem lw (tx:Tx K mg t):FnOk Pr w K mg base CX0 1 t.fF t.fm iO (spP K bF):=wU (k:=0) tx 
noncomputable def gN:PFn:=cJ 3 5 (jI bF)
theorem mn (tx:Tx K mg t):FnOk Pr w K mg base CX0 2 t.gF t.gx jE (spP K gN):=yb (k:=1) tx (lw tx) (by omega)
noncomputable def oH:PFn:=cJ 3 3 (yB ja gN)
theorem vR (tx:Tx K mg t):FnOk Pr w K mg base CX0 18 t.oB t.ox rC (spP K oH):=EK (k:=17) tx (oZ tx) (by omega) (mn tx) (by omega)
noncomputable def dL:PFn:=cJ 3 4 (pi oH (aB 13))
theorem ml (tx:Tx K mg t):FnOk Pr w K mg base CX0 19 t.gC t.gu jC (spP K dL):=xZ (k:=18) tx (a8 tx 13) (by omega) (vR tx) (by omega)
noncomputable def jb:PFn:=cJ 2 5 (sC )
theorem o0 (tx:Tx K mg t):FnOk Pr w K mg base CX0 1 t.i7 t.i0 mz (spP K jb):=AG (k:=0) tx 
noncomputable def eG:DFn:=cg 2 4 (mU jb)
theorem j9 (tx:Tx K mg t):FnOk Pr w K mg base CX0 2 t.eA t.d8 iy (spM K (cl t) eG):=v5 (k:=1) tx (o0 tx) (by omega)
noncomputable def dG:DFn:=cg 5 7 (jf bC a9 dL eG)
theorem jm (tx:Tx K mg t):FnOk Pr w K mg base CX0 20 t.dB t.dw gY (spM K (cl t) dG):=vd (k:=19) tx (gT tx) (by omega) (eQ tx) (by omega) (ml tx) (by omega) (j9 tx) (by omega)
noncomputable def ay:DFn:=cg 2 2 (kr )
theorem bw (tx:Tx K mg t):FnOk Pr w K mg base CX0 1 t.cF t.cC eZ (spM K (cl t) ay):=tH (k:=0) tx 
noncomputable def bS:PFn:=cJ 2 2 (pq )
theorem jL (tx:Tx K mg t):FnOk Pr w K mg base CX0 1 t.gI t.gA jH (spP K bS):=ye (k:=0) tx 
noncomputable def bQ:PFn:=cJ 2 3 (oj bS)
theorem fN (tx:Tx K mg t):FnOk Pr w K mg base CX0 2 t.fH t.fq iQ (spP K bQ):=wW (k:=1) tx (jL tx) (by omega)
noncomputable def eX:DFn:=cg 2 3 (pk bQ)
theorem mq (tx:Tx K mg t):FnOk Pr w K mg base CX0 3 t.gH t.gz jG (spM K (cl t) eX):=yd (k:=2) tx (fN tx) (by omega)
noncomputable def kH (fh:DFn):DFn:=cg 2 2 (nE ay bG eX fh)
theorem Ds {n:Nat} {fh:DFn} (tx:Tx K mg t) (Gh:FnOk Pr w K mg base CX0 (30+n) t.cZ t.cX e7 (spM K (cl t) fh)):FnOk Pr w K mg base CX0 (30+n+1) t.im t.ic kU (spM K (cl t) (kH fh)):=zi (k:=30+n+0) tx (bw tx) (by omega) (fO tx) (by omega) (mq tx) (by omega) Gh (by omega)
noncomputable def mR (fh:DFn):DFn:=cg 4 9 (oi (kH fh))
theorem Bl {n:Nat} {fh:DFn} (tx:Tx K mg t) (Gh:FnOk Pr w K mg base CX0 (30+n) t.cZ t.cX e7 (spM K (cl t) fh)):FnOk Pr w K mg base CX0 (30+n+2) t.fG t.fo iP (spM K (cl t) (mR fh)):=wV (k:=30+n+1) tx (Ds (n:=n) tx Gh) (by omega)
noncomputable def bh:Nat->DFn
 | 0=>λ _ _=>none
 | n+1=>cg 3 7 (om bQ ay (mR (bh n)))
theorem fP (tx:Tx K mg t):∀ n:Nat,FnOk Pr w K mg base CX0 (30+3*n) t.cZ t.cX e7 (spM K (cl t) (bh n))
 | 0=>KL
 | n+1=>(wZ (k:=30+3*n+2) tx (fN tx) (by omega) (bw tx) (by omega) (Bl (n:=3*n) tx (fP tx n)) (by omega)).mono (by omega)
noncomputable def c7:DFn:=cg 3 4 (oq (bh 5))
theorem lC (tx:Tx K mg t):FnOk Pr w K mg base CX0 46 t.fL t.fB iU (spM K (cl t) c7):=xa (k:=45) tx (fP tx 5) (by omega)
noncomputable def bp:DFn:=cg 1 1 (lX )
theorem dE (tx:Tx K mg t):FnOk Pr w K mg base CX0 1 t.dD t.dA g6 (spM K (cl t) bp):=vf (k:=0) tx 
noncomputable def aR:PFn:=cJ 2 2 (nB )
theorem dI (tx:Tx K mg t):FnOk Pr w K mg base CX0 1 t.ik t.ia kS (spP K aR):=zg (k:=0) tx 
noncomputable def cI:DFn:=cg 4 5 (ku )
theorem iq (tx:Tx K mg t):FnOk Pr w K mg base CX0 1 t.cG t.cD fb (spM K (cl t) cI):=tJ (k:=0) tx 
noncomputable def dW:DFn:=cg 2 2 (oY )
theorem iI (tx:Tx K mg t):FnOk Pr w K mg base CX0 1 t.c0 t.cY f7 (spM K (cl t) dW):=uG (k:=0) tx 
noncomputable def b9:DFn:=λ _ _=>none
theorem c6 (_:Tx K mg t):FnOk Pr w K mg base CX0 1 t.bE t.bD e9 (spM K (cl t) b9):=KL
noncomputable def lF:PFn:=cJ 2 3 (vE (bY 13))
theorem vS (tx:Tx K mg t):FnOk Pr w K mg base CX0 15 t.mQ t.oy rF (spP K lF):=EL (k:=14) tx (gM tx 13) (by omega)
noncomputable def c8:DFn:=cg 2 2 (ot lF)
theorem lE (tx:Tx K mg t):FnOk Pr w K mg base CX0 16 t.fM t.fC iV (spM K (cl t) c8):=xb (k:=15) tx (vS tx) (by omega)
noncomputable def aH:DFn:=cg 4 4 (iD )
theorem bX (tx:Tx K mg t):FnOk Pr w K mg base CX0 1 t.bW t.bV dq (spM K (cl t) aH):=qd (k:=0) tx 
noncomputable def cc (fh:DFn):DFn:=cg 3 3 (bK bo c8 fh aH)
theorem pZ {n:Nat} {fh:DFn} (tx:Tx K mg t) (Gh:FnOk Pr w K mg base CX0 (30+n) t.a7 t.a6 bB (spM K (cl t) fh)):FnOk Pr w K mg base CX0 (30+n+2) t.bn t.bm ce (spM K (cl t) (cc fh)):=nV (k:=30+n+1) tx (eF tx) (by omega) (lE tx) (by omega) Gh (by omega) (bX tx) (by omega)
noncomputable def dg (fh:DFn):DFn:=cg 3 3 (hV b9 aR (cc fh))
theorem wq {n:Nat} {fh:DFn} (tx:Tx K mg t) (Gh:FnOk Pr w K mg base CX0 (30+n) t.a7 t.a6 bB (spM K (cl t) fh)):FnOk Pr w K mg base CX0 (30+n+3) t.cH t.cE fe (spM K (cl t) (dg fh)):=tK (k:=30+n+2) tx (c6 tx) (by omega) (dI tx) (by omega) (pZ (n:=n) tx Gh) (by omega)
noncomputable def iC (fh:DFn):DFn:=cg 3 5 (jg dW (dg fh))
theorem y3 {n:Nat} {fh:DFn} (tx:Tx K mg t) (Gh:FnOk Pr w K mg base CX0 (30+n) t.a7 t.a6 bB (spM K (cl t) fh)):FnOk Pr w K mg base CX0 (30+n+4) t.dC t.dz gZ (spM K (cl t) (iC fh)):=ve (k:=30+n+3) tx (iI tx) (by omega) (wq (n:=n) tx Gh) (by omega)
noncomputable def gm (fh:DFn):DFn:=cg 4 5 (gd cI (iC fh))
theorem uS {n:Nat} {fh:DFn} (tx:Tx K mg t) (Gh:FnOk Pr w K mg base CX0 (30+n) t.a7 t.a6 bB (spM K (cl t) fh)):FnOk Pr w K mg base CX0 (30+n+5) t.b8 t.b6 dO (spM K (cl t) (gm fh)):=qR (k:=30+n+4) tx (iq tx) (by omega) (y3 (n:=n) tx Gh) (by omega)
noncomputable def aL:Nat->DFn
 | 0=>λ _ _=>none
 | n+1=>cg 3 7 (jw (aB 13) aR (gm (aL n)))
theorem cu (tx:Tx K mg t):∀ n:Nat,FnOk Pr w K mg base CX0 (30+6*n) t.a7 t.a6 bB (spM K (cl t) (aL n))
 | 0=>KL
 | n+1=>(rK (k:=30+6*n+5) tx (a8 tx 13) (by omega) (dI tx) (by omega) (uS (n:=6*n) tx (cu tx n)) (by omega)).mono (by omega)
noncomputable def di:DFn:=cg 3 5 (mX (aL 5) aH)
theorem kg (tx:Tx K mg t):FnOk Pr w K mg base CX0 61 t.eD t.ee iA (spM K (cl t) di):=v7 (k:=60) tx (cu tx 5) (by omega) (bX tx) (by omega)
noncomputable def kI:DFn:=cg 2 7 (wf aR bp di)
theorem tu (tx:Tx K mg t):FnOk Pr w K mg base CX0 62 t.l4 t.lY pG (spM K (cl t) kI):=CW (k:=61) tx (dI tx) (by omega) (dE tx) (by omega) (kg tx) (by omega)
noncomputable def sV:DFn:=cg 1 22 (yA dh cw hG af bo bG cK dG ay c7 bp kI)
theorem Hg (tx:Tx K mg t):FnOk Pr w K mg base CX0 63 t.pX t.pV ["_law_script"] (spM K (cl t) sV):=EJ (k:=62) tx (aK tx) (by omega) (bw tx) (by omega) (fO tx) (by omega) (eF tx) (by omega) (dE tx) (by omega) (j8 tx) (by omega) (gW tx) (by omega) (lz tx) (by omega) (gn tx) (by omega) (jm tx) (by omega) (lC tx) (by omega) (tu tx) (by omega)
end
end K25
namespace K25
noncomputable def chN (st:List (Nat×Nat)) (q:Nat):List Nat:=(st.filter λ x=>decide (x.2=q)).map (·.1)
noncomputable def tG:List (Nat×Nat)->Nat->Option Nat
 | [],_=>none
 | x::r,q=>if x.1=q then some x.2 else tG r q
noncomputable def Dh (f:Nat->Option (List Nat)):List Nat->Option (List Nat)
 | []=>some []
 | x::r=>(f x).bind λ a=>(Dh f r).bind λ b=>some (a++b)
noncomputable def wQ (st:List (Nat×Nat)):Nat->Nat->Option (List Nat)
 | 0,_=>none
 | n+1,q=>(tG st q).bind λ p=>if p=0 then some [q] else (wQ st n p).bind λ l=>if l.length+1<=3000000 then some (l++[q]) else none
noncomputable def A9 (st:List (Nat×Nat)):Nat->Nat->Option (List Nat)
 | 0,_=>none
 | n+1,q=>(tG st q).bind λ _=>(Dh (A9 st n) (chN st q)).bind λ r=>if r.length+1<=3000000 then some (q::r) else none
noncomputable def FM (st:List (Nat×Nat)):Option (List Nat):=(Dh (A9 st 13) (chN st 0)).bind λ r=>if r.length<=3000000 then some r else none
noncomputable def stF (ps:List Nat):List (Nat×Nat):=(List.range ps.length).map λ i=>(i+1,ps.getD i 0)
noncomputable def par (ps:List Nat) (q:Nat):Nat:=ps.getD (q - 1) 0
structure tY (ps:List Nat):Prop where
 len:ps.length<=7
 par:∀ i,ps.getD i 0<=i
noncomputable def pF (ps:List Nat):Nat->Nat->List Nat
 | 0,_=>[]
 | n+1,q=>if q=0 then [] else pF ps n (par ps q)++[q]
noncomputable def P (ps:List Nat) (q:Nat):List Nat:=pF ps q q
noncomputable def blF (st:List (Nat×Nat)):Nat->Nat->List Nat
 | 0,_=>[]
 | n+1,q=>q::(chN st q).flatMap (blF st n)
noncomputable def kids (st:List (Nat×Nat)) (n a:Nat):List Nat:=(chN st a).flatMap (blF st n)
theorem uM {α β:Type} {f g:α->List β}:∀ {l:List α},(∀ x∈l,f x=g x)->l.flatMap f=l.flatMap g
 | [],_=>rfl
 | x::r,h=>by
  rw [Oy,Oy,h x NJ,uM λ y hy=>h y (NA _ hy)]
theorem sE {α β:Type} {f:α->List β}:∀ {l:List α},(∀ x∈l,f x=[])->l.flatMap f=[]
 | [],_=>rfl
 | x::r,h=>by
  rw [Oy,h x NJ,sE λ y hy=>h y (NA _ hy)]; rfl
theorem vF {α β:Type} {f:α->List β} {b:Nat}:∀ {l:List α},(∀ x∈l,(f x).length<=b)->(l.flatMap f).length<=l.length*b
 | [],_=>by simp
 | x::r,h=>by
  have h1:=h x NJ;have h2:=vF (l:=r) λ y hy=>h y (NA _ hy);rw [Oy,Nn,NN,Nat.add_mul];omega
section
variable {ps:List Nat} (ok:tY ps)
theorem xx (n:Nat):pF ps n 0=[]:=by
 cases n with
 | zero=>rfl
 | succ n=>rfl
theorem iL (ok:tY ps) {q:Nat} (h:1<=q):par ps q < q:=by
 have:=ok.par (q - 1)
 unfold par;omega
include ok
theorem F7:∀ q n,q<=n->pF ps n q=pF ps q q:=by
 intro q
 induction q using OE with
 | _ q ih =>
  intro n hn;cases q with
  | zero=>rw [xx,xx]
  | succ j =>
   cases n with
   | zero=>omega
   | succ m =>
    have hp:=iL ok (q:=j+1) (by omega);unfold pF;rw [if_neg (by omega),if_neg (by omega),ih _ hp m (by omega),ih _ hp j (by omega)]
theorem io {q:Nat} (h:1<=q):P ps q=P ps (par ps q)++[q]:=by
 obtain ⟨j,rfl⟩:∃ j,q=j+1:=⟨q - 1,by omega⟩;have hp:=iL ok (q:=j+1) h;unfold P;rw [pF,if_neg (by omega),F7 ok _ j (by omega)]
omit ok in
theorem wm:P ps 0=[]:=rfl
omit ok in
theorem Aw:∀ n q,(pF ps n q).length<=n
 | 0,_=>by simp [pF]
 | n+1,q=>by
  have:=Aw n (par ps q)
  unfold pF
  split
  ·simp
  ·simp; omega
omit ok in
theorem vW {x:Nat×Nat} (h:x∈stF ps):1<=x.1/\x.1<=ps.length/\x.2=par ps x.1:=by
 obtain ⟨i,hi,rfl⟩:=Os.mp h
 have:=OO.mp hi
 refine ⟨by simp,by show i+1<=_; omega,?_⟩;show _=ps.getD (i+1 - 1) 0;rfl
omit ok in
theorem AI {q:Nat} (h1:1<=q) (h2:q<=ps.length):(q,par ps q)∈stF ps:=by
 refine Os.mpr ⟨q - 1,OO.mpr (by omega),?_⟩;unfold par;rw [show q - 1+1=q by omega]
omit ok in
theorem As {q p:Nat}:∀ {st:List (Nat×Nat)},(∀ y∈st,y.1=q->y.2=p)->(q,p)∈st->tG st q=some p
 | x::r,hu,hm=>by
  unfold tG;by_cases e:x.1=q
  ·rw [if_pos e,hu x NJ e]
  ·rw [if_neg e];rcases NO.mp hm with z | z
   ·exact absurd (by rw [<- z]) e
   ·exact As (λ y hy=>hu y (NA _ hy)) z
omit ok in
theorem Aq {q:Nat} (h1:1<=q) (h2:q<=ps.length):tG (stF ps) q=some (par ps q) :=
 As (λ y hy e=>by rw [(vW hy).2.2,e]) (AI h1 h2)
theorem DJ:∀ n q,n<=13->1<=q->q<=ps.length->q<=n->wQ (stF ps) n q=some (pF ps n q)
 | 0,q,_,h1,_,h3=>by omega
 | n+1,q,hn,h1,h2,h3=>by
  have hp:=iL ok h1;unfold wQ pF;rw [Aq h1 h2,Nk,if_neg (show ¬ q=0 by omega)];by_cases e:par ps q=0
  ·rw [if_pos e,e,xx]; rfl
  ·rw [if_neg e,DJ n _ (by omega) (by omega) (by omega) (by omega),Nk]
   have:=Aw (ps:=ps) n (par ps q)
   rw [if_pos (by omega)]
theorem Ij {q:Nat} (h1:1<=q) (h2:q<=ps.length):wQ (stF ps) 13 q=some (P ps q):=by
 have:=ok.len
 rw [DJ ok 13 q (by omega) h1 h2 (by omega),F7 ok q 13 (by omega)]; rfl
theorem eN {a x:Nat} (h:x∈chN (stF ps) a):1<=x/\x<=ps.length/\par ps x=a/\a < x:=by
 obtain ⟨y,hy,rfl⟩:=Os.mp h;obtain ⟨h1,h2⟩:=NU.mp hy;have h3:=vW h1;have h4:=iL ok h3.1;have h5:y.2=a:=by simpa using h2
 exact ⟨h3.1,h3.2.1,by rw [<- h3.2.2,h5],by rw [<- h5,h3.2.2]; exact h4⟩
omit ok in
theorem CZ {x:Nat} (h1:1<=x) (h2:x<=ps.length):x∈chN (stF ps) (par ps x) :=
 Os.mpr ⟨(x,par ps x),NU.mpr ⟨AI h1 h2,by simp⟩,rfl⟩
theorem Dg (a:Nat):(chN (stF ps) a).length<=7:=by
 unfold chN;rw [Nl];refine NL (OA ..) ?_;unfold stF;rw [Nl,Ou];exact ok.len
omit ok in
theorem xE {f:Nat->Option (List Nat)} {g:Nat->List Nat}:∀ {xs:List Nat},(∀ x∈xs,f x=some (g x))->Dh f xs=some (xs.flatMap g)
 | [],_=>rfl
 | x::r,h=>by
  unfold Dh;rw [h x NJ,Nk,xE λ y hy=>h y (NA _ hy)]
  simp
theorem vI:∀ n q,1<=q->q<=ps.length->ps.length < n+q->(blF (stF ps) n q).length<=8 ^ (ps.length - q)
 | 0,q,_,h2,h3=>by omega
 | n+1,q,h1,h2,h3=>by
  unfold blF;rw [NN];by_cases e:q=ps.length
  ·have:(chN (stF ps) q)=[]:=by
    rw [List.eq_nil_iff_forall_not_mem];intro x hx
    have:=eN ok hx
    omega
   rw [this,e]; simp
  ·obtain ⟨k,hk⟩:∃ k,ps.length - q=k+1:=⟨ps.length - q - 1,by omega⟩;have h4:=vF (f:=blF (stF ps) n) (b:=8 ^ k) (l:=chN (stF ps) q) λ x hx=>by
    have hm:=eN ok hx;exact NL (vI n x hm.1 hm.2.1 (by omega)) (Nat.pow_le_pow_right (by decide) (by omega))
   have h5:=Dg ok q;have h6:(chN (stF ps) q).length*8 ^ k<=7*8 ^ k:=Pw _ h5;have h7:0 < 8 ^ k:=Nat.pow_pos (by decide);rw [hk,Nat.pow_succ];omega
theorem xw {q:Nat} (h1:1<=q):8 ^ (ps.length - q)<=262144:=by
 have:=ok.len
 exact NL (Nat.pow_le_pow_right (by decide) (show ps.length - q<=6 by omega)) (by decide)
theorem El:∀ n q,1<=q->q<=ps.length->ps.length < n+q->A9 (stF ps) n q=some (blF (stF ps) n q)
 | 0,q,_,h2,h3=>by omega
 | n+1,q,h1,h2,h3=>by
  have hl:=vI ok (n+1) q h1 h2 h3;unfold blF at hl;rw [NN] at hl;have hp:=xw ok h1;unfold A9 blF;rw [Aq h1 h2,Nk,xE (g:=blF (stF ps) n) λ x hx=>El n x (eN ok hx).1 (eN ok hx).2.1 (by have:=eN ok hx; omega),Nk,if_pos (by omega)]
theorem Gy:(kids (stF ps) 13 0).length<=3000000:=by
 have:=ok.len
 have h4:=vF (f:=blF (stF ps) 13) (b:=262144) (l:=chN (stF ps) 0) λ x hx=>NL (vI ok 13 x (eN ok hx).1 (eN ok hx).2.1 (by omega)) (xw ok (eN ok hx).1);have h5:=Dg ok 0;unfold kids;omega
theorem Kd:FM (stF ps)=some (kids (stF ps) 13 0):=by
 have:=ok.len
 have hl:=Gy ok;unfold kids at hl;unfold FM;rw [xE (g:=blF (stF ps) 13) λ x hx=>El ok 13 x (eN ok hx).1 (eN ok hx).2.1 (by have:=eN ok hx; omega),Nk,if_pos hl];rfl
theorem BU {x n a:Nat} (h:x∈kids (stF ps) n a):1<=x/\x<=ps.length:=by
 induction n generalizing a x with
 | zero =>
  obtain ⟨y,_,hy⟩:=Ov.mp h;cases hy
 | succ n ih =>
  obtain ⟨y,hy,hx⟩:=Ov.mp h;rcases NO.mp hx with rfl | z
  ·exact ⟨(eN ok hy).1,(eN ok hy).2.1⟩
  ·exact ih z
omit ok in
theorem ET {q p:Nat} (hq:q∈chN (stF ps) p):∀ (m a:Nat),p∈kids (stF ps) m a->q∈kids (stF ps) (m+1) a:=by
 intro m
 induction m with
 | zero =>
  intro a h;obtain ⟨y,_,hy⟩:=Ov.mp h;cases hy
 | succ m ih =>
  intro a h;obtain ⟨y,hy,hx⟩:=Ov.mp h;refine Ov.mpr ⟨y,hy,NA _ ?_⟩;rcases NO.mp hx with rfl | z
  ·exact Ov.mpr ⟨q,hq,NJ⟩
  ·exact ih y z
theorem BP:∀ (n q:Nat),1<=q->q<=ps.length->q<=n->q∈kids (stF ps) n 0
 | 0,q,h1,_,h3=>by omega
 | n+1,q,h1,h2,h3=>by
  have hp:=iL ok h1;have hc:=CZ h1 h2;by_cases e:par ps q=0
  ·rw [e] at hc;exact Ov.mpr ⟨q,hc,NJ⟩
  ·exact ET hc n 0 (BP n _ (by omega) (by omega) (by omega))
end
noncomputable abbrev Ar:=Int×Int×Int×Int
noncomputable abbrev Row:=Nat×Ar×List Ar
structure Geo where
 L:Nat->Int
 T:Nat->Int
 W:Nat->Int
 H:Nat->Int
 c:Nat->Bool
 h:Nat->Bool
 l:Nat->Bool
noncomputable def Geo.at (g:Geo) (l t:Int) (x:Nat):Ar:=(l+g.L x,t+g.T x,l+g.L x+g.W x,t+g.T x+g.H x)
section
variable (g:Geo) (ps:List Nat)
noncomputable def Geo.sL (q:Nat):Int:=((P ps q).map g.L).sum
noncomputable def Geo.sT (q:Nat):Int:=((P ps q).map g.T).sum
noncomputable def Geo.area (q:Nat):Ar:=(g.sL ps q,g.sT ps q,g.sL ps q+g.W q,g.sT ps q+g.H q)
noncomputable def Geo.cuts (a:Nat):List Ar:=((P ps a).filter g.c).map (g.area ps)
noncomputable def Geo.shown (q:Nat):Bool:=(P ps q).all λ x=>!g.h x
noncomputable def Geo.row (x:Nat):Row:=(x,g.area ps x,g.cuts ps (par ps x)++[g.area ps x])
end
section
variable {g:Geo} {ps:List Nat} (ok:tY ps)
include ok
theorem IW {x:Nat} (h:1<=x):g.cuts ps x=g.cuts ps (par ps x)++if g.c x=true then [g.area ps x] else []:=by
 unfold Geo.cuts;rw [io ok h,List.filter_append,N4]
 congr 1
 cases hc:g.c x <;> simp [hc]
end
noncomputable def xj (a:Ar) (x y:Int):Bool:=decide (a.1<=x)&&decide (x < a.2.2.1)&&(decide (a.2.1<=y)&&decide (y < a.2.2.2))
noncomputable def ovl (a b:Ar):Ar:=(max a.1 b.1,max a.2.1 b.2.1,min a.2.2.1 b.2.2.1,min a.2.2.2 b.2.2.2)
theorem KY:∀ a b c d:Bool,((a&&b)&&(c&&d))=((a&&c)&&(b&&d)):=by decide
theorem GF (a b:Ar) (x y:Int):xj (ovl a b) x y=(xj a x y&&xj b x y):=by
 have h1:∀ p q r:Int,decide (max p q<=r)=(decide (p<=r)&&decide (q<=r)):=λ p q r=>by
  rw [OH,Ol,decide_eq_true_eq,decide_eq_true_eq,decide_eq_true_eq];exact Int.max_le
 have h2:∀ p q r:Int,decide (r < min p q)=(decide (r < p)&&decide (r < q)):=λ p q r=>by
  rw [OH,Ol,decide_eq_true_eq,decide_eq_true_eq,decide_eq_true_eq];exact Int.lt_min
 unfold xj ovl;dsimp only;rw [h1,h1,h2,h2,KY (decide (a.1<=x)),KY (decide (a.2.1<=y)),KY]
noncomputable def Cz (g:Geo) (ps:List Nat):List Nat->Ar->Ar
 | [],w=>w
 | s::r,w=>Cz g ps r (if g.c s=true then ovl w (g.area ps s) else w)
noncomputable def Geo.wnd (g:Geo) (ps:List Nat) (q:Nat):Ar:=Cz g ps (P ps q) (g.area ps q)
theorem Bn (g:Geo) (ps:List Nat) (x y:Int):∀ l w,xj (Cz g ps l w) x y=(xj w x y&&((l.filter g.c).map (g.area ps)).all λ a=>xj a x y)
 | [],w=>by simp [Cz]
 | s::r,w=>by
  unfold Cz;rw [Bn g ps x y r,Om];cases hc:g.c s with
  | false=>rfl
  | true =>
   rw [if_pos rfl,if_pos rfl,GF,Ny,OR,Bool.and_assoc]
noncomputable def Geo.tch (g:Geo) (ps:List Nat) (x y:Int) (q:Nat):Bool:=(g.row ps q).2.2.all λ a=>xj a x y
theorem Hq {g:Geo} {ps:List Nat} (ok:tY ps) {q:Nat} (h:1<=q) (x y:Int):xj (g.wnd ps q) x y=g.tch ps x y q:=by
 unfold Geo.wnd Geo.tch Geo.row;rw [Bn];show (_&&(g.cuts ps q).all _)=_;rw [IW ok h,List.all_append];dsimp only;rw [List.all_append];generalize (g.cuts ps (par ps q)).all (λ a=>xj a x y)=u;cases g.c q
 ·simp [Bool.and_comm]
 ·cases h2:xj (g.area ps q) x y <;> simp [h2]
noncomputable def IX (st:List (Nat×Nat)) (q:Nat):Option (List (Nat×Nat)):=(A9 st 13 q).bind λ g=>some (st.filter λ x=>!decide (x.1∈g))
noncomputable def CO (ps:List Nat):List Nat:=kids (stF ps) 13 0
noncomputable abbrev In (ps:List Nat) (q:Nat):Prop:=1<=q/\q<=ps.length
theorem P_in' {ps:List Nat} (ok:tY ps) {x:Nat}:∀ q,In ps q->x∈P ps q->In ps x:=by
 intro q
 induction q using OE with
 | _ q ih =>
  intro hq hx;rw [io ok hq.1] at hx;rcases N1.mp hx with z | z
  ·have hp:=iL ok hq.1;by_cases e:par ps q=0
   ·rw [e] at z;cases z
   ·exact ih _ hp ⟨by omega,by have:=hq.2; omega⟩ z
  ·have:x=q:=by simpa using z
   rw [this]; exact hq
theorem KA {ps:List Nat} (ok:tY ps):(CO ps).length<=2000000:=by
 have:=ok.len
 have h4:=vF (f:=blF (stF ps) 13) (b:=262144) (l:=chN (stF ps) 0) λ x hx=>NL (vI ok 13 x (eN ok hx).1 (eN ok hx).2.1 (by omega)) (xw ok (eN ok hx).1);have h5:=Dg ok 0;unfold CO kids;omega
noncomputable def tkL (g:Geo) (ps pnt:List Nat):List Nat:=(pnt.reverse.filter (g.shown ps)).filter λ q=>!g.l q
noncomputable def yw (g:Geo) (ps pnt:List Nat) (x y:Int):List Nat:=(tkL g ps pnt).filter (g.tch ps x y)
end K25
namespace K25
open PySem L2 L2.PU
theorem j6 {ι:Type} {t:En->Nh->Option En} {p:En->Option Bool} {f:En->Option Nh} {η:En} (D:ι->Nh) (P:ι->Bool) (Y:ι->Nh) :
  ∀ xs:List ι,(∀ x∈xs,∃ η1,t η (D x)=some η1/\p η1=some (P x)/\(P x=true->f η1=some (Y x)))->cGo t p f η (xs.map D)=some ((xs.filter P).map Y)
 | [],_=>rfl
 | x::r,h=>by
  obtain ⟨η1,h1,h2,h3⟩:=h x NJ;have ih:=j6 D P Y r λ y hy=>h y (NA _ hy);rw [Ny];unfold cGo;rw [h1,Nk,h2,Nk,ih,Om];cases hP:P x with
  | false=>rfl
  | true=>rw [if_pos rfl,h3 hP]; rfl
structure Sc where
 st:List (Nat×Nat)
 nm:Nat->Str
 L:Nat->Int
 T:Nat->Int
 W:Nat->Int
 H:Nat->Int
 mr:Nat->Str
structure Sc.Ok (c:Sc):Prop where
 inj:∀ a b,c.nm a=c.nm b->a=b
 top:c.nm 0 = ""
 ok:∀ a,NW (c.nm a)=true
 okm:∀ a,NW (c.mr a)=true
 len:c.st.length<=12
noncomputable def Sc.box (c:Sc) (x:Nat×Nat):Nh:=.tuple [.str (c.nm x.1),.str (c.nm x.2),.int (c.L x.1),.int (c.T x.1),.int (c.W x.1),.int (c.H x.1),.str (c.mr x.1)]
noncomputable def Sc.d (c:Sc):Nh:=.tuple (c.st.map c.box)
noncomputable def Sc.s (c:Sc) (q:Nat):Nh:=.str (c.nm q)
noncomputable def Sc.S (c:Sc) (l:List Nat):Nh:=.list (l.map c.s)
theorem str_dec (a b:Str):(a==b)=decide (a=b):=rfl
theorem p7 {a:Str} (h:NW a=true):Of (.str a)=true:=by
 simp [Of,Og,PyData.depth,h]
theorem Ax {a b:Str} (ha:NW a=true) (hb:NW b=true):pEq (.str a) (.str b)=some (.bool (decide (a=b))):=by
 unfold pEq;rw [if_pos ⟨p7 ha,p7 hb⟩];simp [Oc,str_dec]
theorem DU {a b:Str} (ha:NW a=true) (hb:NW b=true):pNe (.str a) (.str b)=some (.bool (!decide (a=b))):=by
 unfold pNe;rw [if_pos ⟨p7 ha,p7 hb⟩];simp [Oc,str_dec]
section
variable {c:Sc} (h:c.Ok)
include h
theorem Sc.Ok.dec (a b:Nat):decide (c.nm a=c.nm b)=decide (a=b):=by
 by_cases e:a=b
 ·subst e; simp
 ·have:¬ c.nm a=c.nm b:=λ z=>e (h.inj _ _ z)
  rw [decide_eq_false this,decide_eq_false e]
theorem Sc.Ok.eqs (a b:Nat):pEq (c.s a) (c.s b)=some (.bool (decide (a=b))):=by
 unfold Sc.s;rw [Ax (h.ok a) (h.ok b),h.dec]
theorem Sc.Ok.nes (a b:Nat):pNe (c.s a) (c.s b)=some (.bool (!decide (a=b))):=by
 unfold Sc.s;rw [DU (h.ok a) (h.ok b),h.dec]
theorem Sc.Ok.eq0 (a:Nat):pEq (c.s a) (.str "")=some (.bool (decide (a=0))):=by
 have:=h.eqs a 0
 unfold Sc.s at this ⊢;rw [h.top] at this;exact this
theorem Sc.Ok.ne0 (a:Nat):pNe (c.s a) (.str "")=some (.bool (!decide (a=0))):=by
 have:=h.nes a 0
 unfold Sc.s at this ⊢;rw [h.top] at this;exact this
end
theorem big {n:Nat} (h:n<=3000000):n<=No:=NL h (by show 3000000<=2 ^ 24; decide)
section
variable {c:Sc} (h:c.Ok)
include h
theorem Fy:(c.st.map c.box).length<=No:=by
 rw [Nl];exact big (NL h.len (by decide))
theorem uC (q:Nat):bz [c.d,c.s q]=some (c.S (chN c.st q)):=by
 unfold bz cJ;rw [if_pos (by rfl)];show (ma [.val c.d,.val (c.s q)]).bind _=_;have e:cGo (tgN 0) (bT (l2 pEq (l2 pIx (eV 0) (eC (.int 1))) (eV 1))) (l2 pIx (eV 0) (eC (.int 0))) [.un,.val (c.s q)] (c.st.map c.box)=some ((c.st.filter λ x=>decide (x.2=q)).map λ x=>c.s x.1):=by
  refine j6 c.box (λ x=>decide (x.2=q)) (λ x=>c.s x.1) _ λ x _=>⟨_,rfl,?_,λ _=>rfl⟩;show (pEq (c.s x.2) (c.s q)).bind asB=_;rw [h.eqs]; rfl
 have e2:bH [none,some 1] (lI nH (eV 0)) (tgN 0) (bT (l2 pEq (l2 pIx (eV 0) (eC (.int 1))) (eV 1))) (l2 pIx (eV 0) (eC (.int 0))) [.val c.d,.val (c.s q)]=some ((c.st.filter λ x=>decide (x.2=q)).map λ x=>c.s x.1):=by
  show (if (c.st.map c.box).length<=No then cGo _ _ _ _ _ else none)=_;rw [if_pos (Fy h)];exact e
 unfold ma hJ oE;rw [e2];show some (PyData.list _)=some (PyData.list _);unfold chN;rw [Oe]; rfl
theorem GU (q p:Nat):∀ (l:List (Nat×Nat)),tG l q=some p->∀ s:Sl,sGo (tgN 2) (sIf (bT (l2 pEq (l2 pIx (eV 2) (eC (.int 0))) (eV 1))) (hJ (eV 2)) sNx) (l.map c.box) [.val c.d,.val (c.s q),s]=some (.rt (c.box (q,p)))
 | x::r,hm,s=>by
  rw [Ny];unfold sGo;have et:tgN 2 [.val c.d,.val (c.s q),s] (c.box x)=some [.val c.d,.val (c.s q),.val (c.box x)]:=rfl;rw [et,Nk];have eb:(bT (l2 pEq (l2 pIx (eV 2) (eC (.int 0))) (eV 1))) [.val c.d,.val (c.s q),.val (c.box x)]=some (decide (x.1=q)):=by
   show (pEq (c.s x.1) (c.s q)).bind asB=_;rw [h.eqs]; rfl
  unfold sIf;rw [eb,Nk];unfold tG at hm;by_cases e:x.1=q
  ·rw [if_pos e] at hm;cases hm;rw [if_pos (by simpa using e)];subst e;rfl
  ·rw [if_neg e] at hm;rw [if_neg (by simpa using e)];show sGo _ _ (r.map c.box) _=_;exact GU q p r hm _
theorem p6 {q p:Nat} (h1:tG c.st q=some p):aG [c.d,c.s q]=some (c.box (q,p)):=by
 unfold aG cJ;rw [if_pos (by rfl)];show (oX [.val c.d,.val (c.s q),.un]).bind _=_;have e2:qP (lI nH (eV 0)) (tgN 2) (sIf (bT (l2 pEq (l2 pIx (eV 2) (eC (.int 0))) (eV 1))) (hJ (eV 2)) sNx) [.val c.d,.val (c.s q),.un]=some (.rt (c.box (q,p))):=GU h q p c.st h1 .un;unfold oX cP;rw [e2]; rfl
theorem tz:∀ (n q:Nat) (l:List Nat),wQ c.st n q=some l->aB n [c.d,c.s q]=some (c.S l)
 | n+1,q,l,e=>by
  unfold wQ at e;obtain ⟨p,hq,e⟩:=ab e
  ·unfold aB cJ;rw [if_pos (by rfl)];show (nz aG (aB n) [.val c.d,.val (c.s q),.un]).bind _=_;have eb:=p6 h hq;have e1:f6 2 (l2 pIx (lA aG (aC (eV 0) (aC (eV 1) aN))) (eC (.int 1))) [.val c.d,.val (c.s q),.un]=some (.nx [.val c.d,.val (c.s q),.val (c.s (p))]):=by
    show ((aG [c.d,c.s q]).bind λ x=>_).bind _=_;rw [eb]; rfl
   have e2:(bT (l2 pEq (eV 2) (eC (.str "")))) [.val c.d,.val (c.s q),.val (c.s (p))]=some (decide (p=0)):=by
    show (pEq (c.s (p)) (.str "")).bind asB=_;rw [h.eq0]; rfl
   unfold nz cP;rw [e1,Nk];show NB (NB (sIf _ _ _ _) _) _=_;unfold sIf;rw [e2,Nk];split at e
   ·rename_i h0;cases e;rw [if_pos (by simpa using h0)];rfl
   ·rename_i h0;rw [if_neg (by simpa using h0)];obtain ⟨m,hm,e⟩:=ab e;split at e
    ·rename_i hl;cases e;have ih:=tz n _ m hm;show NB (hJ _ _) _=_;have e3:hJ (l2 aM (lA (aB n) (aC (eV 0) (aC (eV 2) aN))) (oE (λ η=>((aC (eV 1) aN) η).bind gL))) [.val c.d,.val (c.s q),.val (c.s (p))]=some (.rt (c.S (m++[q]))):=by
      show (((aB n) [c.d,c.s (p)]).bind λ x=>(oE _ _).bind λ y=>aM x y).bind _=_;rw [ih,Nk];show ((aM (c.S m) (.list [c.s q])).bind _)=_;unfold Sc.S aM;dsimp only;rw [if_pos (by rw [Nl]; exact big hl)];simp [Sc.S]
     rw [e3]; rfl
    ·cases e
theorem Co {F:PFn} {f:Nat->Option (List Nat)} (hF:∀ x l,f x=some l->F [c.d,c.s x]=some (c.S l)) (q:Nat) :
  ∀ (xs r:List Nat),Dh f xs=some r->∀ (done:List Nat) (s3:Sl),done.length+r.length<=3000000->∃ s3',sGo (tgN 3) (xS 2 (lI asL (lA F (aC (eV 0) (aC (eV 3) aN))))) (xs.map c.s) [.val c.d,.val (c.s q),.own (done.map c.s),s3]=some (.nx [.val c.d,.val (c.s q),.own ((done++r).map c.s),s3'])
 | [],r,e,done,s3,_=>by
  cases e;exact ⟨s3,by rw [Oi]; rfl⟩
 | x::xs,r,e,done,s3,hl=>by
  obtain ⟨a,ea,e⟩:=ab e;obtain ⟨b,eb,e⟩:=ab e;cases e;rw [Nn] at hl;obtain ⟨s3',ih⟩:=Co hF q xs b eb (done++a) (.val (c.s x)) (by rw [Nn]; omega);refine ⟨s3',?_⟩;have e1:xS 2 (lI asL (lA F (aC (eV 0) (aC (eV 3) aN)))) [.val c.d,.val (c.s q),.own (done.map c.s),.val (c.s x)]=some (.nx [.val c.d,.val (c.s q),.own ((done++a).map c.s),.val (c.s x)]):=by
   show NB (NB (F [c.d,c.s x]) asL) _=_;rw [hF x a ea];show (if (done.map c.s).length+(a.map c.s).length<=No then _ else _)=_;rw [if_pos (by rw [Nl,Nl]; exact big (by omega)),N4];rfl
  rw [Ny];unfold sGo;show NB (xS 2 _ [.val c.d,.val (c.s q),.own (done.map c.s),.val (c.s x)]) _=_;rw [e1,Nk];show sGo _ _ _ _=_;rw [ih,NP]
theorem BH {F:PFn} {f:Nat->Option (List Nat)} (hF:∀ x l,f x=some l->F [c.d,c.s x]=some (c.S l)) :
  ∀ (xs r:List Nat),Dh f xs=some r->∀ (done:List Nat) (s3:Sl),done.length+r.length<=3000000->∃ s3',sGo (tgN 2) (xS 1 (lI asL (lA F (aC (eV 0) (aC (eV 2) aN))))) (xs.map c.s) [.val c.d,.own (done.map c.s),s3]=some (.nx [.val c.d,.own ((done++r).map c.s),s3'])
 | [],r,e,done,s3,_=>by
  cases e;exact ⟨s3,by rw [Oi]; rfl⟩
 | x::xs,r,e,done,s3,hl=>by
  obtain ⟨a,ea,e⟩:=ab e;obtain ⟨b,eb,e⟩:=ab e;cases e;rw [Nn] at hl;obtain ⟨s3',ih⟩:=BH hF xs b eb (done++a) (.val (c.s x)) (by rw [Nn]; omega);refine ⟨s3',?_⟩;have e1:xS 1 (lI asL (lA F (aC (eV 0) (aC (eV 2) aN)))) [.val c.d,.own (done.map c.s),.val (c.s x)]=some (.nx [.val c.d,.own ((done++a).map c.s),.val (c.s x)]):=by
   show NB (NB (F [c.d,c.s x]) asL) _=_;rw [hF x a ea];show (if (done.map c.s).length+(a.map c.s).length<=No then _ else _)=_;rw [if_pos (by rw [Nl,Nl]; exact big (by omega)),N4];rfl
  rw [Ny];unfold sGo;show NB (xS 1 _ [.val c.d,.own (done.map c.s),.val (c.s x)]) _=_;rw [e1,Nk];show sGo _ _ _ _=_;rw [ih,NP]
theorem uT:∀ (n q:Nat) (l:List Nat),A9 c.st n q=some l->bY n [c.d,c.s q]=some (c.S l)
 | n+1,q,l,e=>by
  unfold A9 at e;obtain ⟨p,hq,e⟩:=ab e
  ·obtain ⟨r,hr,e⟩:=ab e;split at e
   ·rename_i hl;cases e;unfold bY cJ;rw [if_pos (by rfl)];show (ql aG bz (bY n) [.val c.d,.val (c.s q),.un,.un]).bind _=_;have eb:=p6 h hq;have e1:m9 2 (λ η=>((aC (l2 pIx (lA aG (aC (eV 0) (aC (eV 1) aN))) (eC (.int 0))) aN) η).bind gL) [.val c.d,.val (c.s q),.un,.un]=some (.nx [.val c.d,.val (c.s q),.own [c.s q],.un]):=by
     show NB (NB (NB (NB (aG [c.d,c.s q]) _) _) _) _=_;rw [eb];rfl
    obtain ⟨s3',e2⟩:=Co h (uT n) q (chN c.st q) r hr [q] .un (by simpa [Nat.add_comm] using hl);have e3:qP (lI asL (lA bz (aC (eV 0) (aC (eV 1) aN)))) (tgN 3) (xS 2 (lI asL (lA (bY n) (aC (eV 0) (aC (eV 3) aN))))) [.val c.d,.val (c.s q),.own [c.s q],.un]=some (.nx [.val c.d,.val (c.s q),.own (([q]++r).map c.s),s3']):=by
     show NB (NB (bz [c.d,c.s q]) asL) _=_;rw [uC h];exact e2
    unfold ql cP;rw [e1,Nk];show NB (NB (qP _ _ _ _) _) _=_;rw [e3];rfl
   ·cases e
theorem Bm {l:List Nat} (e:FM c.st=some l):dJ [c.d]=some (c.S l):=by
 unfold FM at e;obtain ⟨r,hr,e⟩:=ab e;split at e
 ·rename_i hl;cases e;unfold dJ cJ;rw [if_pos (by rfl)];show (nA bz (bY 13) [.val c.d,.un,.un]).bind _=_;obtain ⟨s3',e2⟩:=BH h (uT h 13) (chN c.st 0) l hr [] .un (by simpa using hl);have e3:qP (lI asL (lA bz (aC (eV 0) (aC (eC (.str "")) aN)))) (tgN 2) (xS 1 (lI asL (lA (bY 13) (aC (eV 0) (aC (eV 2) aN))))) [.val c.d,.own [],.un]=some (.nx [.val c.d,.own (l.map c.s),s3']):=by
   show NB (NB (bz [c.d,.str ""]) asL) _=_
   have:=uC h 0
   unfold Sc.s at this;rw [h.top] at this;rw [this];exact e2
  unfold nA cP;show NB (NB (qP _ _ _ [.val c.d,.own [],.un]) _) _=_;rw [e3];rfl
 ·cases e
end
noncomputable def Sd (ns:List Int):Nh:=.list (ns.map NS)
theorem Cm:∀ ns:List Int,Oq (ns.map NS)=true
 | []=>rfl
 | _::r=>by
  have ih:=Cm r;simpa [Oq,Og] using ih
theorem Cb:∀ ns:List Int,Ox (ns.map NS)=0
 | []=>rfl
 | _::r=>by
  have ih:=Cb r;simpa [Ox,PyData.depth] using ih
theorem Bv (ns:List Int):Of (.list (ns.map NS))=true:=by
 simp [Of,Og,PyData.depth,Cm,Cb]
theorem xJ (i:Int):Of (.int i)=true:=by simp [Of,Og,PyData.depth]
theorem Ay (i j:Int):pEq (.int i) (.int j)=some (.bool (i==j)):=by
 unfold pEq;rw [if_pos ⟨xJ i,xJ j⟩];simp [Oc]
theorem ai {o:Nh->Nh->Option Nh} {f g:En->Option Nh} {η:En} {x y z:Nh} (hf:f η=some x) (hg:g η=some y) (ho:o x y=some z):l2 o f g η=some z:=by
 unfold l2;rw [hf,Nk,hg,Nk,ho]
theorem kW {i j:Int} (h:CMul i j):nv (.int i) (.int j)=some (.int (i*j)):=if_pos h
theorem qc {i j:Int} (h:0 < j):pH (.int i) (.int j)=some (.int (i % j)):=if_pos h
theorem va {i j:Int} (h:CDiv i j):rG (.int i) (.int j)=some (.int (i / j)):=if_pos h
theorem zj {i j:Int} (h1:-(2 ^ 64) < i) (h2:i < 2 ^ 64):CMul i j:=Or.inl ⟨h1,h2⟩
theorem M3 {i j:Int} (h1:-(2 ^ 64) < j) (h2:j < 2 ^ 64):CMul i j:=Or.inr ⟨h1,h2⟩
section
variable {ns:List Int}
theorem IY (hn:ns.length<=63) {k:Int} (hk:0<=k):∃ v:Int,cy [Sd ns,.int k]=some (.int v):=by
 unfold cy cJ;rw [if_pos (by rfl)];have et:(bT (l2 pEq (eV 0) (oE (λ η=>(aN η).bind gL)))) [.val (Sd ns),.val (.int k)]=some (decide (ns=[])):=by
  show NB (pEq (Sd ns) (.list [])) asB=_;unfold pEq;rw [if_pos ⟨Bv ns,by rfl⟩];cases ns <;> simp [Sd,Oc,PyData.eqvAll,asB]
 show ∃ v,NB (lf [.val (Sd ns),.val (.int k)]) _=_;unfold lf cP sIf;rw [et,Nk];by_cases h0:ns=[]
 ·rw [if_pos (by simpa using h0)];refine ⟨7*k,?_⟩
  have:l2 nv (eC (.int 7)) (eV 1) [.val (Sd ns),.val (.int k)]=some (.int (7*k)):=ai rfl rfl (kW (zj (by decide) (by decide)))
  unfold hJ;rw [this]; rfl
 ·rw [if_neg (by simpa using h0)];have hp:0 < ns.length:=by cases ns with | nil=>exact absurd rfl h0 | cons=>simp
  have hlen:lA oI (aC (eV 0) aN) [.val (Sd ns),.val (.int k)]=some (.int (ns.length:Int)):=by
   show some (NS ((ns.map NS).length:Int))=_;rw [Nl]
  have hm:l2 pH (eV 1) (lA oI (aC (eV 0) aN)) [.val (Sd ns),.val (.int k)]=some (.int (k % (ns.length:Int))):=ai rfl hlen (qc (by omega));have hd:l2 rG (eV 1) (lA oI (aC (eV 0) aN)) [.val (Sd ns),.val (.int k)]=some (.int (k / (ns.length:Int))):=ai rfl hlen (va ⟨by omega,by omega⟩);obtain ⟨j,hj⟩:∃ j:Nat,k % (ns.length:Int)=(j:Int):=⟨(k % (ns.length:Int)).toNat,by have:=O9 k (show (ns.length:Int)≠0 by omega); omega⟩;have hjl:j < ns.length:=by have:=Pa k (show (0:Int) < ns.length by omega); omega
  refine ⟨ns[j]+6553*(k / (ns.length:Int)),?_⟩;have hx:l2 pIx (eV 0) (l2 pH (eV 1) (lA oI (aC (eV 0) aN))) [.val (Sd ns),.val (.int k)]=some (.int ns[j]):=by
   refine ai rfl hm ?_;rw [hj];show atI (ns.map NS) (j:Int)=_;exact qr (by rw [NG,NQ hjl]; rfl)
  have hy:l2 nv (eC (.int 6553)) (l2 rG (eV 1) (lA oI (aC (eV 0) aN))) [.val (Sd ns),.val (.int k)]=some (.int (6553*(k / (ns.length:Int)))):=ai rfl hd (kW (zj (by decide) (by decide)));have hz:=ai (o:=aM) hx hy rfl;show NB (hJ _ [.val (Sd ns),.val (.int k)]) _=_;unfold hJ;rw [hz];rfl
theorem gk (hn:ns.length<=63) {k m:Int} (hk:0<=k) (hm:0 < m):∃ r:Nat,(r:Int) < m/\af [Sd ns,.int k,.int m]=some (.int r):=by
 obtain ⟨v,hv⟩:=IY hn hk;unfold af cJ;rw [if_pos (by rfl)];have hc:lA cy (aC (eV 0) (aC (eV 1) aN)) [.val (Sd ns),.val (.int k),.val (.int m),.un]=some (.int v):=hv;have x1:l2 pH (l2 aM (l2 nv (l2 pH (lA cy (aC (eV 0) (aC (eV 1) aN))) (eC (.int 2147483563))) (eC (.int 69069))) (l2 nv (eC (.int 104723)) (l2 aM (eV 1) (eC (.int 1))))) (eC (.int 2147483563)) [.val (Sd ns),.val (.int k),.val (.int m),.un]=some (.int ((v % 2147483563*69069+104723*(k+1)) % 2147483563)) :=
  ai (ai (ai (ai hc rfl (qc (by decide))) rfl (kW (M3 (by decide) (by decide)))) (ai rfl (ai rfl rfl rfl) (kW (zj (by decide) (by decide)))) rfl) rfl (qc (by decide))
 generalize hx:(v % 2147483563*69069+104723*(k+1)) % 2147483563=x at x1;have bx:0<=x/\x < 2147483563:=by rw [<- hx]; exact ⟨O9 _ (by decide),Pa _ (by decide)⟩
 have x2:l2 pH (l2 aM (l2 nv (eV 3) (eV 3)) (l2 rG (eV 3) (eC (.int 3)))) (eC (.int 2147483399)) [.val (Sd ns),.val (.int k),.val (.int m),.val (.int x)]=some (.int ((x*x+x / 3) % 2147483399)) :=
  ai (ai (ai rfl rfl (kW (zj (by omega) (by omega)))) (ai rfl rfl (va ⟨by decide,by decide⟩)) rfl) rfl (qc (by decide))
 generalize hy:(x*x+x / 3) % 2147483399=y at x2;have byy:0<=y/\y < 2147483399:=by rw [<- hy]; exact ⟨O9 _ (by decide),Pa _ (by decide)⟩
 have x3:l2 pH (l2 rG (l2 pH (l2 aM (l2 nv (eV 3) (eV 3)) (l2 rG (eV 3) (eC (.int 7)))) (eC (.int 2147483647))) (eC (.int 11))) (eV 2) [.val (Sd ns),.val (.int k),.val (.int m),.val (.int y)]=some (.int ((y*y+y / 7) % 2147483647 / 11 % m)) :=
  ai (ai (ai (ai (ai rfl rfl (kW (zj (by omega) (by omega)))) (ai rfl rfl (va ⟨by decide,by decide⟩)) rfl) rfl (qc (by decide))) rfl (va ⟨by decide,by decide⟩)) rfl (qc hm)
 refine ⟨((y*y+y / 7) % 2147483647 / 11 % m).toNat,?_,?_⟩
 ·have h1:=O9 ((y*y+y / 7) % 2147483647 / 11) (show m≠0 by omega);have h2:=Pa ((y*y+y / 7) % 2147483647 / 11) hm;omega
 ·have h1:=O9 ((y*y+y / 7) % 2147483647 / 11) (show m≠0 by omega);have e:(((y*y+y / 7) % 2147483647 / 11 % m).toNat:Int)=(y*y+y / 7) % 2147483647 / 11 % m:=by omega
  rw [e];show NB (jT cy [.val (Sd ns),.val (.int k),.val (.int m),.un]) _=_;unfold jT cP f6 hJ;rw [x1,Nk,Nk];show NB (NB (NB (l2 pH _ _ [.val (Sd ns),.val (.int k),.val (.int m),.val (.int x)]) _) _) _=_;rw [x2,Nk,Nk];show NB (NB (l2 pH _ _ [.val (Sd ns),.val (.int k),.val (.int m),.val (.int y)]) _) _=_;rw [x3];rfl
end
theorem fU {f g:En->Option Out} {η η1:En} {r:Option Out} (h1:f η=some (.nx η1)) (h2:g η1=r):cP f g η=r:=by
 unfold cP;rw [h1]; exact h2
theorem kh {i:Nat} {f:En->Option Nh} {η:En} {d:Nh} (h:f η=some d):f6 i f η=some (.nx (η.set i (.val d))):=by
 unfold f6;rw [h]; rfl
theorem xu {i:Nat} {f:En->Option (List Nh)} {η:En} {d:List Nh} (h:f η=some d):m9 i f η=some (.nx (η.set i (.own d))):=by
 unfold m9;rw [h]; rfl
theorem aI {o:PFn} {fs:En->Option (List Nh)} {η:En} {ds:List Nh} {d:Nh} (h1:fs η=some ds) (h2:o ds=some d):lA o fs η=some d:=by
 unfold lA;rw [h1]; exact h2
theorem ae {f:En->Option Nh} {g:En->Option (List Nh)} {η:En} {d:Nh} {ds:List Nh} (h1:f η=some d) (h2:g η=some ds):aC f g η=some (d::ds):=by
 unfold aC;rw [h1,Nk,h2]; rfl
theorem zU {c:En->Option Bool} {f g:En->Option Out} {η:En} {b:Bool} (h:c η=some b):sIf c f g η=if b=true then f η else g η:=by
 unfold sIf;rw [h]; rfl
theorem dr {f:En->Option Nh} {η:En} {b:Bool} (h:f η=some (.bool b)):bT f η=some b:=by
 unfold bT;rw [h]; rfl
theorem wg {it:En->Option (List Nh)} {t:En->Nh->Option En} {body:En->Option Out} {η:En} {ds:List Nh} {r:Option Out} (h:it η=some ds) (h2:sGo t body ds η=r):qP it t body η=r:=by
 unfold qP;rw [h]; exact h2
theorem Aj {j:Int} (h1:-(2 ^ 62)<=j) (h2:j < 2 ^ 62):rng1 [.int j]=some (zc 0 j.toNat):=if_pos ⟨h1,h2⟩
theorem HJ {t:En->Nh->Option En} {body:En->Option Out} (Inv:Nat->En->Prop) (n:Nat)
  (st:∀ k η,k < n->Inv k η->∃ η1 η2,t η (.int (0+(k:Nat)))=some η1/\body η1=some (.nx η2)/\Inv (k+1) η2) {η:En} (h0:Inv 0 η):∃ η',sGo t body (zc 0 n) η=some (.nx η')/\Inv n η':=by
 have key:∀ (m k:Nat) (η:En),k+m=n->Inv k η->∃ η',sGo t body ((List.range' k m).map λ (k:Nat)=>NS (0+(k:Nat))) η=some (.nx η')/\Inv n η':=by
  intro m
  induction m with
  | zero=>intro k η e h; exact ⟨η,rfl,by rw [<- e]; exact h⟩
  | succ m ih =>
   intro k η e h;obtain ⟨η1,η2,h1,h2,h3⟩:=st k η (by omega) h;obtain ⟨η',e1,e2⟩:=ih (k+1) η2 (by omega) h3;refine ⟨η',?_,e2⟩;rw [List.range'_succ,Ny];unfold sGo;rw [h1,Nk,h2,Nk];exact e1
 unfold zc;rw [List.range_eq_range'];exact key n 0 η (by omega) h0
theorem HM {ι:Type} {t:En->Nh->Option En} {body:En->Option Out} (D:ι->Nh) (Inv:List ι->En->Prop) (all:List ι)
  (st:∀ done x rest η,all=done++x::rest->Inv done η->∃ η1 η2,t η (D x)=some η1/\body η1=some (.nx η2)/\Inv (done++[x]) η2) {η:En} (h0:Inv [] η):∃ η',sGo t body (all.map D) η=some (.nx η')/\Inv all η':=by
 have key:∀ (rest done:List ι) (η:En),all=done++rest->Inv done η->∃ η',sGo t body (rest.map D) η=some (.nx η')/\Inv all η':=by
  intro rest
  induction rest with
  | nil=>intro done η e h; exact ⟨η,rfl,by rw [e,Oi]; exact h⟩
  | cons x r ih =>
   intro done η e h;obtain ⟨η1,η2,h1,h2,h3⟩:=st done x r η e h;obtain ⟨η',e1,e2⟩:=ih (done++[x]) η2 (by rw [e]; simp) h3;refine ⟨η',?_,e2⟩;rw [Ny];unfold sGo;rw [h1,Nk,h2,Nk];exact e1
 exact key all [] η rfl h0
noncomputable def let8:List Nat:=[100,98,103,97,104,99,102,101]
noncomputable def nmT (t:Nat):Nat->Str
 | 0 => ""
 | j+1=>if j < 8 then ⟨#[let8.getD ((j+t) % 8) 0]⟩ else ⟨(NV (j+1) 97).toArray⟩
theorem Gv:∀ x:Fin 8,∀ y:Fin 8,let8.getD x.val 0=let8.getD y.val 0->x=y:=by decide
theorem v8 {t j:Nat} (h:j < 8):nmT t (j+1)=⟨#[let8.getD ((j+t) % 8) 0]⟩:=if_pos h
theorem Ge {t j:Nat} (h:¬ j < 8):nmT t (j+1)=⟨(NV (j+1) 97).toArray⟩:=if_neg h
theorem Db:("" : Str).cps.size=0:=by decide
theorem Iu (t:Nat):∀ a b,nmT t a=nmT t b->a=b:=by
 have sz:∀ a,(nmT t a).cps.size=if a=0 then 0 else if a - 1 < 8 then 1 else a:=λ a=>by
  cases a with
  | zero=>exact Db
  | succ j =>
   by_cases h:j < 8
   ·rw [v8 h]; simp [h]
   ·rw [Ge h]; simp [h]
 intro a b e;have s1:=sz a;have s2:=sz b;rw [e,s2] at s1;cases a with
 | zero =>
  cases b with
  | zero=>rfl
  | succ k =>
   simp at s1;split at s1 <;> omega
 | succ j =>
  cases b with
  | zero =>
   simp at s1;split at s1 <;> omega
  | succ k =>
   by_cases hj:j < 8
   ·by_cases hk:k < 8
    ·rw [v8 hj,v8 hk] at e;have e1:(#[let8.getD ((j+t) % 8) 0]:Array Nat)=#[let8.getD ((k+t) % 8) 0]:=by injection e
     have e2:let8.getD ((j+t) % 8) 0=let8.getD ((k+t) % 8) 0:=by simpa using e1
     have e3:=Gv ⟨(j+t) % 8,Nat.mod_lt _ (by decide)⟩ ⟨(k+t) % 8,Nat.mod_lt _ (by decide)⟩ e2;have e4:(j+t) % 8=(k+t) % 8:=by injection e3
     omega
    ·simp [hj,hk] at s1; omega
   ·by_cases hk:k < 8
    ·simp [hj,hk] at s1; omega
    ·simp [hj,hk] at s1; omega
theorem IC:∀ x:Fin 8,let8.getD x.val 0 < 0x110000:=by decide
theorem Gd (t:Nat):∀ a,NW (nmT t a)=true:=λ a=>by
 cases a with
 | zero=>exact (by decide +kernel:NW ("" : Str)=true)
 | succ j =>
  by_cases h:j < 8
  ·rw [v8 h]
   have:=IC ⟨(j+t) % 8,Nat.mod_lt _ (by decide)⟩
   simp only [N8] at this;simp [NW,this]
  ·rw [Ge h];unfold NW;rw [Array.all_eq_true];intro i hi
   simp
structure Dr where
 ps:List Nat
 nm:Nat->Str
 L:Nat->Int
 T:Nat->Int
 W:Nat->Int
 H:Nat->Int
 mr:Nat->Str
noncomputable def bd (l t w h:Int):Prop:=(-3<=l/\l<=5)/\(-3<=t/\t<=5)/\(0<=w/\w<=8)/\(0<=h/\h<=8)
noncomputable def mkS:List Bool->Str
 | [] => ""
 | b::r=>mkS r++(if b then (⟨#[[99,102,104,108].getD r.length 0]⟩:Str) else ("" : Str))
noncomputable def Kt (m:Str):Prop:=∃ bs:List Bool,bs.length=4/\m=mkS bs
structure Dr.Ok (c:Dr):Prop where
 inj:∀ a b,c.nm a=c.nm b->a=b
 top:c.nm 0 = ""
 ok:∀ a,NW (c.nm a)=true
 okm:∀ a,NW (c.mr a)=true
 len:c.ps.length<=12
 par:∀ i,c.ps.getD i 0<=i
 bds:∀ i,bd (c.L i) (c.T i) (c.W i) (c.H i)
 mks:∀ i,Kt (c.mr i)
noncomputable def Dr.box (c:Dr) (i:Nat):Nh:=.tuple [.str (c.nm (i+1)),.str (c.nm (c.ps.getD i 0)),.int (c.L i),.int (c.T i),.int (c.W i),.int (c.H i),.str (c.mr i)]
noncomputable def Dr.d (c:Dr):Nh:=.tuple ((List.range c.ps.length).map c.box)
noncomputable def Dr.s (c:Dr) (q:Nat):Nh:=.str (c.nm q)
noncomputable def Dr.more (c:Dr) (p:Nat) (l t w h:Int) (m:Str):Dr :=
 { ps:=c.ps++[p],nm:=c.nm,L:=λ i=>if i=c.ps.length then l else c.L i,T:=λ i=>if i=c.ps.length then t else c.T i,W:=λ i=>if i=c.ps.length then w else c.W i,H:=λ i=>if i=c.ps.length then h else c.H i,mr:=λ i=>if i=c.ps.length then m else c.mr i }
theorem Dr.more_d (c:Dr) (p:Nat) (l t w h:Int) (m:Str):(c.more p l t w h m).d=.tuple ((List.range c.ps.length).map c.box++[.tuple [.str (c.nm (c.ps.length+1)),.str (c.nm p),.int l,.int t,.int w,.int h,.str m]]):=by
 unfold Dr.d;have e:(c.more p l t w h m).ps.length=c.ps.length+1:=by unfold Dr.more; simp
 rw [e,List.range_succ,N4]
 congr 2
 ·refine List.map_congr_left λ i hi=>?_;have hlt:=OO.mp hi;have hne:i≠c.ps.length:=NZ hlt;have hps:(c.ps++[p])[i]?=c.ps[i]?:=Nm hlt;unfold Dr.box Dr.more;simp only [hne,if_false,N8,hps]
 ·unfold Dr.box Dr.more
  simp
theorem Dr.more_ok {c:Dr} (h:c.Ok) (hl:c.ps.length < 12) {p:Nat} (hp:p<=c.ps.length) (l t w g:Int) {m:Str} (hm:NW m=true) (hb:bd l t w g) (hk:Kt m):(c.more p l t w g m).Ok where
 inj:=h.inj
 top:=h.top
 ok:=h.ok
 okm:=λ i=>by
  unfold Dr.more;dsimp only
  split
  ·exact hm
  ·exact h.okm i
 len:=by unfold Dr.more; simp; omega
 par:=λ i=>by
  unfold Dr.more;dsimp only;rw [N8];by_cases hi:i < c.ps.length
  ·rw [Nm hi,<- N8];exact h.par i
  ·by_cases he:i=c.ps.length
   ·subst he;rw [Nt (Np _)];simpa using hp
   ·rw [N3 (by simp; omega)];exact O5 _
 bds:=λ i=>by
  unfold Dr.more;dsimp only;by_cases e:i=c.ps.length
  ·rw [if_pos e,if_pos e,if_pos e,if_pos e]; exact hb
  ·rw [if_neg e,if_neg e,if_neg e,if_neg e]; exact h.bds i
 mks:=λ i=>by
  unfold Dr.more;dsimp only
  split
  ·exact hk
  ·exact h.mks i
noncomputable def sg4:Nat->Str:=λ j=>⟨#[[99,102,104,108].getD j 0]⟩
theorem cfhl:enS [.str "cfhl"]=some ([0,1,2,3].map λ (j:Nat)=>PyData.tuple [.int (j:Nat),.str (sg4 j)]):=by
 have e:("cfhl" : Str).cps.toList=[99,102,104,108]:=by decide +kernel
 unfold enS;dsimp only;unfold zG;rw [e];rfl
theorem dbg:("dbgahcfe" : Str).cps.toList=let8:=by decide +kernel
theorem IU:("dbgahcfe" : Str).length<=No:=by decide +kernel
theorem Ex {a b:Str} (ha:NW a=true) (hb:NW b=true):NW (a++b)=true:=by
 unfold NW at ha hb ⊢;show (a.cps++b.cps).all _=true;rw [Array.all_append,ha,hb]; rfl
theorem IG (a b:Str):(a++b).length=a.length+b.length:=by
 show (a.cps++b.cps).size=_;rw [Array.size_append]; rfl
theorem J6 (j:Nat) (h:j∈[0,1,2,3]):NW (sg4 j)=true:=by
 simp at h;rcases h with rfl | rfl | rfl | rfl <;> decide +kernel
theorem EN (bs:List Bool):mkS bs=mkS (false::bs):=by
 show mkS bs=mkS bs++("" : Str);apply HC;show _=((mkS bs).cps++("" : Str).cps).toList
 have:("" : Str).cps=#[]:=by decide +kernel
 rw [this]; simp
theorem DB (j:Nat):(sg4 j).length=1:=rfl
section
variable {ns:List Int} (hn:ns.length<=63)
include hn
theorem Gi {x1 x2 x3 x4 x6 x7 x8:Sl} {hh:Int} (h0:0<=hh) (s10 s11 s12:Sl):∃ (m:Str) (u v:Sl),(NW m=true/\Kt m) /\
  qP (λ η=>((aC (eC (.str "cfhl")) aN) η).bind enS) (tgT (aX (tgN 10) (aX (tgN 11) gX)))
  (sIf (bT (l2 pEq (lA af (aC (eV 0) (aC (l2 aM (l2 aM (eV 5) (eC (.int 5))) (eV 10)) (aC (l2 pIx (oE (λ η=>((aC (eC (.int 4)) (aC (eC (.int 2)) (aC (eC (.int 9)) (aC (eC (.int 6)) aN)))) η).bind gL)) (eV 10)) aN)))) (eC (.int 0)))) (f6 9 (l2 aM (eV 9) (eV 11))) sNx)
   [.val (Sd ns),x1,x2,x3,x4,.val (.int hh),x6,x7,x8,.val (.str ""),s10,s11,s12]=some (.nx [.val (Sd ns),x1,x2,x3,x4,.val (.int hh),x6,x7,x8,.val (.str m),u,v,s12]):=by
 have inv:=HM (t:=tgT (aX (tgN 10) (aX (tgN 11) gX)))
  (body:=(sIf (bT (l2 pEq (lA af (aC (eV 0) (aC (l2 aM (l2 aM (eV 5) (eC (.int 5))) (eV 10)) (aC (l2 pIx (oE (λ η=>((aC (eC (.int 4)) (aC (eC (.int 2)) (aC (eC (.int 9)) (aC (eC (.int 6)) aN)))) η).bind gL)) (eV 10)) aN)))) (eC (.int 0)))) (f6 9 (l2 aM (eV 9) (eV 11))) sNx))
  (λ (j:Nat)=>PyData.tuple [.int (j:Nat),.str (sg4 j)])
  (λ done η=>∃ (m:Str) (u v:Sl),(NW m=true/\∃ bs:List Bool,bs.length=done.length/\m=mkS bs)/\m.length<=done.length/\η=[.val (Sd ns),x1,x2,x3,x4,.val (.int hh),x6,x7,x8,.val (.str m),u,v,s12])
  [0,1,2,3] ?_ (η:=[.val (Sd ns),x1,x2,x3,x4,.val (.int hh),x6,x7,x8,.val (.str ""),s10,s11,s12]) ⟨"", s10,s11,⟨by decide +kernel,[],rfl,rfl⟩,by decide +kernel,rfl⟩
 ·obtain ⟨η',e1,m,u,v,hm,_,rfl⟩:=inv;refine ⟨m,u,v,⟨hm.1,hm.2⟩,wg (ds:=[0,1,2,3].map λ (j:Nat)=>PyData.tuple [.int (j:Nat),.str (sg4 j)]) cfhl e1⟩
 ·rintro done j rest η hall ⟨m,u,v,hm,hml,rfl⟩
  have hj:j∈[0,1,2,3]:=by rw [hall]; simp
  have hdl:done.length<=3:=by
   have:=congrArg List.length hall
   simp at this;omega
  have hjd:j=done.length:=by
   match done,hall,hdl with
   | [],hall,_=>simp at hall; simp [hall.1]
   | [_],hall,_=>simp at hall; simp [hall.2.1]
   | [_,_],hall,_=>simp at hall; simp [hall.2.2.1]
   | [_,_,_],hall,_=>simp at hall; simp [hall.2.2.2.1]
  obtain ⟨hm,bs,hbs,hmm⟩:=hm;have hmod:∃ q:Int,0 < q/\l2 pIx (oE (λ η=>((aC (eC (.int 4)) (aC (eC (.int 2)) (aC (eC (.int 9)) (aC (eC (.int 6)) aN)))) η).bind gL)) (eV 10) [.val (Sd ns),x1,x2,x3,x4,.val (.int hh),x6,x7,x8,.val (.str m),.val (.int (j:Nat)),.val (.str (sg4 j)),s12]=some (.int q):=by
   have eo:oE (λ η=>((aC (eC (.int 4)) (aC (eC (.int 2)) (aC (eC (.int 9)) (aC (eC (.int 6)) aN)))) η).bind gL) [.val (Sd ns),x1,x2,x3,x4,.val (.int hh),x6,x7,x8,.val (.str m),.val (.int (j:Nat)),.val (.str (sg4 j)),s12]=some (.list [.int 4,.int 2,.int 9,.int 6]):=by
    have:gL [.int 4,.int 2,.int 9,.int 6]=some [.int 4,.int 2,.int 9,.int 6]:=if_pos (by show 4<=No; decide)
    show NB (gL [.int 4,.int 2,.int 9,.int 6]) _=_;rw [this]; rfl
   simp at hj;rcases hj with rfl | rfl | rfl | rfl
   ·exact ⟨4,by decide,ai eo rfl rfl⟩
   ·exact ⟨2,by decide,ai eo rfl rfl⟩
   ·exact ⟨9,by decide,ai eo rfl rfl⟩
   ·exact ⟨6,by decide,ai eo rfl rfl⟩
  obtain ⟨q,hq,eq⟩:=hmod;obtain ⟨r,hr,er⟩:=gk hn (k:=hh+5+(j:Nat)) (m:=q) (by omega) hq;have eb:bT (l2 pEq (lA af (aC (eV 0) (aC (l2 aM (l2 aM (eV 5) (eC (.int 5))) (eV 10)) (aC (l2 pIx (oE (λ η=>((aC (eC (.int 4)) (aC (eC (.int 2)) (aC (eC (.int 9)) (aC (eC (.int 6)) aN)))) η).bind gL)) (eV 10)) aN)))) (eC (.int 0)))
    [.val (Sd ns),x1,x2,x3,x4,.val (.int hh),x6,x7,x8,.val (.str m),.val (.int (j:Nat)),.val (.str (sg4 j)),s12]=some ((r:Int)==0) :=
   dr (ai (aI (ae rfl (ae (ai (ai rfl rfl rfl) rfl rfl) (ae eq rfl))) er) rfl (Ay _ _))
  refine ⟨[.val (Sd ns),x1,x2,x3,x4,.val (.int hh),x6,x7,x8,.val (.str m),.val (.int (j:Nat)),.val (.str (sg4 j)),s12],?_⟩;by_cases h0:(r:Int)==0
  ·refine ⟨[.val (Sd ns),x1,x2,x3,x4,.val (.int hh),x6,x7,x8,.val (.str (m++sg4 j)),.val (.int (j:Nat)),.val (.str (sg4 j)),s12],rfl,?_,m++sg4 j,_,_,⟨Ex hm (J6 j hj),true::bs,by simp [hbs],by rw [hmm,hjd,<- hbs]; rfl⟩,?_,rfl⟩
   ·rw [zU eb,if_pos h0];refine kh (d:=.str (m++sg4 j)) (ai rfl rfl ?_);show (if m.length+(sg4 j).length<=No then some (PyData.str (m++sg4 j)) else none)=_;rw [if_pos (by rw [DB]; exact big (by omega))]
   ·rw [IG,DB,Nn];simpa using hml
  ·refine ⟨[.val (Sd ns),x1,x2,x3,x4,.val (.int hh),x6,x7,x8,.val (.str m),.val (.int (j:Nat)),.val (.str (sg4 j)),s12],rfl,?_,m,_,_,⟨hm,false::bs,by simp [hbs],by rw [hmm]; exact EN bs⟩,?_,rfl⟩
   ·rw [zU eb,if_neg h0]; rfl
   ·rw [Nn]; simp; omega
end
theorem bR {ds:List Nh} (h:ds.length<=3000000):(if ds.length<=No then some (PyData.tuple ds) else none)=some (.tuple ds):=if_pos (big h)
theorem ou {ds:List Nh} (h:ds.length<=3000000):gL ds=some ds:=if_pos (big h)
theorem zw {a b:List Nh} (h:a.length+b.length<=3000000):aM (.list a) (.list b)=some (.list (a++b)):=if_pos (big h)
theorem KZ {a b:List Nh} (h:a.length+b.length<=3000000):aM (.tuple a) (.tuple b)=some (.tuple (a++b)):=if_pos (big h)
theorem jp {f:En->Option (List Nh)} {η:En} {ds:List Nh} (h:f η=some ds):oE f η=some (.list ds):=by
 unfold oE;rw [h]; rfl
theorem ie {mp:List (Option Nat)} {fi:En->Option (List Nh)} {t:En->Nh->Option En} {p:En->Option Bool} {f:En->Option Nh} {η:En} {ds:List Nh} {r:Option (List Nh)} (h1:fi η=some ds) (hz:ds.length<=3000000) (h2:cGo t p f (sk mp η) ds=r):bH mp fi t p f η=r:=by
 unfold bH;rw [h1,Nk,if_pos (big hz)];exact h2
noncomputable def LG (az:PFn):En->Option Out :=
 (cP (f6 5 (l2 aM (l2 aM (eV 1) (eC (.int 3))) (l2 nv (eC (.int 9)) (eV 4))))
  (cP (f6 6 (l2 pIx (l2 aM (oE (λ η=>((aC (eC (.str "")) aN) η).bind gL)) (oE (bH [none] (lI nH (eV 2)) (tgN 0) cS (l2 pIx (eV 0) (eC (.int 0)))))) (lA az (aC (eV 0) (aC (eV 5) (aC (l2 aM (eV 4) (eC (.int 1))) aN))))))
  (cP (m9 7 (bH [none,some 0,some 5] (λ η=>((aC (eC (.int 2)) aN) η).bind rng1) (tgN 0) cS (l2 wS (lA az (aC (eV 1) (aC (l2 aM (l2 aM (eV 2) (eC (.int 1))) (eV 0)) (aC (eC (.int 9)) aN)))) (eC (.int 3)))))
  (λ η=>(cP (m9 8 (bH [none,some 0,some 5] (λ η=>((aC (eC (.int 2)) aN) η).bind rng1) (tgN 0) cS (lA az (aC (eV 1) (aC (l2 aM (l2 aM (eV 2) (eC (.int 3))) (eV 0)) (aC (eC (.int 9)) aN))))))
  (λ η=>(cP (f6 9 (eC (.str "")))
  (cP (qP (λ η=>((aC (eC (.str "cfhl")) aN) η).bind enS) (tgT (aX (tgN 10) (aX (tgN 11) gX)))
  (sIf (bT (l2 pEq (lA az (aC (eV 0) (aC (l2 aM (l2 aM (eV 5) (eC (.int 5))) (eV 10)) (aC (l2 pIx (oE (λ η=>((aC (eC (.int 4)) (aC (eC (.int 2)) (aC (eC (.int 9)) (aC (eC (.int 6)) aN)))) η).bind gL)) (eV 10)) aN)))) (eC (.int 0)))) (f6 9 (l2 aM (eV 9) (eV 11))) sNx))
  (cP (f6 12 (l2 pIx (eC (.str "dbgahcfe")) (l2 pH (l2 aM (eV 4) (eV 3)) (eC (.int 8)))))
  (f6 2 (l2 aM (eV 2) (lA (λ ds=>if ds.length<=No then some (.tuple ds) else none) (aC (l2 aM (l2 aM (lA (λ ds=>if ds.length<=No then some (.tuple ds) else none) (aC (eV 12) (aC (eV 6) aN))) (lA wR (aC (l2 aM (eV 7) (eV 8)) aN))) (lA (λ ds=>if ds.length<=No then some (.tuple ds) else none) (aC (eV 9) aN))) aN))))))) (frz 8 η))) (frz 7 η)))))
section
variable {ns:List Int} (hn:ns.length<=63)
include hn
theorem Fk {f:En->Option Nh} {η:En} {mp:List (Option Nat)} (lo hi:Int) (h:∀ k:Nat,k < 2->∃ y,(lo<=y/\y<=hi)/\f ((sk mp η).set 0 (.val (.int (0+(k:Nat)))))=some (.int y)):∃ a b:Int,((lo<=a/\a<=hi)/\(lo<=b/\b<=hi))/\bH mp (λ η=>((aC (eC (.int 2)) aN) η).bind rng1) (tgN 0) cS f η=some [.int a,.int b]:=by
 obtain ⟨a,ha,ea⟩:=h 0 (by decide);obtain ⟨b,hb,eb⟩:=h 1 (by decide);refine ⟨a,b,⟨ha,hb⟩,ie (ds:=zc 0 2) (Aj (j:=2) (by decide) (by decide)) (by decide) ?_⟩
 have:=j6 (t:=tgN 0) (p:=cS) (f:=f) (η:=sk mp η) (λ (k:Nat)=>NS (0+(k:Nat))) (λ _=>true) (λ k=>.int (if k=0 then a else b)) (List.range 2) λ k hk=>by
  refine ⟨_,rfl,rfl,λ _=>?_⟩;have hk:=OO.mp hk;rcases (show k=0\/k=1 by omega) with rfl | rfl
  ·exact ea
  ·exact eb
 exact this
theorem FA {a0:Int} (ha:0<=a0):∃ (c:Dr) (tn:Nat),c.Ok/\c.nm=nmT tn/\c.ps.length<=7/\dh [Sd ns,.int a0]=some c.d:=by
 obtain ⟨tn,htn,et⟩:=gk hn (k:=a0+1) (m:=8) (by omega) (by decide);obtain ⟨n,hnn,en⟩:=gk hn (k:=a0) (m:=8) ha (by decide);have main:=HJ (t:=tgN 4) (body:=LG af) (λ k η=>∃ (c:Dr) (s4 s5 s6 s7 s8 s9 s10 s11 s12:Sl),c.Ok/\c.nm=nmT tn/\c.ps.length=k/\η=[.val (Sd ns),.val (.int a0),.val c.d,.val (.int tn),s4,s5,s6,s7,s8,s9,s10,s11,s12]) n ?st
  (η:=[.val (Sd ns),.val (.int a0),.val (.tuple []),.val (.int tn),.un,.un,.un,.un,.un,.un,.un,.un,.un]) ⟨⟨[],nmT tn,λ _=>0,λ _=>0,λ _=>0,λ _=>0,λ _ => ""⟩,.un,.un,.un,.un,.un,.un,.un,.un,.un,⟨Iu tn,rfl,Gd tn,λ _=>Gd 0 0,by simp,λ _=>by simp,λ _=>by show bd 0 0 0 0; unfold bd; decide,λ _=>⟨[false,false,false,false],rfl,by show ("" : Str)=mkS [false,false,false,false]; decide +kernel⟩⟩,rfl,rfl,rfl⟩
 case st =>
  rintro k η hk ⟨c,s4,s5,s6,s7,s8,s9,s10,s11,s12,hc,hnm,hlen,rfl⟩
  have hk7:k < 7:=by omega
  refine ⟨[.val (Sd ns),.val (.int a0),.val c.d,.val (.int tn),.val (.int (0+(k:Nat))),s5,s6,s7,s8,s9,s10,s11,s12],?_⟩;have hh:l2 aM (l2 aM (eV 1) (eC (.int 3))) (l2 nv (eC (.int 9)) (eV 4)) [.val (Sd ns),.val (.int a0),.val c.d,.val (.int tn),.val (.int (0+(k:Nat))),s5,s6,s7,s8,s9,s10,s11,s12]=some (.int (a0+3+9*(0+(k:Nat)))) :=
   ai (ai rfl rfl rfl) (ai rfl rfl (kW (zj (by decide) (by decide)))) rfl
  generalize hhe:(a0+3+9*(0+(k:Nat)):Int)=hr at hh;have hr0:0<=hr:=by omega
  obtain ⟨p,hp,ep⟩:=gk hn (k:=hr) (m:=0+(k:Nat)+1) hr0 (by omega);have hp':p<=k:=by omega
  have ea:l2 pIx (l2 aM (oE (λ η=>((aC (eC (.str "")) aN) η).bind gL)) (oE (bH [none] (lI nH (eV 2)) (tgN 0) cS (l2 pIx (eV 0) (eC (.int 0)))))) (lA af (aC (eV 0) (aC (eV 5) (aC (l2 aM (eV 4) (eC (.int 1))) aN))))
    [.val (Sd ns),.val (.int a0),.val c.d,.val (.int tn),.val (.int (0+(k:Nat))),.val (.int hr),s6,s7,s8,s9,s10,s11,s12]=some (c.s p):=by
   have e1:oE (λ η=>((aC (eC (.str "")) aN) η).bind gL) [.val (Sd ns),.val (.int a0),.val c.d,.val (.int tn),.val (.int (0+(k:Nat))),.val (.int hr),s6,s7,s8,s9,s10,s11,s12]=some (.list [c.s 0]):=by
    refine jp ?_;show gL [.str ""]=_;rw [ou (by decide)];unfold Dr.s;rw [hc.top]
   have e2:oE (bH [none] (lI nH (eV 2)) (tgN 0) cS (l2 pIx (eV 0) (eC (.int 0)))) [.val (Sd ns),.val (.int a0),.val c.d,.val (.int tn),.val (.int (0+(k:Nat))),.val (.int hr),s6,s7,s8,s9,s10,s11,s12]=some (.list ((List.range k).map λ i=>c.s (i+1))):=by
    refine jp (ie (ds:=(List.range c.ps.length).map c.box) rfl (by rw [Nl,Ou]; omega) ?_);rw [hlen]
    have:=j6 (t:=tgN 0) (p:=cS) (f:=l2 pIx (eV 0) (eC (.int 0))) (η:=[.un]) c.box (λ _=>true) (λ i=>c.s (i+1)) (List.range k) λ i _=>⟨_,rfl,rfl,λ _=>rfl⟩
    rw [show (List.range k).filter (λ _=>true)=List.range k by simp] at this;exact this
   refine ai (ai e1 e2 (zw (by simp; omega))) (aI (ae rfl (ae rfl (ae (ai rfl rfl rfl) rfl))) ep) ?_;show atI ([c.s 0]++(List.range k).map λ i=>c.s (i+1)) (p:Int)=_;refine qr ?_;cases p with
   | zero=>rfl
   | succ j =>
    show ((List.range k).map λ i=>c.s (i+1))[j]?=_;rw [NG,PB (by omega)];rfl
  obtain ⟨pa,pb,hbp,epl⟩:=Fk hn (-3) 5 (mp:=[none,some 0,some 5]) (f:=l2 wS (lA af (aC (eV 1) (aC (l2 aM (l2 aM (eV 2) (eC (.int 1))) (eV 0)) (aC (eC (.int 9)) aN)))) (eC (.int 3)))
   (η:=[.val (Sd ns),.val (.int a0),.val c.d,.val (.int tn),.val (.int (0+(k:Nat))),.val (.int hr),.val (c.s p),s7,s8,s9,s10,s11,s12]) λ j hj=>by
    obtain ⟨r,hr9,er⟩:=gk hn (k:=hr+1+(0+(j:Nat))) (m:=9) (by omega) (by decide);exact ⟨(r:Int) - 3,by omega,ai (aI (ae rfl (ae (ai (ai rfl rfl rfl) rfl rfl) (ae rfl rfl))) er) rfl rfl⟩
  obtain ⟨sa,sb,hbs,esz⟩:=Fk hn 0 8 (mp:=[none,some 0,some 5]) (f:=lA af (aC (eV 1) (aC (l2 aM (l2 aM (eV 2) (eC (.int 3))) (eV 0)) (aC (eC (.int 9)) aN))))
   (η:=[.val (Sd ns),.val (.int a0),.val c.d,.val (.int tn),.val (.int (0+(k:Nat))),.val (.int hr),.val (c.s p),.val (.list [.int pa,.int pb]),s8,s9,s10,s11,s12]) λ j hj=>by
    obtain ⟨r,hr9,er⟩:=gk hn (k:=hr+3+(0+(j:Nat))) (m:=9) (by omega) (by decide);exact ⟨(r:Int),by omega,aI (ae rfl (ae (ai (ai rfl rfl rfl) rfl rfl) (ae rfl rfl))) er⟩
  obtain ⟨m,u,v,hm,em⟩:=Gi hn (x1:=.val (.int a0)) (x2:=.val c.d) (x3:=.val (.int tn)) (x4:=.val (.int (0+(k:Nat)))) (x6:=.val (c.s p)) (x7:=.val (.list [.int pa,.int pb])) (x8:=.val (.list [.int sa,.int sb])) hr0 s10 s11 s12;have enm:l2 pIx (eC (.str "dbgahcfe")) (l2 pH (l2 aM (eV 4) (eV 3)) (eC (.int 8))) [.val (Sd ns),.val (.int a0),.val c.d,.val (.int tn),.val (.int (0+(k:Nat))),.val (.int hr),.val (c.s p),.val (.list [.int pa,.int pb]),.val (.list [.int sa,.int sb]),.val (.str m),u,v,s12]=some (c.s (k+1)):=by
   refine ai rfl (ai (ai rfl rfl rfl) rfl (qc (by decide))) ?_;show (if ("dbgahcfe" : Str).length<=No then (atI ("dbgahcfe" : Str).cps.toList ((0+(k:Nat)+(tn:Int)) % 8)).bind _ else none)=_;rw [if_pos IU,dbg];have e8:((0+(k:Nat)+(tn:Int)) % 8:Int)=(((k+tn) % 8:Nat):Int):=by omega
   have hlt:(k+tn) % 8 < 8:=Nat.mod_lt _ (by decide);rw [e8,qr (v:=let8.getD ((k+tn) % 8) 0) (by rw [N8,NQ (show (k+tn) % 8 < let8.length from hlt)]; rfl)];unfold Dr.s;rw [hnm,v8 (by omega)];rfl
  have hcd:c.d=.tuple ((List.range c.ps.length).map c.box):=rfl;have efin:l2 aM (eV 2) (lA (λ ds=>if ds.length<=No then some (.tuple ds) else none) (aC (l2 aM (l2 aM (lA (λ ds=>if ds.length<=No then some (.tuple ds) else none) (aC (eV 12) (aC (eV 6) aN))) (lA wR (aC (l2 aM (eV 7) (eV 8)) aN))) (lA (λ ds=>if ds.length<=No then some (.tuple ds) else none) (aC (eV 9) aN))) aN))
    [.val (Sd ns),.val (.int a0),.val c.d,.val (.int tn),.val (.int (0+(k:Nat))),.val (.int hr),.val (c.s p),.val (.list [.int pa,.int pb]),.val (.list [.int sa,.int sb]),.val (.str m),u,v,.val (c.s (k+1))]=some (c.more p pa pb sa sb m).d:=by
   rw [Dr.more_d];refine ai (x:=c.d) rfl (aI (ae (ai (ai (aI (ae rfl (ae rfl rfl)) (bR (by simp))) (aI (ae (ai rfl rfl (zw (by simp))) rfl) rfl) (KZ (by simp))) (aI (ae rfl rfl) (bR (by simp))) (KZ (by simp))) rfl) (bR (by simp))) ?_;rw [hcd];refine (KZ (by simp; omega)).trans ?_;rw [hlen];rfl
  refine ⟨[.val (Sd ns),.val (.int a0),.val (c.more p pa pb sa sb m).d,.val (.int tn),.val (.int (0+(k:Nat))),.val (.int hr),.val (c.s p),.val (.list [.int pa,.int pb]),.val (.list [.int sa,.int sb]),.val (.str m),u,v,.val (c.s (k+1))],rfl,?_,c.more p pa pb sa sb m,_,_,_,_,_,_,_,_,_,Dr.more_ok hc (by omega) (by omega) pa pb sa sb hm.1 ⟨hbp.1,hbp.2,hbs.1,hbs.2⟩ hm.2,hnm,by simp [Dr.more,hlen],rfl⟩;refine fU (kh hh) (fU (kh ea) (fU (xu epl) ?_));refine fU (xu esz) ?_;refine fU (kh rfl) (fU em (fU (kh enm) (kh efin)))
 obtain ⟨η',e1,c,s4,s5,s6,s7,s8,s9,s10,s11,s12,hc,hnm,hlen,rfl⟩:=main;refine ⟨c,tn,hc,hnm,by omega,?_⟩;unfold dh cJ;rw [if_pos (by rfl)];show NB (jS af [.val (Sd ns),.val (.int a0),.un,.un,.un,.un,.un,.un,.un,.un,.un,.un,.un]) _=_;have e2:jS af [.val (Sd ns),.val (.int a0),.un,.un,.un,.un,.un,.un,.un,.un,.un,.un,.un]=some (.rt c.d):=by
  refine fU (kh (aI rfl (bR (by decide)))) (fU (kh (aI (ae rfl (ae (ai rfl rfl rfl) (ae rfl rfl))) et)) (fU (wg ?_ e1) rfl));show NB (aC (lA af _) aN _) rng1=_;rw [ae (aI (ae rfl (ae rfl (ae rfl rfl))) en) rfl];rw [Nk,Aj (by omega) (by omega),Int.toNat_natCast]
 rw [e2]; rfl
end
theorem ifF {c:En->Option Bool} {f g:En->Option Out} {η:En} (h:c η=some false):sIf c f g η=g η:=by
 rw [zU h]; rfl
theorem CA {c:En->Option Bool} {f g:En->Option Nh} {η:En} {b:Bool} (h:c η=some b):vIf c f g η=if b=true then f η else g η:=by
 unfold vIf;rw [h]; rfl
theorem yE {f:En->Option Nh} {fl fh:En->Option (Option Int)} {η:En} {x d:Nh} {l h:Option Int} (h1:f η=some x) (h2:fl η=some l) (h3:fh η=some h) (h4:pSl x l h=some d):eSl f fl fh η=some d:=by
 unfold eSl;rw [h1,Nk,h2,Nk,h3]; exact h4
theorem zK {f:En->Option Nh} {η:En} {i:Int} (h:f η=some (.int i)):pS f η=some (some i):=by
 unfold pS;rw [h]; rfl
theorem n4 {k:Nh->Option (List Nh)} {f:En->Option Nh} {η:En} {d:Nh} {ds:List Nh} (h:f η=some d) (h2:k d=some ds):lI k f η=some ds:=by
 unfold lI;rw [h]; exact h2
section
variable {c:Sc} (h:c.Ok)
theorem GI (l:List Nat):(l.map c.s).all kF=true:=by
 rw [List.all_map,Pj];intro x _;rfl
include h
theorem JJ (a b:Nat):Oc (c.s a) (c.s b)=decide (a=b):=by
 unfold Sc.s Oc;rw [str_dec,h.dec]
theorem Mt (x:Nat) (l:List Nat):((l.map c.s).any λ y=>Oc y (c.s x))=decide (x∈l):=by
 induction l with
 | nil=>simp
 | cons y r ih =>
  rw [Ny,Oz,ih,JJ h];by_cases e:y=x
  ·subst e; simp
  ·have:¬ x=y:=λ z=>e z.symm
   simp [e,this]
theorem F0 (neg:Bool) (x:Nat) (l:List Nat):pIn neg (c.s x) (c.S l)=some (.bool (if neg then !decide (x∈l) else decide (x∈l))):=by
 unfold pIn Sc.S;dsimp only;rw [if_pos ⟨rfl,GI l⟩,Mt h]
omit h in
theorem Ei {α β:Type} (f:α->β) (xs:List α) (lo hi:Option Int):vH (xs.map f) lo hi=(vH xs lo hi).map f:=by
 unfold vH;rw [Nl,List.map_take,List.map_drop]
omit h in
theorem Dd {α:Type} (xs:List α) (k:Nat):vH xs none (some (k:Int))=xs.take k:=by
 unfold vH;rw [HT.sIx_none,HT.sIx_nat,List.drop_zero,Nat.sub_zero];exact List.take_eq_take_iff.mpr (by omega)
end
section
variable {c:Sc} (h:c.Ok)
include h
theorem Ff {q p:Nat} {l:List Nat} (h1:tG c.st q=some p) (e:wQ c.st 13 q=some l) (pr:Nat->Nat) (hl:∀ x∈l,tG c.st x=some (pr x)) (hz:l.length<=3000000) :
  cA [c.d,c.s q]=some (.tuple [.int ((l.map λ x=>c.L x).sum),.int ((l.map λ x=>c.T x).sum),.int ((l.map λ x=>c.L x).sum+c.W q),.int ((l.map λ x=>c.T x).sum+c.H q)]):=by
 unfold cA cJ;rw [if_pos (by rfl)];show (nC (aB 13) aG [.val c.d,.val (c.s q),.un,.un,.un,.un]).bind _=_;have all:∀ l:List Nat,l.filter (λ _=>true)=l:=λ l=>by simp
 have e0:bH [none,some 0] (lI asL (lA (aB 13) (aC (eV 0) (aC (eV 1) aN)))) (tgN 0) cS (lA aG (aC (eV 1) (aC (eV 0) aN))) [.val c.d,.val (c.s q),.un,.un,.un,.un]=some (l.map λ x=>c.box (x,pr x)):=by
  show NB (NB (aB 13 [c.d,c.s q]) asL) _=_;rw [tz h 13 q l e];show (if (l.map c.s).length<=No then _ else _)=_;rw [if_pos (by rw [Nl]; exact big hz)]
  have:=j6 (t:=tgN 0) (p:=cS) (f:=lA aG (aC (eV 1) (aC (eV 0) aN))) (η:=[.un,.val c.d]) c.s (λ _=>true) (λ x=>c.box (x,pr x)) l λ x hx=>⟨_,rfl,rfl,λ _=>p6 h (hl x hx)⟩
  rw [all] at this;exact this
 have sm:∀ (k:Int) (Y:Nat->Int) (η:En),(∀ x,(l2 pIx (eV 0) (eC (.int k))) [.val (c.box (x,pr x))]=some (.int (Y x)))->eV 2 η=some (.list (l.map λ x=>c.box (x,pr x))) ->
   lA At (aC (oE (bH [none] (lI asL (eV 2)) (tgN 0) cS (l2 pIx (eV 0) (eC (.int k))))) aN) η=some (.int ((l.map λ x=>Y x).sum)):=λ k Y η hY hη=>by
  have e1:bH [none] (lI asL (eV 2)) (tgN 0) cS (l2 pIx (eV 0) (eC (.int k))) η=some ((l.map λ x=>Y x).map NS):=by
   show NB (NB (eV 2 η) asL) _=_;rw [hη];show (if (l.map λ x=>c.box (x,pr x)).length<=No then _ else _)=_;rw [if_pos (by rw [Nl]; exact big hz)]
   have:=j6 (t:=tgN 0) (p:=cS) (f:=l2 pIx (eV 0) (eC (.int k))) (η:=sk [none] η) (λ x=>c.box (x,pr x)) (λ _=>true) (λ x=>.int (Y x)) l λ x hx=>⟨_,rfl,rfl,λ _=>hY x⟩
   rw [all] at this;rw [Oe];exact this
  show NB (NB (NB (bH _ _ _ _ _ η) _) _) _=_;rw [e1];show At [.list ((l.map λ x=>Y x).map NS)]=_;unfold At;dsimp only;rw [E9]; rfl
 unfold nC cP m9;rw [e0];have s1:=sm 2 c.L [.val c.d,.val (c.s q),.val (.list (l.map λ x=>c.box (x,pr x))),.un,.un,.un] (λ _=>rfl) rfl;have s2:=sm 3 c.T [.val c.d,.val (c.s q),.val (.list (l.map λ x=>c.box (x,pr x))),.val (.int ((l.map λ x=>c.L x).sum)),.un,.un] (λ _=>rfl) rfl;have s3:=p6 h h1;show NB (NB (f6 3 _ [.val c.d,.val (c.s q),.val (.list (l.map λ x=>c.box (x,pr x))),.un,.un,.un]) _) _=_;unfold f6;rw [s1,Nk,Nk];show NB (NB (NB (lA At _ [.val c.d,.val (c.s q),.val (.list (l.map λ x=>c.box (x,pr x))),.val (.int ((l.map λ x=>c.L x).sum)),.un,.un]) _) _) _=_;rw [s2,Nk,Nk];show NB (NB (NB (aG [c.d,c.s q]) _) _) _=_;rw [s3];rfl
end
theorem eO {α β:Type} {o:Option α} {k:α->Option β} {x:α} {r:Option β} (h:o=some x) (h2:k x=r):o.bind k=r:=by
 rw [h]; exact h2
theorem L9 {o:Nh->Option Nh} {f:En->Option Nh} {η:En} {x d:Nh} (h1:f η=some x) (h2:o x=some d):l1 o f η=some d:=by
 unfold l1;rw [h1]; exact h2
theorem ifN {c:En->Option Bool} {f:En->Option Out} {η:En} (h:c η=some false):sIf c f sNx η=some (.nx η):=by
 rw [ifF h]; rfl
theorem Bf {f:En->Option Bool} {η:En} {b:Bool} (h:f η=some b):zu f η=some (!b):=by
 unfold zu;rw [h]; rfl
theorem IZ {f g:En->Option Bool} {η:En} {a b:Bool} (h1:f η=some a) (h2:g η=some b):E8 f g η=some (a&&b):=by
 unfold E8;rw [h1];cases a with
 | false=>rfl
 | true=>exact h2
theorem Hu {f:En->Option Nh} {η:En} {b:Bool} (h:f η=some (.bool b)):Hv f η=some (.bool (!b)):=by
 unfold Hv;rw [h]; rfl
theorem Hw {f g:En->Option Nh} {η:En} {a b:Bool} (h1:f η=some (.bool a)) (h2:g η=some (.bool b)):Hx f g η=some (.bool (a&&b)):=by
 unfold Hx;rw [h1];cases a with
 | false=>rfl
 | true=>exact h2
theorem Gw {f g h:En->Option Nh} {η:En} {i j k:Int} (hf:f η=some (.int i)) (hg:g η=some (.int j)) (hh:h η=some (.int k)):lch pLe pLt f g h η=some (.bool (decide (i<=j)&&decide (j < k))):=by
 have e1:pLe (.int i) (.int j)=some (.bool (decide (i<=j))):=rfl;have e2:pLt (.int j) (.int k)=some (.bool (decide (j < k))):=rfl;unfold lch;rw [hf,Nk,hg,Nk,e1,Nk];show (if decide (i<=j)=true then (h η).bind λ w=>pLt (.int j) w else some (.bool false))=_;cases decide (i<=j) with
 | false=>rfl
 | true=>rw [if_pos rfl,hh,Nk,e2]; rfl
theorem kn {n m:Nat} {g:En->Option Out} {ds:List Nh} {d:Nh} (hl:ds.length=n) (h:g (ds.map Sl.val++NV (m - n) .un)=some (.rt d)):cJ n m g ds=some d:=by
 unfold cJ;rw [if_pos hl,h]; rfl
theorem lW {f:En->Option Nh} {η:En} {d:Nh} (h:f η=some d):hJ f η=some (.rt d):=by
 unfold hJ;rw [h]; rfl
theorem lq {ι:Type} {t:En->Nh->Option En} {f:En->Option Nh} {η:En} (D:ι->Nh) (Y:ι->Nh) (xs:List ι) (h:∀ x∈xs,∃ η1,t η (D x)=some η1/\f η1=some (Y x)):cGo t cS f η (xs.map D)=some (xs.map Y):=by
 have:=j6 (t:=t) (p:=cS) (f:=f) (η:=η) D (λ _=>true) Y xs λ x hx=>by
  obtain ⟨η1,h1,h2⟩:=h x hx;exact ⟨η1,h1,rfl,λ _=>h2⟩
 rw [show xs.filter (λ _=>true)=xs by simp] at this;exact this
theorem AB (bs:List Bool):F8 [.list (bs.map PyData.bool)]=some (.bool (bs.any id)):=by
 unfold F8 AA;dsimp only;rw [Dl]; rfl
theorem DW (i j:Int):Im [.int i,.int j]=some (.int (max i j)):=by
 show some (NS (if j > i then j else i))=_
 have:(if j > i then j else i)=max i j:=by split <;> omega
 rw [this]
theorem DV (i j:Int):Il [.int i,.int j]=some (.int (min i j)):=by
 show some (NS (if j < i then j else i))=_
 have:(if j < i then j else i)=min i j:=by split <;> omega
 rw [this]
noncomputable def inM (s m:Str):Bool:=!(Builtin.Str.occurrences m s 0 m.length 1).isEmpty
noncomputable def Sc.geo (c:Sc):Geo:=⟨c.L,c.T,c.W,c.H,λ q=>inM "c" (c.mr q),λ q=>inM "h" (c.mr q),λ q=>inM "l" (c.mr q)⟩
noncomputable def arD (a:Ar):Nh:=.tuple [.int a.1,.int a.2.1,.int a.2.2.1,.int a.2.2.2]
structure Tr (c:Sc) (ps:List Nat) (D:Nat->Prop) (pnt:List Nat):Prop where
 ok:c.Ok
 din:∀ q,D q->In ps q
 par:∀ q,D q->tG c.st q=some (K25.par ps q)
 path:∀ q,D q->wQ c.st 13 q=some (P ps q)
 up:∀ q,D q->∀ x∈P ps q,D x
 pn:FM c.st=some pnt
 pd:∀ q∈pnt,D q
 pl:pnt.length<=2000000
 ps:tY ps
theorem Mz {ps:List Nat} (q:Nat):(P ps q).length<=q:=Aw q q
theorem DY (h:Nat->Bool):∀ l:List Nat,(!(l.map h).any id)=l.all λ x=>!h x
 | []=>rfl
 | x::r=>by
  have:=DY h r
  rw [Ny,Oz,OR,<- this];cases h x <;> simp
section
variable {c:Sc} {ps:List Nat} {D:Nat->Prop} {pnt:List Nat} (t:Tr c ps D pnt)
include t
theorem Mv {q:Nat} (hq:D q):aG [c.d,c.s q]=some (c.box (q,par ps q)):=p6 t.ok (t.par q hq)
theorem Do {q:Nat} (hq:D q):aB 13 [c.d,c.s q]=some (c.S (P ps q)):=tz t.ok 13 q _ (t.path q hq)
theorem M5 {q:Nat} (hq:D q):q<=7:=NL (t.din q hq).2 t.ps.len
theorem P_7 {q:Nat} (hq:D q):(P ps q).length<=7:=NL (Mz q) (M5 t hq)
theorem G8 {q:Nat} (hq:D q):cA [c.d,c.s q]=some (arD (c.geo.area ps q)) :=
 Ff t.ok (t.par q hq) (t.path q hq) (par ps) (λ x hx=>t.par x (t.up q hq x hx)) (by have:=P_7 t hq; omega)
theorem Fa:dJ [c.d]=some (c.S pnt):=Bm t.ok t.pn
theorem Dp {q:Nat} (hq:D q) (m:Str):aZ [c.d,c.s q,.str m]=some (.bool (inM m (c.mr q))) :=
 kn rfl (show pj aG [.val c.d,.val (c.s q),.val (.str m)]=_ from lW (ai rfl (ai (aI (ae rfl (ae rfl rfl)) (Mv t hq)) rfl rfl) rfl))
theorem Je {q:Nat} (hq:D q):eW [c.d,c.s q]=some (.bool (c.geo.shown ps q)):=by
 have e:bH [none,some 0] (lI asL (lA (aB 13) (aC (eV 0) (aC (eV 1) aN)))) (tgN 0) cS (lA aZ (aC (eV 1) (aC (eV 0) (aC (eC (.str "h")) aN)))) [.val c.d,.val (c.s q)]=some (((P ps q).map c.geo.h).map PyData.bool):=by
  refine ie (ds:=(P ps q).map c.s) (n4 (aI (ae rfl (ae rfl rfl)) (Do t hq)) rfl) (by rw [Nl]; have:=P_7 t hq; omega) ?_;rw [Oe];exact lq (η:=[.un,.val c.d]) c.s (λ x=>.bool (c.geo.h x)) (P ps q) λ x hx=>⟨[.val (c.s x),.val c.d],rfl,aI (ae rfl (ae rfl (ae rfl rfl))) (Dp t (t.up q hq x hx) "h")⟩
 have e2:=Hu (aI (ae (g:=aN) (jp e) rfl) (AB _));rw [DY] at e2;exact kn rfl (show pf (aB 13) aZ [.val c.d,.val (c.s q)]=_ from lW e2)
omit t in
theorem K7 (a b:Ar):eS [arD a,arD b]=some (arD (ovl a b)) :=
 kn rfl (show qk [.val (arD a),.val (arD b),.un,.un]=_ from
  fU (kh (aI (ae (ai rfl rfl rfl) (ae (ai rfl rfl rfl) rfl)) (DW _ _)))
   (fU (kh (aI (ae (ai rfl rfl rfl) (ae (ai rfl rfl rfl) rfl)) (DW _ _)))
    (lW (aI (ae rfl (ae rfl (ae (aI (ae (ai rfl rfl rfl) (ae (ai rfl rfl rfl) rfl)) (DV _ _)) (ae (aI (ae (ai rfl rfl rfl) (ae (ai rfl rfl rfl) rfl)) (DV _ _)) rfl)))) (bR (by simp))))))
omit t in
theorem Jf (a:Ar) (x y:Int):bF [arD a,.int x,.int y]=some (.bool (xj a x y)) :=
 kn rfl (show oh [.val (arD a),.val (.int x),.val (.int y)]=_ from
  lW (Hw (Gw (ai rfl rfl rfl) rfl (ai rfl rfl rfl)) (Gw (ai rfl rfl rfl) rfl (ai rfl rfl rfl))))
theorem Fh {x1:Sl}:∀ (l:List Nat) (w:Ar) (s3:Sl),(∀ x∈l,D x)->∃ s3',sGo (tgN 3) (sIf (bT (lA aZ (aC (eV 0) (aC (eV 3) (aC (eC (.str "c")) aN))))) (f6 2 (lA eS (aC (eV 2) (aC (lA cA (aC (eV 0) (aC (eV 3) aN))) aN)))) sNx)
  (l.map c.s) [.val c.d,x1,.val (arD w),s3]=some (.nx [.val c.d,x1,.val (arD (Cz c.geo ps l w)),s3'])
 | [],w,s3,_=>⟨s3,rfl⟩
 | x::r,w,s3,h=>by
  have hx:=h x NJ;obtain ⟨s3',ih⟩:=Fh r (if c.geo.c x=true then ovl w (c.geo.area ps x) else w) (.val (c.s x)) λ y hy=>h y (NA _ hy);refine ⟨s3',?_⟩;rw [Ny];unfold sGo Cz;have eb:bT (lA aZ (aC (eV 0) (aC (eV 3) (aC (eC (.str "c")) aN)))) [.val c.d,x1,.val (arD w),.val (c.s x)]=some (c.geo.c x):=dr (aI (ae rfl (ae rfl (ae rfl rfl))) (Dp t hx "c"));show NB (sIf _ _ _ [.val c.d,x1,.val (arD w),.val (c.s x)]) _=_;have e1:sIf (bT (lA aZ (aC (eV 0) (aC (eV 3) (aC (eC (.str "c")) aN))))) (f6 2 (lA eS (aC (eV 2) (aC (lA cA (aC (eV 0) (aC (eV 3) aN))) aN)))) sNx [.val c.d,x1,.val (arD w),.val (c.s x)]
    = some (.nx [.val c.d,x1,.val (arD (if c.geo.c x=true then ovl w (c.geo.area ps x) else w)),.val (c.s x)]):=by
   rw [zU eb];cases c.geo.c x with
   | false=>rfl
   | true =>
    rw [if_pos rfl,if_pos rfl];exact kh (aI (ae rfl (ae (aI (ae rfl (ae rfl rfl)) (G8 t hx)) rfl)) (K7 w _))
  rw [e1,Nk];exact ih
theorem G6 {q:Nat} (hq:D q):dQ [c.d,c.s q]=some (arD (c.geo.wnd ps q)):=by
 obtain ⟨s3,e⟩:=Fh t (x1:=.val (c.s q)) (P ps q) (c.geo.area ps q) .un λ x hx=>t.up q hq x hx;exact kn rfl (show og cA (aB 13) aZ eS [.val c.d,.val (c.s q),.un,.un]=_ from
  fU (kh (aI (ae rfl (ae rfl rfl)) (G8 t hq))) (fU (wg (n4 (aI (ae rfl (ae rfl rfl)) (Do t hq)) rfl) e) (lW rfl)))
omit t in
noncomputable def tkD (c:Sc) (ps:List Nat) (q:Nat):Nh:=.tuple [c.s q,arD (c.geo.wnd ps q)]
theorem C4 {q:Nat} (h:q∈pnt.reverse.filter (c.geo.shown ps)):D q:=t.pd q (Pk.mp (NU.mp h).1)
theorem Fq {q:Nat} (h:q∈tkL c.geo ps pnt):D q:=C4 t (NU.mp h).1
theorem G7:ja [c.d]=some (.list ((tkL c.geo ps pnt).map (tkD c ps))):=by
 have hk:pnt.length<=3000000:=NL t.pl (by decide);have e1:bH [none,some 0] (λ η=>((aC (lA dJ (aC (eV 0) aN)) aN) η).bind rvS) (tgN 0) (bT (lA eW (aC (eV 1) (aC (eV 0) aN)))) (eV 0) [.val c.d,.un]=some ((pnt.reverse.filter (c.geo.shown ps)).map c.s):=by
  refine ie (ds:=pnt.reverse.map c.s) ?_ (by rw [Nl,Ot]; exact hk) ?_
  ·refine eO (ae (aI (ae rfl rfl) (Fa t)) rfl) ?_;show some ((List.map c.s _).reverse)=_;rw [Pl]
  ·exact j6 (η:=[.un,.val c.d]) c.s (c.geo.shown ps) c.s _ λ x hx=>⟨[.val (c.s x),.val c.d],rfl,dr (aI (ae rfl (ae rfl rfl)) (Je t (t.pd x (Pk.mp hx)))),λ _=>rfl⟩
 have e2:bH [none,some 0] (lI asL (eV 1)) (tgN 0) (zu (bT (lA aZ (aC (eV 1) (aC (eV 0) (aC (eC (.str "l")) aN)))))) (lA (λ ds=>if ds.length<=No then some (.tuple ds) else none) (aC (eV 0) (aC (lA dQ (aC (eV 1) (aC (eV 0) aN))) aN)))
   [.val c.d,.val (.list ((pnt.reverse.filter (c.geo.shown ps)).map c.s))]=some ((tkL c.geo ps pnt).map (tkD c ps)):=by
  refine ie (ds:=(pnt.reverse.filter (c.geo.shown ps)).map c.s) (n4 rfl rfl) ?_ ?_
  ·rw [Nl];refine NL (OA ..) ?_;rw [Ot]; exact hk
  ·exact j6 (η:=[.un,.val c.d]) c.s (λ q=>!c.geo.l q) (tkD c ps) _ λ x hx=>⟨[.val (c.s x),.val c.d],rfl,Bf (dr (aI (ae rfl (ae rfl (ae rfl rfl))) (Dp t (C4 t hx) "l"))),λ _=>aI (ae rfl (ae (aI (ae rfl (ae rfl rfl)) (G6 t (C4 t hx))) rfl)) (bR (by simp))⟩
 exact kn rfl (show sB dJ eW aZ dQ [.val c.d,.un]=_ from fU (xu e1) (lW (jp e2)))
omit t in
noncomputable def hdD (c:Sc):List Nat->Nh
 | []=>.none
 | q::_=>c.s q
theorem B5 (x y:Int) {x0:Sl}:∀ (l:List Nat) (s3 s4:Sl),(∀ q∈l,D q) ->
  (l.filter (c.geo.tch ps x y)=[]->∃ s3' s4',sGo (tgT (aX (tgN 3) (aX (tgN 4) gX))) (sIf (bT (lA bF (aC (eV 4) (aC (eV 1) (aC (eV 2) aN))))) (hJ (eV 3)) sNx) (l.map (tkD c ps)) [x0,.val (.int x),.val (.int y),s3,s4]=some (.nx [x0,.val (.int x),.val (.int y),s3',s4']))
  /\ (∀ q r,l.filter (c.geo.tch ps x y)=q::r->sGo (tgT (aX (tgN 3) (aX (tgN 4) gX))) (sIf (bT (lA bF (aC (eV 4) (aC (eV 1) (aC (eV 2) aN))))) (hJ (eV 3)) sNx) (l.map (tkD c ps)) [x0,.val (.int x),.val (.int y),s3,s4]=some (.rt (c.s q)))
 | [],s3,s4,_=>⟨λ _=>⟨s3,s4,rfl⟩,λ q r e=>by cases e⟩
 | p::l,s3,s4,h=>by
  have hp:=h p NJ;have ih:=B5 x y (x0:=x0) l (.val (c.s p)) (.val (arD (c.geo.wnd ps p))) λ q hq=>h q (NA _ hq);have eb:bT (lA bF (aC (eV 4) (aC (eV 1) (aC (eV 2) aN)))) [x0,.val (.int x),.val (.int y),.val (c.s p),.val (arD (c.geo.wnd ps p))]=some (c.geo.tch ps x y p):=by
   rw [<- Hq t.ps (t.din p hp).1];exact dr (aI (ae rfl (ae rfl (ae rfl rfl))) (Jf _ x y))
  have es:sGo (tgT (aX (tgN 3) (aX (tgN 4) gX))) (sIf (bT (lA bF (aC (eV 4) (aC (eV 1) (aC (eV 2) aN))))) (hJ (eV 3)) sNx) ((p::l).map (tkD c ps)) [x0,.val (.int x),.val (.int y),s3,s4]
    = if c.geo.tch ps x y p=true then some (.rt (c.s p)) else sGo (tgT (aX (tgN 3) (aX (tgN 4) gX))) (sIf (bT (lA bF (aC (eV 4) (aC (eV 1) (aC (eV 2) aN))))) (hJ (eV 3)) sNx) (l.map (tkD c ps)) [x0,.val (.int x),.val (.int y),.val (c.s p),.val (arD (c.geo.wnd ps p))]:=by
   rw [Ny]
   conv=>lhs; unfold sGo
   show NB (sIf _ _ _ [x0,.val (.int x),.val (.int y),.val (c.s p),.val (arD (c.geo.wnd ps p))]) _=_;rw [zU eb];cases c.geo.tch ps x y p <;> rfl
  rw [es,Om];cases c.geo.tch ps x y p with
  | false =>
   rw [if_neg NE,if_neg NE];exact ih
  | true =>
   rw [if_pos rfl,if_pos rfl];exact ⟨λ e=>(by cases e),λ q r e=>(by cases e; rfl)⟩
theorem Jg (x y:Int):gN [.list ((tkL c.geo ps pnt).map (tkD c ps)),.int x,.int y]=some (hdD c (yw c.geo ps pnt x y)):=by
 have:=B5 t x y (x0:=.val (.list ((tkL c.geo ps pnt).map (tkD c ps)))) (tkL c.geo ps pnt) .un .un λ q hq=>Fq t hq
 have eh:yw c.geo ps pnt x y=(tkL c.geo ps pnt).filter (c.geo.tch ps x y):=rfl;rw [eh];cases hh:(tkL c.geo ps pnt).filter (c.geo.tch ps x y) with
 | nil =>
  obtain ⟨s3,s4,e⟩:=this.1 hh;exact kn rfl (show jI bF [.val (.list ((tkL c.geo ps pnt).map (tkD c ps))),.val (.int x),.val (.int y),.un,.un]=_ from fU (wg (n4 rfl rfl) e) (lW rfl))
 | cons q r =>
  have e:=this.2 q r hh;refine kn rfl (show jI bF [.val (.list ((tkL c.geo ps pnt).map (tkD c ps))),.val (.int x),.val (.int y),.un,.un]=_ from ?_);unfold jI cP;rw [wg (r:=some (.rt (c.s q))) (n4 rfl rfl) e];rfl
end
noncomputable def kD (c:Sc):Option Nat->Nh
 | some x=>c.s x
 | none=>.none
noncomputable def oL (c:Sc):Option (List Nat)->Nh
 | some l=>c.S l
 | none=>.none
structure Hd where
 trail:List Nat
 pr:Option (List Nat)
 held:Option Nat
 clk:Option Nat
 mom:Int
 dbl:Bool
noncomputable def hd0:Hd:=⟨[],none,none,none,0,false⟩
noncomputable def hf (c:Sc) (h:Hd):List (Str×D):=[("trail", .d (c.S h.trail)),("pressed_at", .d (oL c h.pr)),("held_by", .d (kD c h.held)),("clicked", .d (kD c h.clk)),("clicked_moment", .d (.int h.mom)),("was_double", .d (.bool h.dbl))]
noncomputable abbrev Ho (c:Sc) (s:Sto) (m:Nat) (h:Hd):Prop:=s[m]?=some (.obj 0 (hf c h))
noncomputable def rD (c:Sc) (r:Str×Nat):Nh:=.tuple [.str r.1,c.s r.2]
noncomputable def Rw (c:Sc) (l:List (Str×Nat)):Nh:=.list (l.map (rD c))
noncomputable def shN:List Nat->List Nat->List Nat
 | x::xs,y::ys=>if x=y then x::shN xs ys else []
 | _,_=>[]
theorem AW {w:Wd} {i m k:Nat} {fs:List (Str×D)} {f:Str} {x:Nh} (h1:w.η[i]?=some (some (.r m))) (h2:w.s[m]?=some (.obj k fs)) (h3:fs.lookup f=some (.d x)):gj i f (vw w)=some x:=by
 unfold gj vw;rw [NG,h1];show (match some (vwS (pD w.s) w.s (some (.r m))) with | some (.ob fs)=>fs f | _=>none)=_;rw [Af h2];show (fs.lookup f).bind (pD w.s)=_;rw [h3]; rfl
theorem JL {c:Sc} {l m:List (Str×Nat)} (hl:l.length<=1000) (hm:m.length<=1000):aM (Rw c l) (Rw c m)=some (Rw c (l++m)):=by
 unfold aM Rw;dsimp only;rw [if_pos (by rw [Nl,Nl]; exact big (by omega)),<- N4]
theorem GQ {α:Type} (xs:List α) (k:Nat):vH xs (some (k:Int)) none=xs.drop k:=by
 unfold vH;rw [HT.sIx_nat,HT.sIx_none];rcases Nat.le_total k xs.length with h | h
 ·rw [Nat.min_eq_left h];exact Pm (by rw [Oj]; omega)
 ·rw [Nat.min_eq_right h,List.drop_eq_nil_of_le (Np _),List.drop_eq_nil_of_le h,List.take_nil]
theorem GH {c:Sc} (l:List Nat) (k:Nat):pSl (c.S l) (some (k:Int)) none=some (c.S (l.drop k)):=by
 show some (PyData.list _)=_;rw [Ei,GQ]; rfl
theorem Kz {c:Sc} (l:List Nat):pSl (c.S l) (some (-1)) none=some (c.S (l.drop (l.length - 1))):=by
 show some (PyData.list (vH (l.map c.s) (some (-1)) none))=_;rw [Ei]
 have:vH l (some (-1)) none=l.drop (l.length - 1):=by
  unfold vH;rw [HT.sIx_none];have e:HT.sIx l.length 0 (some (-1))=l.length - 1:=by
   unfold HT.sIx
   first | (dsimp only; split <;> omega) | (dsimp only; omega) | (simp; omega) | skip
  rw [e];exact Pm (by rw [Oj]; omega)
 rw [this]; rfl
section
variable {c:Sc} (h:c.Ok)
include h
theorem nes (a b:Nat):pNe (c.s a) (c.s b)=some (.bool (!decide (a=b))):=by
 have:=DU (h.ok a) (h.ok b)
 rw [h.dec] at this;exact this
theorem Jv {A B:Sl}:∀ (a b acc:List Nat) (s3 s4:Sl),acc.length+a.length<=1000->∃ s3' s4',sGo (tgT (aX (tgN 3) (aX (tgN 4) gX))) (cP (sIf (bT (l2 pNe (eV 3) (eV 4))) sBk sNx) (FB 2 (eV 3))) (zpD (a.map c.s) (b.map c.s)) [A,B,.own (acc.map c.s),s3,s4]=some (.nx [A,B,.own ((acc++shN a b).map c.s),s3',s4'])
 | [],b,acc,s3,s4,_=>⟨s3,s4,by simp [zpD,sGo,shN]⟩
 | x::xs,[],acc,s3,s4,_=>⟨s3,s4,by simp [zpD,sGo,shN]⟩
 | x::xs,y::ys,acc,s3,s4,hl=>by
  rw [Ny,Ny,zpD];unfold sGo shN;show ∃ s3' s4',NB (some [A,B,.own (acc.map c.s),.val (c.s x),.val (c.s y)]) _=_;by_cases e:x=y
  ·subst e;obtain ⟨s3',s4',ih⟩:=Jv xs ys (acc++[x]) (.val (c.s x)) (.val (c.s x)) (by rw [Nn]; simp at hl ⊢; omega);refine ⟨s3',s4',?_⟩;have hne:=nes h x x;rw [decide_eq_true rfl] at hne;have hb:cP (sIf (bT (l2 pNe (eV 3) (eV 4))) sBk sNx) (FB 2 (eV 3)) [A,B,.own (acc.map c.s),.val (c.s x),.val (c.s x)]=some (.nx [A,B,.own ((acc++[x]).map c.s),.val (c.s x),.val (c.s x)]):=by
    refine fU (η1:=[A,B,.own (acc.map c.s),.val (c.s x),.val (c.s x)]) (ifN (dr (ai rfl rfl hne))) ?_;show (if (acc.map c.s).length < No then some (Out.nx [A,B,.own (acc.map c.s++[c.s x]),.val (c.s x),.val (c.s x)]) else none)=_;rw [if_pos (NK (show (acc.map c.s).length < 1001 by rw [Nl]; omega) (big (by decide))),N4]; rfl
   rw [Nk,hb,Nk,if_pos rfl];dsimp only;rw [ih]
   simp
  ·refine ⟨.val (c.s x),.val (c.s y),?_⟩;have hne:=nes h x y;rw [decide_eq_false e] at hne;have hb:cP (sIf (bT (l2 pNe (eV 3) (eV 4))) sBk sNx) (FB 2 (eV 3)) [A,B,.own (acc.map c.s),.val (c.s x),.val (c.s y)]=some (.bk [A,B,.own (acc.map c.s),.val (c.s x),.val (c.s y)]):=by
    unfold cP;rw [zU (b:=true) (dr (ai rfl rfl hne)),if_pos rfl]; rfl
   rw [Nk,hb,Nk,if_neg e]
   simp
theorem Nc {a b:List Nat} (ha:a.length<=1000):jb [c.S a,c.S b]=some (c.S (shN a b)):=by
 obtain ⟨s3,s4,e⟩:=Jv h (A:=.val (c.S a)) (B:=.val (c.S b)) a b [] .un .un (by simpa using ha);refine kn rfl (show sC [.val (c.S a),.val (c.S b),.un,.un,.un]=_ from ?_);refine fU (η1:=[.val (c.S a),.val (c.S b),.own [],.un,.un]) (xu (eO rfl (ou (by simp)))) (fU (η1:=[.val (c.S a),.val (c.S b),.own ((shN a b).map c.s),s3,s4]) (wg (eO rfl rfl) ?_) rfl);simpa using e
end
noncomputable def wr (w:Str) (l:List Nat):List (Str×Nat):=l.map λ x=>(w,x)
noncomputable def lead (h:Hd) (p:List Nat):List (Str×Nat):=wr "leave" (h.trail.drop (shN h.trail p).length).reverse++wr "enter" (p.drop (shN h.trail p).length)
noncomputable def tell (h:Hd) (w:Str):List (Str×Nat):=match h.held with | some x=>[(w,x)] | none=>[]
theorem Ho.set {c:Sc} {s:Sto} {m:Nat} {h:Hd} (hc:Ho c s m h) (h':Hd):Ho c (s.set m (.obj 0 (hf c h'))) m h':=Nz (Nr.mp hc).1
theorem JV (w:Str) {c:Sc} (x:Nat) (η:En) (h:eV 0 η=some (c.s x)):lA (λ ds=>if ds.length<=No then some (.tuple ds) else none) (aC (eC (.str w)) (aC (eV 0) aN)) η=some (rD c (w,x)) :=
 aI (ae rfl (ae h rfl)) (bR (by simp))
section
variable {c:Sc} {s:Sto} {m:Nat} {h:Hd}
theorem Ld (ok:c.Ok) (hc:Ho c s m h) {p:List Nat} (ht:h.trail.length<=1000) (hp:p.length<=1000):eG [.r m,.d (c.S p)] s=some (.d (Rw c (lead h p)),s.set m (.obj 0 (hf c { h with trail:=p }))):=by
 refine fQ rfl (show mU jb ⟨[some (.r m),some (.d (c.S p)),none,none],s⟩=_ from ?_);have ft:∀ (x2 x3:Option D),gj 0 "trail" (vw ⟨[some (.r m),some (.d (c.S p)),x2,x3],s⟩)=some (c.S h.trail):=λ x2 x3=>AW rfl hc rfl;refine am (w1:=⟨[some (.r m),some (.d (c.S p)),some (.d (.int ((shN h.trail p).length:Nat))),none],s⟩) (aO (aj (aI (ae (aI (ae (ft _ _) (ae rfl rfl)) (Nc ok ht)) rfl) ?_))) ?_
 ·show some (NS (((shN h.trail p).map c.s).length:Nat))=_;rw [Nl]
 have e3:bH [none] (λ η=>((aC (eSl (gj 0 "trail") (pS (eV 2)) pN) aN) η).bind rvS) (tgN 0) cS (lA (λ ds=>if ds.length<=No then some (.tuple ds) else none) (aC (eC (.str "leave")) (aC (eV 0) aN))) (vw ⟨[some (.r m),some (.d (c.S p)),some (.d (.int ((shN h.trail p).length:Nat))),none],s⟩)=some ((wr "leave" (h.trail.drop (shN h.trail p).length).reverse).map (rD c)):=by
  refine ie (ds:=(h.trail.drop (shN h.trail p).length).reverse.map c.s) (eO (ae (yE (ft _ _) (zK rfl) rfl (GH _ _)) rfl) ?_) (by rw [Nl,Ot,Oj]; omega) ?_
  ·show some ((h.trail.drop (shN h.trail p).length).map c.s).reverse=_;rw [Pl]
  ·unfold wr;rw [Oe];exact lq (η:=[.un]) c.s (λ x=>rD c ("leave", x)) _ λ x hx=>⟨[.val (c.s x)],rfl,JV "leave" x _ rfl⟩
 refine am (w1:=⟨[some (.r m),some (.d (c.S p)),some (.d (.int ((shN h.trail p).length:Nat))),some (.d (Rw c (wr "leave" (h.trail.drop (shN h.trail p).length).reverse)))],s⟩) (aO (L8 e3)) ?_;refine am (w1:=⟨[some (.r m),some (.d (c.S p)),some (.d (.int ((shN h.trail p).length:Nat))),some (.d (Rw c (wr "leave" (h.trail.drop (shN h.trail p).length).reverse)))],s.set m (.obj 0 (hf c { h with trail:=p }))⟩) ?_ (cM (aj ?_))
 ·rw [kX (d:=.d (c.S p)) (n:=m) (fs:=hf c h) (aj (aI (ae rfl rfl) rfl)) rfl hc (by simp [hf])];rfl
 ·refine ai rfl (jp (ie (ds:=(p.drop (shN h.trail p).length).map c.s) (n4 (yE rfl (zK rfl) rfl (GH _ _)) rfl) (by rw [Nl,Oj]; omega) ?_)) (JL (l:=wr "leave" (h.trail.drop (shN h.trail p).length).reverse) (m:=wr "enter" (p.drop (shN h.trail p).length)) (by unfold wr; rw [Nl,Ot,Oj]; omega) (by unfold wr; rw [Nl,Oj]; omega));unfold wr;rw [Oe];exact lq (η:=[.un]) c.s (λ x=>rD c ("enter", x)) _ λ x hx=>⟨[.val (c.s x)],rfl,JV "enter" x _ rfl⟩
theorem Lc (hc:Ho c s m h) (w:Str):a9 [.r m,.d (.str w)] s=some (.r s.length,s++[.lst ((tell h w).map λ r=>D.d (rD c r))]):=by
 refine fQ rfl (show hU ⟨[some (.r m),some (.d (.str w))],s⟩=_ from cM ?_);have fh:gj 0 "held_by" (vw ⟨[some (.r m),some (.d (.str w))],s⟩)=some (kD c h.held):=AW rfl hc rfl;unfold Kv tell;cases hh:h.held with
 | none =>
  rw [hh] at fh;rw [eY (b:=true) (dr (ai fh rfl rfl)),Nk,if_pos rfl];rfl
 | some x =>
  rw [hh] at fh;rw [eY (b:=false) (dr (ai fh rfl rfl)),Nk,if_neg NE];unfold mN;have e:aC (lA (λ ds=>if ds.length<=No then some (.tuple ds) else none) (aC (eV 1) (aC (gj 0 "held_by") aN))) aN (vw ⟨[some (.r m),some (.d (.str w))],s⟩)=some [rD c (w,x)]:=ae (aI (ae rfl (ae fh rfl)) (bR (by simp))) rfl;show NB (NB (aC _ aN _) gL) _=_;rw [e,Nk,ou (by simp)];rfl
end
noncomputable def nf (c:Sc) (kd:Nat):List (Str×D):=[("scene", .d c.d),("known", .r kd)]
noncomputable def Bd (h:Hd):Prop:=h.trail.length<=7/\∀ q,h.pr=some q->q.length<=7
noncomputable def Ky (kvs:List (Key×D)):Prop:=∃ ns:List Int,keyIs' kvs=some ns/\ns.Nodup
theorem IB {kvs:List (Key×D)} {k:Key}:bI kvs k=none↔k∉kvs.map (·.1):=by
 induction kvs with
 | nil=>simp [bI]
 | cons e r ih =>
  by_cases h:e.1=k
  ·simp [bI,h]
  ·have h':¬ k=e.1:=λ z=>h z.symm;simp only [bI,OD,h,decide_false,Ny,NO,h',false_or] at ih ⊢;exact ih
theorem zQ {j:Int} {d:D}:∀ {kvs:List (Key×D)} {ns:List Int},keyIs' kvs=some ns->keyIs' (kvs++[(.inl j,d)])=some (ns++[j])
 | [],_,h=>by cases h; rfl
 | (.inl n,_)::r,_,h=>by
  obtain ⟨l,h1,h2⟩:=ab h;cases h2;show (keyIs' (r++[(.inl j,d)])).bind _=_;rw [zQ h1]; rfl
 | (.inr _,_)::r,_,h=>by cases h
theorem Ky.look {kvs:List (Key×D)} {ns:List Int} (h:keyIs' kvs=some ns) (j:Int):bI kvs (.inl j)=none↔j∉ns:=by
 rw [IB,uL h]
 simp
theorem Ky.app {kvs:List (Key×D)} (h:Ky kvs) {j:Int} {d:D} (hj:bI kvs (.inl j)=none):Ky (kvs++[(.inl j,d)]):=by
 obtain ⟨ns,h1,h2⟩:=h;refine ⟨ns++[j],zQ h1,?_⟩;rw [O3];refine ⟨h2,by simp,λ a ha b hb e=>?_⟩;rw [NF.mp hb] at e;exact (Ky.look h1 j).mp hj (e ▸ ha)
structure HOk (c:Sc) (s:Sto) (n kd:Nat) (kvs:List (Key×D)) (K:Int->Hd):Prop where
 ob:s[n]?=some (.obj 1 (nf c kd))
 dc:s[kd]?=some (.dct kvs)
 dflt:∀ j:Int,bI kvs (.inl j)=none->K j=hd0
 hand:∀ (j:Int) d,bI kvs (.inl j)=some d->∃ m,d=.r m/\Ho c s m (K j)
 inj:∀ (j j':Int) m,bI kvs (.inl j)=some (.r m)->bI kvs (.inl j')=some (.r m)->j=j'
 bd:∀ j,Bd (K j)
 ky:Ky kvs
noncomputable def Own (n kd:Nat) (kvs:List (Key×D)) (i:Nat):Prop:=i=n\/i=kd\/∃ j:Int,bI kvs (.inl j)=some (.r i)
structure Stp (s s':Sto) (O O':Nat->Prop):Prop where
 len:s.length<=s'.length
 kp:∀ i,i < s.length->¬ O i->s'[i]?=s[i]?
 ow:∀ i,O' i->O i\/s.length<=i
noncomputable def upK (K:Int->Hd) (j:Int) (h:Hd):Int->Hd:=λ i=>if i=j then h else K i
theorem cB {s:Sto} {i:Nat} {x:Cell} (h:s[i]?=some x):i < s.length:=(Nr.mp h).1
theorem Stp.trans {s s1 s2:Sto} {O O1 O2:Nat->Prop} (a:Stp s s1 O O1) (b:Stp s1 s2 O1 O2):Stp s s2 O O2:=⟨NL a.len b.len,λ i hi ho=>by
 have n1:¬ O1 i:=λ z=>by
  rcases a.ow i z with y | y
  ·exact ho y
  ·omega
 rw [b.kp i (NK hi a.len) n1,a.kp i hi ho],λ i h=>by
 rcases b.ow i h with y | y
 ·exact a.ow i y
 ·exact .inr (NL a.len y)⟩
section
variable {c:Sc} {s:Sto} {n kd:Nat} {kvs:List (Key×D)} {K:Int->Hd}
theorem HOk.lt (H:HOk c s n kd kvs K) {i:Nat} (h:Own n kd kvs i):i < s.length:=by
 rcases h with rfl | rfl | ⟨j,hj⟩
 ·exact cB H.ob
 ·exact cB H.dc
 ·obtain ⟨m,e,hm⟩:=H.hand j _ hj;cases e;exact cB hm
theorem HOk.frame (H:HOk c s n kd kvs K) {s':Sto} (hk:∀ i,Own n kd kvs i->s'[i]?=s[i]?):HOk c s' n kd kvs K where
 ob:=(hk n (.inl rfl)).trans H.ob
 dc:=(hk kd (.inr (.inl rfl))).trans H.dc
 dflt:=H.dflt
 hand:=λ j d h=>by
  obtain ⟨m,rfl,hm⟩:=H.hand j d h;exact ⟨m,rfl,(hk m (.inr (.inr ⟨j,h⟩))).trans hm⟩
 inj:=H.inj
 bd:=H.bd
 ky:=H.ky
theorem HOk.app (H:HOk c s n kd kvs K) (t:Sto):HOk c (s++t) n kd kvs K:=H.frame λ i hi=>Nm (H.lt hi)
theorem Dz {O:Nat->Prop} (t:Sto):Stp s (s++t) O O:=⟨by rw [Nn]; omega,λ i hi _=>Nm hi,λ _ h=>.inl h⟩
theorem HD {O:Nat->Prop} {i:Nat} {x:Cell} (h:O i):Stp s (s.set i x) O O:=⟨by rw [NC]; exact Np _,λ k _ hk=>Nj (by intro e; exact hk (by rw [<- e]; exact h)),λ _ h=>.inl h⟩
theorem HOk.put (H:HOk c s n kd kvs K) {j:Int} {m:Nat} (hj:bI kvs (.inl j)=some (.r m)) {h':Hd} (hb:Bd h'):HOk c (s.set m (.obj 0 (hf c h'))) n kd kvs (upK K j h'):=by
 obtain ⟨m',e,hm⟩:=H.hand j _ hj;cases e;have hn:m≠n:=λ e=>by have:=H.ob; rw [<- e] at this; rw [hm] at this; cases this
 have hk:m≠kd:=λ e=>by have:=H.dc; rw [<- e] at this; rw [hm] at this; cases this
 refine ⟨by rw [Nj hn]; exact H.ob,by rw [Nj hk]; exact H.dc,λ i hi=>?_,λ i d hi=>?_,H.inj,λ i=>?_,H.ky⟩
 ·unfold upK;rw [if_neg (λ e=>by rw [e,hj] at hi; cases hi)];exact H.dflt i hi
 ·obtain ⟨mi,rfl,hmi⟩:=H.hand i d hi;refine ⟨mi,rfl,?_⟩;unfold upK;by_cases e:i=j
  ·subst e;rw [hj] at hi;cases hi;rw [if_pos rfl];exact hm.set h'
  ·rw [if_neg e];unfold Ho;rw [Nj λ z=>e (H.inj i j mi hi (by rw [<- z]; exact hj))];exact hmi
 ·unfold upK
  split
  ·exact hb
  ·exact H.bd i
theorem Gs (kvs:List (Key×D)) (k k':Key) (d:D):bI (kvs++[(k,d)]) k'=match bI kvs k' with | some x=>some x | none=>if k=k' then some d else none:=by
 unfold bI;rw [List.find?_append];cases kvs.find? λ kv=>decide (kv.1=k') with
 | some x=>rfl
 | none =>
  by_cases e:k=k'
  ·simp [e]
  ·simp [e]
theorem Jn (c:Sc) (s0:Sto):cv [.r s0.length] (s0++[.obj 0 []])=some (.d .none,s0++[.obj 0 (hf c hd0)]):=by
 have st:∀ c c':Cell,(s0++[c]).set s0.length c'=s0++[c']:=λ c c'=>by rw [OB _ _ (Np _),N5]; rfl
 have ge:∀ c:Cell,(s0++[c])[s0.length]?=some c:=λ c=>by rw [Nt (Np _),N5]; rfl
 have p:∀ (f:Str) (e:En->Option Nh) (x:Nh) (fs:List (Str×D)),e (vw ⟨[some (.r s0.length)],s0++[.obj 0 fs]⟩)=some x->fs.length < 999->kJ 0 f (mV 0) (mP e) ⟨[some (.r s0.length)],s0++[.obj 0 fs]⟩=some (.nx ⟨[some (.r s0.length)],s0++[.obj 0 (wP f (.d x) fs)]⟩):=λ f e x fs he hl=>by
  rw [kX (d:=.d x) (n:=s0.length) (fs:=fs) (aj he) rfl (ge _) hl];dsimp only;rw [st]
 show cg 1 1 gP [.r s0.length] (s0++[.obj 0 []])=_;refine rR (w1:=⟨[some (.r s0.length)],s0++[.obj 0 (hf c hd0)]⟩) rfl ?_;show gP ⟨[some (.r s0.length)],s0++[.obj 0 []]⟩=_;refine am (p _ _ (.list []) _ (jp (eO rfl (ou (by simp)))) (by simp)) ?_;refine am (p _ _ .none _ rfl (by decide +kernel)) ?_;refine am (p _ _ .none _ rfl (by decide +kernel)) ?_;refine am (p _ _ .none _ rfl (by decide +kernel)) ?_;refine am (p _ _ (.int 0) _ rfl (by decide +kernel)) ?_;rw [p _ _ (.bool false) _ rfl (by decide +kernel)];rfl
theorem Lh (H:HOk c s n kd kvs K) (hl:kvs.length < 1000) (j:Int):∃ s' m kvs',bC [.r n,.d (.int j)] s=some (.r m,s')/\HOk c s' n kd kvs' K/\bI kvs' (.inl j)=some (.r m)/\Stp s s' (Own n kd kvs) (Own n kd kvs')/\kvs'.length<=kvs.length+1:=by
 have em:rT 0 cv maN ⟨[some (.r n),some (.d (.int j))],s⟩=some (.r s.length,s++[.obj 0 (hf c hd0)]):=rS bq (Jn c s);have hdc:(s++[Cell.obj 0 (hf c hd0)])[kd]?=some (.dct kvs):=by rw [Nm (cB H.dc)]; exact H.dc
 have e0:rW (mV 0) "known" ⟨[some (.r n),some (.d (.int j))],s⟩=some (.r kd,s):=by
  unfold rW;show NB (some (D.r n,s)) _=_;rw [Nk];dsimp only;rw [H.ob];rfl
 have run:∀ d s',(match bI kvs (.inl j) with | some d=>some (d,s++[Cell.obj 0 (hf c hd0)]) | none=>if kvs.length < No then some (D.r s.length,(s++[Cell.obj 0 (hf c hd0)]).set kd (.dct (kvs++[(.inl j,.r s.length)]))) else none)=some (d,s')->bC [.r n,.d (.int j)] s=some (d,s'):=λ d s' h=>by
  refine fQ rfl (show jv cv ⟨[some (.r n),some (.d (.int j))],s⟩=_ from cM ?_);unfold Go;rw [e0,Nk];dsimp only;rw [H.dc];dsimp only;rw [show mP (eV 1) (⟨[some (.r n),some (.d (.int j))],s⟩:Wd)=some (.d (.int j),s) from aj rfl,Nk];dsimp only;show NB (some (Sum.inl j)) _=_;rw [Nk,em,Nk];dsimp only;rw [hdc];exact h
 cases hj:bI kvs (.inl j) with
 | some d =>
  obtain ⟨m,rfl,hm⟩:=H.hand j d hj;exact ⟨_,m,kvs,run _ _ (by rw [hj]),H.app _,hj,Dz _,Nat.le_succ _⟩
 | none =>
  have hn:n≠kd:=λ e=>by have:=H.dc; rw [<- e,H.ob] at this; cases this
  have hk:kd < s.length:=cB H.dc;have lk:∀ i:Int,bI (kvs++[(Sum.inl j,D.r s.length)]) (.inl i)=match bI kvs (.inl i) with | some x=>some x | none=>if i=j then some (.r s.length) else none:=λ i=>by
   rw [Gs];cases bI kvs (.inl i) with
   | some x=>rfl
   | none =>
    by_cases e:i=j
    ·simp [e]
    ·have:¬ (Sum.inl j:Key)=Sum.inl i:=λ z=>e (by cases z; rfl)
     simp [e,this]
  refine ⟨(s++[Cell.obj 0 (hf c hd0)]).set kd (.dct (kvs++[(.inl j,.r s.length)])),s.length,kvs++[(.inl j,.r s.length)],run _ _ ?_,?_,?_,?_,by simp⟩
  ·rw [hj];dsimp only;rw [if_pos (NK hl (big (by decide)))]
  ·refine ⟨?_,?_,λ i hi=>?_,λ i d hi=>?_,λ i i' m h1 h2=>?_,H.bd,H.ky.app hj⟩
   ·rw [Nj (Ne.symm hn),Nm (cB H.ob)]; exact H.ob
   ·exact Nz (by rw [Nn]; omega)
   ·rw [lk] at hi;cases q:bI kvs (.inl i) with
    | some x=>rw [q] at hi; cases hi
    | none=>exact H.dflt i q
   ·rw [lk] at hi;cases q:bI kvs (.inl i) with
    | some x =>
     rw [q] at hi;cases hi;obtain ⟨m,rfl,hm⟩:=H.hand i _ q;have hmk:kd≠m:=λ e=>by have:=H.dc; rw [e,hm] at this; cases this
     refine ⟨m,rfl,?_⟩;unfold Ho;rw [Nj hmk,Nm (cB hm)]; exact hm
    | none =>
     rw [q] at hi;dsimp only at hi;split at hi
     ·rename_i e;cases hi;refine ⟨s.length,rfl,?_⟩;unfold Ho;rw [Nj (NZ hk),Nt (Np _),N5,H.dflt i q]; rfl
     ·cases hi
   ·rw [lk] at h1 h2;cases q1:bI kvs (.inl i) with
    | some x =>
     rw [q1] at h1;cases h1;cases q2:bI kvs (.inl i') with
     | some x' =>
      rw [q2] at h2;cases h2;exact H.inj i i' m q1 q2
     | none =>
      rw [q2] at h2;dsimp only at h2;split at h2
      ·cases h2
       have:=H.lt (.inr (.inr ⟨i,q1⟩))
       omega
      ·cases h2
    | none =>
     rw [q1] at h1;dsimp only at h1;split at h1
     ·rename_i e1;cases h1;cases q2:bI kvs (.inl i') with
      | some x' =>
       rw [q2] at h2;cases h2
       have:=H.lt (.inr (.inr ⟨i',q2⟩))
       omega
      | none =>
       rw [q2] at h2;dsimp only at h2;split at h2
       ·rename_i e2;rw [e1,e2]
       ·cases h2
     ·cases h1
  ·rw [lk,hj]
   simp
  ·refine ⟨by rw [NC,Nn]; omega,λ i hi ho=>?_,λ i hi=>?_⟩
   ·rw [Nj (λ e=>ho (.inr (.inl e.symm))),Nm hi]
   ·rcases hi with e | e | ⟨i',hi⟩
    ·exact .inl (.inl e)
    ·exact .inl (.inr (.inl e))
    ·rw [lk] at hi;cases q:bI kvs (.inl i') with
     | some x=>rw [q] at hi; cases hi; exact .inl (.inr (.inr ⟨i',q⟩))
     | none =>
      rw [q] at hi;dsimp only at hi;split at hi
      ·cases hi; exact .inr (Np _)
      ·cases hi
end
noncomputable def hpth (ps:List Nat):List Nat->List Nat
 | []=>[]
 | q::_=>P ps q
theorem Nb {c:Sc} {ps pnt:List Nat} {Dm:Nat->Prop} (t:Tr c ps Dm pnt) (x y:Int):dL [c.d,.int x,.int y]=some (c.S (hpth ps (yw c.geo ps pnt x y)))/\(hpth ps (yw c.geo ps pnt x y)).length<=7:=by
 have e1:oH [c.d,.int x,.int y]=some (hdD c (yw c.geo ps pnt x y)):=kn rfl (show yB ja gN [.val c.d,.val (.int x),.val (.int y)]=_ from lW (aI (ae (aI (ae rfl rfl) (G7 t)) (ae rfl (ae rfl rfl))) (Jg t x y)));have hin:∀ q∈yw c.geo ps pnt x y,Dm q:=λ q hq=>Fq t (NU.mp hq).1;generalize yw c.geo ps pnt x y=l at *;refine ⟨kn rfl (show pi oH (aB 13) [.val c.d,.val (.int x),.val (.int y),.un]=_ from fU (η1:=[.val c.d,.val (.int x),.val (.int y),.val (hdD c l)]) (kh (aI (ae rfl (ae rfl (ae rfl rfl))) e1)) (lW ?_)),?_⟩
 ·cases l with
  | nil =>
   rw [CA (b:=true) (dr (ai rfl rfl rfl)),if_pos rfl];exact jp (eO rfl (ou (by simp)))
  | cons q r =>
   rw [CA (b:=false) (dr (ai rfl rfl rfl)),if_neg NE];exact aI (ae rfl (ae rfl rfl)) (Do t (hin q NJ))
 ·cases l with
  | nil=>simp [hpth]
  | cons q r=>exact P_7 t (hin q NJ)
noncomputable def Res (c:Sc) (s:Sto) (n kd:Nat) (kvs:List (Key×D)) (K':Int->Hd) (out:Option (D×Sto)) (d:D):Prop :=
 ∃ s' kvs',out=some (d,s')/\HOk c s' n kd kvs' K'/\Stp s s' (Own n kd kvs) (Own n kd kvs')/\kvs'.length<=kvs.length+1
theorem Fj (K:Int->Hd) (j:Int):upK K j (K j)=K:=by
 funext i
 unfold upK
 split
 ·rename_i e; rw [e]
 ·rfl
noncomputable def mvR (h:Hd) (p:List Nat):List (Str×Nat):=if h.held=none then lead h p++wr "move" (p.drop (p.length - 1)) else tell h "move"
noncomputable def mvH (h:Hd) (p:List Nat):Hd:=if h.held=none then { h with trail:=p } else h
theorem GP {c:Sc}:∀ l:List (Str×Nat),tR (l.map λ r=>D.d (rD c r))=some (l.map (rD c))
 | []=>rfl
 | x::r=>by
  rw [Ny];show ((some (rD c x)).bind λ y=>(tR (r.map λ r=>D.d (rD c r))).bind λ xs=>some (y::xs))=_;rw [GP r]; rfl
theorem Fs (h:Hd) (w:Str):(tell h w).length<=1:=by
 unfold tell
 split <;> simp
theorem BS {h:Hd} {p:List Nat} (ht:h.trail.length<=7) (hp:p.length<=7):(lead h p).length<=14:=by
 unfold lead wr;rw [Nn,Nl,Nl,Ot,Oj,Oj]; omega
section
variable {c:Sc} {s:Sto} {n kd m:Nat} {kvs:List (Key×D)} {K:Int->Hd} {h:Hd}
theorem fzT (hc:Ho c s m h) {w:Str} {η:MEn} {i:Nat} (hi:η[i]?=some (some (.r m))):mFz (df 0 "tell_holder" a9 (mV i) (maC (mP (eC (.str w))) maN)) ⟨η,s⟩=some (.d (Rw c (tell h w)),s++[.fz (Rw c (tell h w))]):=by
 have em:df 0 "tell_holder" a9 (mV i) (maC (mP (eC (.str w))) maN) ⟨η,s⟩=some (.r s.length,s++[.lst ((tell h w).map λ r=>D.d (rD c r))]):=dP (n:=m) (by unfold mV; rw [hi]) hc rfl (ax (s1:=s) (aj rfl) bq) (Lc hc w);unfold mFz;rw [em,Nk];dsimp only;rw [show (s++[Cell.lst ((tell h w).map λ r=>D.d (rD c r))])[s.length]?=some (.lst ((tell h w).map λ r=>D.d (rD c r))) by rw [Nt (Np _),N5]; rfl];dsimp only;rw [GP,Nk,OB _ _ (Np _),N5];rfl
theorem Nd (ok:c.Ok) (H:HOk c s n kd kvs K) (hl:kvs.length < 1000) (j:Int) {mo:Nh} {x y:Int} {p:List Nat} (hp:dL [c.d,.int x,.int y]=some (c.S p)) (lp:p.length<=7) :
  Res c s n kd kvs (upK K j (mvH (K j) p)) (dG [.r n,.d (.int j),.d mo,.d (.int x),.d (.int y)] s) (.d (Rw c (mvR (K j) p))):=by
 obtain ⟨s1,m,kvs1,e1,H1,hj,st,hl1⟩:=Lh H hl j;obtain ⟨m',em,hm⟩:=H1.hand j _ hj;cases em;have hb:=H1.bd j;have hown:Own n kd kvs1 m:=.inr (.inr ⟨j,hj⟩);have hs5:df 1 "hand_of" bC (mV 0) (maC (mP (eV 1)) maN) ⟨[some (.r n),some (.d (.int j)),some (.d mo),some (.d (.int x)),some (.d (.int y)),none,none],s⟩=some (.r m,s1):=dP (n:=n) rfl H.ob rfl (ax (s1:=s) (aj rfl) bq) e1;have fh:gj 5 "held_by" (vw ⟨[some (.r n),some (.d (.int j)),some (.d mo),some (.d (.int x)),some (.d (.int y)),some (.r m),none],s1⟩)=some (kD c (K j).held):=AW rfl hm rfl;cases hh:(K j).held with
 | some k =>
  rw [hh] at fh;refine ⟨s1++[.fz (Rw c (tell (K j) "move"))],kvs1,?_,?_,st.trans (Dz _),hl1⟩
  ·unfold mvR;rw [if_neg (by rw [hh]; simp)];refine fQ rfl (show jf bC a9 dL eG ⟨[some (.r n),some (.d (.int j)),some (.d mo),some (.d (.int x)),some (.d (.int y)),none,none],s⟩=_ from ?_);refine am (aO hs5) (AQ (oJ (s:=s1) (eY (dr (ai fh rfl rfl))) (cM (fzT hm rfl))))
  ·unfold mvH;rw [if_neg (by rw [hh]; simp),Fj];exact H1.app _
 | none =>
  rw [hh] at fh;have el:=Ld ok hm (p:=p) (by have:=hb.1; omega) (by omega);refine ⟨s1.set m (.obj 0 (hf c { K j with trail:=p })),kvs1,?_,?_,st.trans (HD hown),hl1⟩
  ·unfold mvR;rw [if_pos hh];refine fQ rfl (show jf bC a9 dL eG ⟨[some (.r n),some (.d (.int j)),some (.d mo),some (.d (.int x)),some (.d (.int y)),none,none],s⟩=_ from ?_);refine am (aO hs5) (am (pM (s:=s1) (eY (dr (ai fh rfl rfl)))) ?_);refine am (w1:=⟨[some (.r n),some (.d (.int j)),some (.d mo),some (.d (.int x)),some (.d (.int y)),some (.r m),some (.d (c.S p))],s1⟩) (aO (aj (aI (ae (AW rfl H1.ob rfl) (ae rfl (ae rfl rfl))) hp))) (cM ?_);refine qg (dP (n:=m) rfl hm rfl (ax (s1:=s1) (aj rfl) bq) el) (aj (jp (ie (ds:=(p.drop (p.length - 1)).map c.s) (n4 (yE rfl (zK rfl) rfl (Kz _)) rfl) (by rw [Nl,Oj]; omega) (r:=some ((wr "move" (p.drop (p.length - 1))).map (rD c))) ?_))) rfl rfl (JL (by have:=BS (h:=K j) hb.1 lp; omega) (by unfold wr; rw [Nl,Oj]; omega));unfold wr;rw [Oe];exact lq (η:=[.un]) c.s (λ x=>rD c ("move", x)) _ λ x hx=>⟨[.val (c.s x)],rfl,JV "move" x _ rfl⟩
  ·unfold mvH;rw [if_pos hh];exact H1.put hj ⟨lp,hb.2⟩
end
theorem g7 {fn:DFn} {fs:MFs} {w:Wd} {ds:List D} {s1:Sto} {r:Option (D×Sto)} (h1:fs w=some (ds,s1)) (h2:fn ds s1=r):fg fn fs w=r:=by
 unfold fg;rw [h1]; exact h2
theorem BI {d:Nh} (h:Of d=true):pEq d d=some (.bool true):=by
 unfold pEq;rw [if_pos ⟨h,h⟩,SeqAt.eqv_refl d (SeqAt.canLay_of_shaped h)]
theorem JX {f g:MTF} {w:Wd} {s1:Sto} (h1:f w=some (false,s1)):nM f g w=some (false,s1):=by
 unfold nM;rw [h1]; rfl
noncomputable def Dr.sc (c:Dr):Sc:=⟨stF c.ps,c.nm,λ i=>c.L (i - 1),λ i=>c.T (i - 1),λ i=>c.W (i - 1),λ i=>c.H (i - 1),λ i=>c.mr (i - 1)⟩
theorem Dr.sc_d (c:Dr):c.sc.d=c.d:=by
 unfold Sc.d Dr.d Dr.sc stF;dsimp only;rw [Oe];rfl
theorem Jj (c:Sc) (s0:Sto):cK [.r s0.length,.d c.d] (s0++[.obj 1 []])=some (.d .none,s0++[.obj 1 (nf c (s0.length+1)),.dct []]):=by
 have ge:(s0++[Cell.obj 1 []])[s0.length]?=some (.obj 1 []):=by rw [Nt (Np _),N5]; rfl
 have ge2:(s0++[Cell.obj 1 [("scene", .d c.d)],.dct []])[s0.length]?=some (.obj 1 [("scene", .d c.d)]):=by rw [Nt (Np _),N5]; rfl
 show cg 2 2 gb [.r s0.length,.d c.d] (s0++[.obj 1 []])=_;refine rR (w1:=⟨[some (.r s0.length),some (.d c.d)],s0++[.obj 1 (nf c (s0.length+1)),.dct []]⟩) rfl ?_;show gb ⟨[some (.r s0.length),some (.d c.d)],s0++[.obj 1 []]⟩=_;refine am (w1:=⟨[some (.r s0.length),some (.d c.d)],s0++[.obj 1 [("scene", .d c.d)]]⟩) ?_ ?_
 ·rw [kX (d:=.d c.d) (n:=s0.length) (fs:=[]) (aj rfl) rfl ge (by simp)];dsimp only;rw [OB _ _ (Np _),N5]; rfl
 ·have ed:yo ⟨[some (.r s0.length),some (.d c.d)],s0++[.obj 1 [("scene", .d c.d)]]⟩=some (.r (s0.length+1),s0++[.obj 1 [("scene", .d c.d)],.dct []]):=by
   unfold yo;dsimp only;rw [Nn,NP]; rfl
  rw [kX (d:=.r (s0.length+1)) (n:=s0.length) (fs:=[("scene", .d c.d)]) ed rfl ge2 (by simp)];dsimp only;rw [OB _ _ (Np _),N5]; rfl
section
variable {w:Wd} {s s1 s2:Sto} {n k:Nat} {ds:List D} {d:D}
theorem dH {o g:MF} {x:Nh} {ky:Key} {kvs:List (Key×D)} (h1:o w=some (.r n,s)) (h2:g ⟨w.η,s⟩=some (.d x,s1)) (h3:xh x=some ky) (h4:s1[n]?=some (.dct kvs)) (h5:bI kvs ky=some d):de o g w=some (d,s1):=by
 unfold de;rw [h1,Nk];dsimp only;rw [h2,Nk];dsimp only;rw [h3,Nk,h4];dsimp only;rw [h5,Nk]
end
structure Tn (c:Sc) (ps:List Nat):Prop where
 ok:c.Ok
 st:c.st=stF ps
 ps:tY ps
theorem Dr.tr {d:Dr} (hd:d.Ok) (hlen:d.ps.length<=7):d.sc.Ok/\tY d.ps:=⟨⟨hd.inj,hd.top,hd.ok,λ a=>hd.okm _,by
  show (stF d.ps).length<=12;unfold stF;rw [Nl,Ou]; omega⟩,⟨hlen,hd.par⟩⟩
theorem Dw {c:Sc} {ps:List Nat} (tn:Tn c ps):Tr c ps (In ps) (CO ps):=⟨tn.ok,λ q h=>h,λ q h=>by rw [tn.st]; exact Aq h.1 h.2,λ q h=>by rw [tn.st]; exact Ij tn.ps h.1 h.2,λ q h x hx=>P_in' tn.ps q h hx,by rw [tn.st]; exact Kd tn.ps,λ q h=>BU tn.ps h,KA tn.ps,tn.ps⟩
noncomputable def Sc.on (c:Sc) (st:List (Nat×Nat)):Sc:={ c with st:=st }
theorem Sc.Ok.on {c:Sc} (h:c.Ok) {st:List (Nat×Nat)} (hl:st.length<=12):(c.on st).Ok:=⟨h.inj,h.top,h.ok,h.okm,hl⟩
theorem Kk (ds:List Nh):wR [.list ds]=some (.tuple ds):=rfl
section
variable {c:Sc} (h:c.Ok)
include h
theorem Ia (neg:Bool) (g:List Nat) (η:En) (h0:eV 0 η=some c.d) (h2:eV 2 η=some (c.S g)) (hi:sk [none,some 2] η=[.un,.val (c.S g)]) :
  lA wR (aC (oE (bH [none,some 2] (lI nH (eV 0)) (tgN 0) (bT (l2 (pIn neg) (l2 pIx (eV 0) (eC (.int 0))) (eV 1))) (eV 0))) aN) η=some (.tuple ((c.st.filter λ x=>if neg then !decide (x.1∈g) else decide (x.1∈g)).map c.box)):=by
 have e:bH [none,some 2] (lI nH (eV 0)) (tgN 0) (bT (l2 (pIn neg) (l2 pIx (eV 0) (eC (.int 0))) (eV 1))) (eV 0) η=some ((c.st.filter λ x=>if neg then !decide (x.1∈g) else decide (x.1∈g)).map c.box):=by
  show NB (NB (eV 0 η) nH) _=_;rw [h0];show (if (c.st.map c.box).length<=No then cGo _ _ _ (sk [none,some 2] η) _ else none)=_;rw [if_pos (Fy h),hi];refine j6 c.box (λ x=>if neg then !decide (x.1∈g) else decide (x.1∈g)) c.box _ λ x _=>⟨_,rfl,?_,λ _=>rfl⟩;show (pIn neg (c.s x.1) (c.S g)).bind asB=_;rw [F0 h]; rfl
 show NB (NB (NB (bH _ _ _ _ _ η) _) _) _=_;rw [e]; rfl
theorem Hj {q:Nat} {st:List (Nat×Nat)} (e:IX c.st q=some st):lF [c.d,c.s q]=some (c.on st).d:=by
 obtain ⟨g,hg,e⟩:=ab e;cases e;unfold lF cJ;rw [if_pos (by rfl)];show (vE (bY 13) [.val c.d,.val (c.s q),.un]).bind _=_;have e1:f6 2 (lA (bY 13) (aC (eV 0) (aC (eV 1) aN))) [.val c.d,.val (c.s q),.un]=some (.nx [.val c.d,.val (c.s q),.val (c.S g)]):=by
  show ((bY 13 [c.d,c.s q])).bind _=_;rw [uT h 13 q g hg]; rfl
 unfold vE cP;rw [e1,Nk];have e2:=Ia h true g [.val c.d,.val (c.s q),.val (c.S g)] rfl rfl rfl;show NB (NB (lA _ _ _) _) _=_;rw [e2]; rfl
end
section
variable {ps:List Nat} (ok:tY ps)
include ok
theorem GV:∀ n m q,1<=q->ps.length < n+q->ps.length < m+q->q<=ps.length->blF (stF ps) n q=blF (stF ps) m q
 | 0,m,q,_,h,_,h2=>by omega
 | n+1,0,q,_,_,h,h2=>by omega
 | n+1,m+1,q,h1,h2,h3,h4=>by
  show q::(chN (stF ps) q).flatMap (blF (stF ps) n)=q::(chN (stF ps) q).flatMap (blF (stF ps) m);rw [uM λ x hx=>?_]
  have:=eN ok hx
  exact GV n m x this.1 (by omega) (by omega) this.2.1
theorem Ha:∀ r x,x∈P ps r->x<=r:=by
 intro r
 induction r using OE with
 | _ r ih =>
  intro x hx;by_cases hr:1<=r
  ·rw [io ok hr] at hx
   have:=iL ok hr
   rcases N1.mp hx with z | z
   ·have:=ih _ this x z; omega
   ·rw [NF] at z; omega
  ·have:r=0:=by omega
   subst this;rw [wm] at hx; cases hx
theorem qt {q:Nat} (h:1<=q):q∈P ps q:=by rw [io ok h]; simp
theorem G9:∀ r x,x∈P ps r->1<=x:=by
 intro r
 induction r using OE with
 | _ r ih =>
  intro x hx;by_cases hr:1<=r
  ·rw [io ok hr] at hx;rcases N1.mp hx with z | z
   ·exact ih _ (iL ok hr) x z
   ·rw [NF] at z; omega
  ·have:r=0:=by omega
   subst this;rw [wm] at hx; cases hx
theorem K9:∀ q,1<=q->∀ a,(a=0\/a∈P ps q)->a≠q->∃ x∈P ps q,par ps x=a:=by
 intro q
 induction q using OE with
 | _ q ih =>
  intro hq a ha hne;by_cases hp:a=par ps q
  ·exact ⟨q,qt ok hq,hp.symm⟩
  ·have ha':a=0\/a∈P ps (par ps q):=by
    rcases ha with z | z
    ·exact .inl z
    ·rw [io ok hq] at z;rcases N1.mp z with z | z
     ·exact .inr z
     ·rw [NF] at z; exact absurd z hne
   by_cases h0:1<=par ps q
   ·obtain ⟨x,hx,e⟩:=ih _ (iL ok hq) h0 a ha' hp;exact ⟨x,by rw [io ok hq]; exact Ob _ hx,e⟩
   ·have z:par ps q=0:=by omega
    rw [z,wm] at ha';rcases ha' with y | y
    ·exact absurd (y.trans z.symm) hp
    ·cases y
theorem My:∀ q x,x∈P ps q->par ps x=0\/par ps x∈P ps q:=by
 intro q
 induction q using OE with
 | _ q ih =>
  intro x hx;by_cases hq:1<=q
  ·rw [io ok hq] at hx;rcases N1.mp hx with z | z
   ·rcases ih _ (iL ok hq) x z with y | y
    ·exact .inl y
    ·exact .inr (by rw [io ok hq]; exact Ob _ y)
   ·rw [NF] at z;subst z;by_cases h0:1<=par ps x
    ·exact .inr (by rw [io ok hq]; exact Ob _ (qt ok h0))
    ·exact .inl (by omega)
  ·have:q=0:=by omega
   subst this;rw [wm] at hx; cases hx
theorem K8:∀ q x y,x∈P ps q->y∈P ps q->par ps x=par ps y->x=y:=by
 intro q
 induction q using OE with
 | _ q ih =>
  intro x y hx hy e;by_cases hq:1<=q
  ·have hlt:=iL ok hq;have hx1:=G9 ok _ _ hx;have hy1:=G9 ok _ _ hy;have px:=iL ok hx1;have py:=iL ok hy1;rw [io ok hq] at hx hy;rcases N1.mp hx with zx | zx <;> rcases N1.mp hy with zy | zy
   ·exact ih _ hlt x y zx zy e
   ·rw [NF] at zy
    have:=Ha ok _ _ zx
    rw [zy] at e; omega
   ·rw [NF] at zx
    have:=Ha ok _ _ zy
    rw [zx] at e; omega
   ·rw [NF] at zx zy; rw [zx,zy]
  ·have:q=0:=by omega
   subst this;rw [wm] at hx; cases hx
omit ok in
theorem GR (a:Nat):(chN (stF ps) a).Nodup:=by
 have h:((stF ps).map (·.1)).Nodup:=by
  unfold stF;rw [Oe];exact List.Pairwise.map _ (λ i j hij=>by show i+1≠j+1; omega) (List.nodup_range (n:=ps.length))
 exact h.sublist ((List.filter_sublist).map _)
omit ok in
theorem B4 {α β:Type} {p:α->Prop} [DecidablePred p] {B:List β} {x:α}:∀ {l:List α},l.Nodup->x∈l->p x->(∀ y∈l,p y->y=x)->l.flatMap (λ y=>if p y then B else [])=B
 | [],_,h,_,_=>by cases h
 | y::l,nd,h,hp,hu=>by
  rw [Oy];have nd':=OY.mp nd;by_cases hy:y=x
  ·subst hy;rw [if_pos hp,sE (f:=λ y=>if p y then B else []) λ z hz=>?_,Oi];rw [if_neg λ hz'=>?_]
   have:=hu z (NA _ hz) hz'
   subst this;exact nd'.1 hz
  ·rw [if_neg λ hz=>hy (hu y NJ hz),List.nil_append];refine B4 nd'.2 ?_ hp λ z hz=>hu z (NA _ hz);rcases NO.mp h with z | z
   ·exact absurd z.symm hy
   ·exact z
theorem Dk {q:Nat}:∀ n a,1<=a->a<=ps.length->q∈P ps a->∀ x∈blF (stF ps) n a,q∈P ps x
 | 0,_,_,_,_,x,hx=>by cases hx
 | n+1,a,h1,h2,hq,x,hx=>by
  rcases NO.mp hx with z | z
  ·rw [z]; exact hq
  ·obtain ⟨y,hy,hx⟩:=Ov.mp z;have m:=eN ok hy;exact Dk n y m.1 m.2.1 (by rw [io ok m.1,m.2.2.1]; exact Ob _ hq) x hx
theorem BV {q:Nat} (hq:In ps q):∀ n a,q∉P ps a->ps.length<=n+a->a<=ps.length ->
  (kids (stF ps) n a).filter (λ x=>decide (q∈P ps x))=if a=0\/a∈P ps q then blF (stF ps) 13 q else []:=by
 intro n
 induction n with
 | zero =>
  intro a hn hl ha;have e:a=ps.length:=by omega
  have hk:kids (stF ps) 0 a=[]:=by unfold kids; exact sE λ x _=>rfl
  rw [hk,List.filter_nil,if_neg]
  rintro (z | z)
  ·have:=hq.1; have:=hq.2; omega
  ·have:=Ha ok _ _ z
   have e2:a=q:=by have:=hq.2; omega
   exact hn (by rw [e2]; exact qt ok hq.1)
 | succ n ih =>
  intro a hn hl ha;have one:∀ x∈chN (stF ps) a,(blF (stF ps) (n+1) x).filter (λ x=>decide (q∈P ps x))=if x∈P ps q then blF (stF ps) 13 q else []:=λ x hx=>by
   have m:=eN ok hx;by_cases hxq:x=q
   ·subst hxq;rw [if_pos (qt ok m.1),PD.mpr λ y hy=>decide_eq_true (Dk ok _ _ m.1 m.2.1 (qt ok m.1) y hy)]
    have:=ok.len
    exact GV ok _ _ _ m.1 (by omega) (by omega) m.2.1
   ·have hnx:q∉P ps x:=by
     rw [io ok m.1,m.2.2.1];intro z;rcases N1.mp z with z | z
     ·exact hn z
     ·rw [NF] at z; exact hxq z.symm
    show (x::kids (stF ps) n x).filter _=_;rw [List.filter_cons_of_neg (by simpa using hnx),ih x hnx (by omega) m.2.1]
    have:x≠0:=by have:=m.1; omega
    simp only [this,false_or]
  unfold kids;rw [List.filter_flatMap,uM one];by_cases hc:a=0\/a∈P ps q
  ·rw [if_pos hc];have hne:a≠q:=by
    rintro rfl
    exact hn (qt ok hq.1)
   obtain ⟨x,hx,e⟩:=K9 ok q hq.1 a hc hne;have hx1:=G9 ok _ _ hx;have hxl:x<=ps.length:=NL (Ha ok _ _ hx) hq.2;refine B4 (x:=x) (GR a) (by rw [<- e]; exact CZ hx1 hxl) hx λ y hy hyq=>?_;have m:=eN ok hy;exact K8 ok q y x hyq hx (m.2.2.1.trans e.symm)
  ·rw [if_neg hc];refine sE λ x hx=>?_;have m:=eN ok hx;rw [if_neg λ hxq=>?_]
   have:=My ok q x hxq
   rw [m.2.2.1] at this;exact hc this
theorem GW {q:Nat} (hq:In ps q):(kids (stF ps) 13 0).filter (λ x=>decide (q∈P ps x))=blF (stF ps) 13 q:=by
 have:=ok.len
 rw [BV ok hq 13 0 (by rw [wm]; exact λ z=>by cases z) (by omega) (by omega),if_pos (.inl rfl)]
end
theorem wH {α β:Type} {k:α->Bool} {p:β->Bool} {f f':α->List β}:∀ {l:List α},(∀ x∈l,k x=true->f' x=(f x).filter p)->(∀ x∈l,k x=false->(f x).filter p=[])->(l.filter k).flatMap f'=(l.flatMap f).filter p
 | [],_,_=>rfl
 | x::r,h1,h2=>by
  have ih:=wH (l:=r) (λ y hy=>h1 y (NA _ hy)) (λ y hy=>h2 y (NA _ hy));rw [Oy,List.filter_append,Om];cases hk:k x with
  | true=>rw [if_pos rfl,Oy,h1 x NJ hk,ih]
  | false=>rw [if_neg (by decide),h2 x NJ hk,ih]; rfl
theorem z5 (st:List (Nat×Nat)) (k:Nat->Bool) (a:Nat):chN (st.filter λ x=>k x.1) a=(chN st a).filter k:=by
 unfold chN;rw [List.filter_map,OZ,OZ]
 congr 1
 exact O4 λ x _=>Bool.and_comm _ _
section
variable {ps:List Nat} (ok:tY ps)
include ok
theorem DS {st:List (Nat×Nat)} (hs:∀ y∈st,y∈stF ps) {x:Nat} (hx:(x,par ps x)∈st):tG st x=some (par ps x):=As (λ y hy e=>by
 obtain ⟨_,_,h⟩:=vW (hs y hy);rw [h,e]) hx
theorem Mx {x y:Nat}:∀ q,x∈P ps q->y∈P ps x->y∈P ps q:=λ q=>by
 induction q using OE with
 | ind q ih =>
  intro hx hy;by_cases h:1<=q
  ·rw [io ok h] at hx ⊢;rcases N1.mp hx with z | z
   ·exact Ob _ (ih _ (iL ok h) z hy)
   ·rw [NF.mp z,io ok h] at hy;exact hy
  ·have:q=0:=by omega
   subst this;cases hx
theorem BG {st:List (Nat×Nat)} (hs:∀ y∈st,y∈stF ps):∀ n q,n<=13->1<=q->q<=n->(∀ y∈P ps q,(y,par ps y)∈st)->wQ st n q=some (pF ps n q)
 | 0,q,_,h1,h3,_=>by omega
 | n+1,q,hn,h1,h3,hy=>by
  have hp:=iL ok h1;unfold wQ pF;rw [DS ok hs (hy q (qt ok h1)),Nk,if_neg (show ¬ q=0 by omega)];by_cases e:par ps q=0
  ·rw [if_pos e,e,xx]; rfl
  ·rw [if_neg e,BG hs n _ (by omega) (by omega) (by omega) (λ y hy'=>hy y (by rw [io ok h1]; exact Ob _ hy')),Nk]
   have:=Aw (ps:=ps) n (par ps q)
   rw [if_pos (by omega)]
theorem CT {st:List (Nat×Nat)} (hs:∀ y∈st,y∈stF ps) {q:Nat} (hq:In ps q) (hy:∀ y∈P ps q,(y,par ps y)∈st):wQ st 13 q=some (P ps q):=by
 have:=ok.len
 have h2:=hq.2;rw [BG ok hs 13 q (by omega) hq.1 (by omega) hy,F7 ok q 13 (by omega)]; rfl
omit ok in
noncomputable def Kep (ps:List Nat) (k:Nat->Bool):Prop:=∀ x,In ps x->k x=true->∀ y∈P ps x,k y=true
noncomputable def stK (ps:List Nat) (k:Nat->Bool):List (Nat×Nat):=(stF ps).filter λ x=>k x.1
noncomputable def sF (ps:List Nat) (k:Nat->Bool) (q:Nat):Nat->Bool:=λ x=>k x&&!decide (q∈P ps x)
theorem Kep.cut {k:Nat->Bool} (h:Kep ps k) (q:Nat):Kep ps (sF ps k q):=λ x hx e y hy=>by
 unfold sF at e ⊢;rw [Ol] at e ⊢;refine ⟨h x hx e.1 y hy,?_⟩;have e2:¬ q∈P ps x:=by simpa using e.2
 have:¬ q∈P ps y:=λ z=>e2 (Mx ok x hy z)
 simpa using this
theorem Mr {k:Nat->Bool} (h:Kep ps k):∀ n a,(a=0\/In ps a)->(chN (stK ps k) a).flatMap (blF (stK ps k) n)=((chN (stF ps) a).flatMap (blF (stF ps) n)).filter k:=by
 intro n
 induction n with
 | zero =>
  intro a _;have h1:∀ (l:List Nat) (s:List (Nat×Nat)),l.flatMap (blF s 0)=[]:=λ l s=>sE λ x _=>rfl;rw [h1,h1]; rfl
 | succ n ih =>
  intro a ha;have e:chN (stK ps k) a=(chN (stF ps) a).filter k:=z5 (stF ps) k a;rw [e];refine wH (λ x hx hkx=>?_) (λ x hx hkx=>?_)
  ·obtain ⟨h1,h2,_,_⟩:=eN ok hx;unfold blF;rw [Om,if_pos hkx,ih x (.inr ⟨h1,h2⟩)]
  ·obtain ⟨h1,h2,_,_⟩:=eN ok hx;rw [List.filter_eq_nil_iff];intro y hy hky;have hxy:=Dk ok (q:=x) (n+1) x h1 h2 (qt ok h1) y hy;have hyi:In ps y:=by
    by_cases z:In ps y
    ·exact z
    ·have hyx:y∈kids (stF ps) (n+1) (par ps x):=by
      unfold kids;exact Ov.mpr ⟨x,CZ h1 h2,hy⟩
     exact BU ok hyx
   have:=h y hyi hky x hxy
   rw [hkx] at this;cases this
theorem DA {k:Nat->Bool}:∀ y∈stK ps k,y∈stF ps:=λ y hy=>(NU.mp hy).1
theorem Fx {k:Nat->Bool} {x:Nat} (hx:In ps x) (hk:k x=true):(x,par ps x)∈stK ps k:=NU.mpr ⟨AI hx.1 hx.2,hk⟩
theorem FZ {k:Nat->Bool} {x:Nat} (hx:In ps x) (hk:k x=true):tG (stK ps k) x=some (par ps x):=DS ok (DA ok) (Fx ok hx hk)
theorem JM {k:Nat->Bool} (h:Kep ps k):∀ n a,In ps a->k a=true->ps.length < n+a->A9 (stK ps k) n a=some (blF (stK ps k) n a)
 | 0,a,hi,_,h3=>by
  have:=hi.2
  omega
 | n+1,a,hi,hk,h3=>by
  have hl:=vI ok (n+1) a hi.1 hi.2 h3;unfold blF at hl;rw [NN] at hl;have hp:=xw ok hi.1;have e:=Mr ok h n a (.inr hi);have hle:=OA k ((chN (stF ps) a).flatMap (blF (stF ps) n));unfold A9 blF;rw [FZ ok hi hk,Nk,xE (g:=blF (stK ps k) n) λ x hx=>?_,Nk,if_pos (by rw [e]; omega)];have hx':x∈(chN (stF ps) a).filter k:=by rw [<- z5]; exact hx
  obtain ⟨h1,h2⟩:=NU.mp hx';have h4:=eN ok h1;exact JM h n x ⟨h4.1,h4.2.1⟩ h2 (by omega)
theorem KR {q x:Nat} (hq:In ps q) (hx:In ps x):x∈blF (stF ps) 13 q↔q∈P ps x:=by
 rw [<- GW ok hq,NU,decide_eq_true_eq];exact ⟨λ z=>z.2,λ z=>⟨BP ok 13 x hx.1 hx.2 (by have:=ok.len; have:=hx.2; omega),z⟩⟩
theorem Mp {k:Nat->Bool} (h:Kep ps k) {q:Nat} (hq:In ps q) (hk:k q=true):IX (stK ps k) q=some (stK ps (sF ps k q)):=by
 have:=ok.len
 have h2:=hq.1;unfold IX;rw [JM ok h 13 q hq hk (by omega),Nk]
 congr 1
 unfold stK;rw [OZ];refine O4 λ x hx=>?_;obtain ⟨h3,h4,_⟩:=vW hx;have hxi:In ps x.1:=⟨h3,h4⟩;unfold sF;by_cases hkx:k x.1=true
 ·rw [hkx,Bool.true_and,Bool.and_true]
  congr 1
  refine decide_eq_decide.mpr ?_;rw [<- KR ok hq hxi];show x.1∈q::(chN (stK ps k) q).flatMap (blF (stK ps k) 12)↔x.1∈q::(chN (stF ps) q).flatMap (blF (stF ps) 12);rw [Mr ok h 12 q (.inr hq),NO,NO,NU];exact ⟨λ z=>z.imp_right And.left,λ z=>z.imp_right λ y=>⟨y,hkx⟩⟩
 ·have hkx':k x.1=false:=by simpa using hkx
  rw [hkx']; simp
theorem Kj {k:Nat->Bool} (h:Kep ps k) {q:Nat} (hq:In ps q) (hk:k q=true):wQ (stK ps k) 13 q=some (P ps q) :=
 CT ok (DA ok) hq λ y hy=>Fx ok (P_in' ok q hq hy) (h q hq hk y hy)
omit ok in
theorem JH {k:Nat->Bool} {q:Nat} (hq:In ps q):((stK ps k).any λ x=>decide (x.1=q))=k q:=by
 rw [OH,OM]
 constructor
 ·rintro ⟨x,hx,e⟩
  rw [<- of_decide_eq_true e]; exact (NU.mp hx).2
 ·exact λ hk=>⟨(q,par ps q),NU.mpr ⟨AI hq.1 hq.2,hk⟩,by simp⟩
omit ok in
theorem xt {k:Nat->Bool}:(stK ps k).length<=ps.length:=by
 have:=OA (λ x:Nat×Nat=>k x.1) (stF ps)
 have h2:(stF ps).length=ps.length:=by unfold stF; rw [Nl,Ou]
 unfold stK;omega
omit ok in
theorem HE:stK ps (λ _=>true)=stF ps:=PD.mpr λ _ _=>rfl
end
end K25
namespace K25.HL
open PySem L2 L2.PU
section
variable {w:Wd} {s s1 s2:Sto} {n k:Nat} {ds:List D} {d:D}
theorem vk {o:MF} {nm:Str} {fs:List (Str×D)} (h1:o w=some (.r n,s)) (h2:s[n]?=some (.obj k fs)) (h3:fs.lookup nm=some d):rW o nm w=some (d,s):=by
 unfold rW;rw [h1,Nk];dsimp only;rw [h2];dsimp only;rw [h3]; rfl
theorem vm {o g:MF} {ds0:List D} (h1:o w=some (.r n,s)) (h2:s[n]?=some (.lst ds0)) (h3:g ⟨w.η,s⟩=some (d,s1)) (h4:s1[n]?=some (.lst ds)) (hl:ds.length<=3000000):rX o g w=some (.d .none,s1.set n (.lst (ds++[d]))):=by
 unfold rX;rw [h1,Nk];dsimp only;rw [h2];dsimp only;rw [h3,Nk];dsimp only;rw [h4];dsimp only;rw [if_pos (Nat.lt_of_le_of_lt hl (by show 3000000 < 2 ^ 24; decide))]
theorem ym {fs:MFs} {xs:List Nh} (h1:fs w=some (ds,s)) (h2:pDs s ds=some xs) (hl:xs.length<=3000000):zM fs w=some (.d (.tuple xs),s):=by
 unfold zM;rw [h1,Nk,h2,Nk,if_pos (big hl)]
theorem mN0:mN (λ η=>(aN η).bind gL) w=some (.r w.s.length,w.s++[.lst []]):=rfl
theorem dH {o g:MF} {x:Nh} {ky:Key} {kvs:List (Key×D)} (h1:o w=some (.r n,s)) (h2:g ⟨w.η,s⟩=some (.d x,s1)) (h3:xh x=some ky) (h4:s1[n]?=some (.dct kvs)) (h5:bI kvs ky=some d):de o g w=some (d,s1):=by
 unfold de;rw [h1,Nk];dsimp only;rw [h2,Nk];dsimp only;rw [h3,Nk,h4];dsimp only;rw [h5,Nk]
theorem D3 {neg:Bool} {o g:MF} {x:Nh} {ky:Key} {kvs:List (Key×D)} (h1:g w=some (.d x,s)) (h2:o ⟨w.η,s⟩=some (.r n,s1)) (h3:xh x=some ky) (h4:s1[n]?=some (.dct kvs)):AR neg g o w=some (if neg then !(bI kvs ky).isSome else (bI kvs ky).isSome,s1):=by
 unfold AR;rw [h1,Nk];dsimp only;rw [h2,Nk];dsimp only;rw [h3,Nk,h4]
theorem nY {o g e:MF} {x:Nh} {ky:Key} {kvs:List (Key×D)} {s0:Sto} (h0:e w=some (d,s0)) (h1:o ⟨w.η,s0⟩=some (.r n,s)) (h2:g ⟨w.η,s⟩=some (.d x,s1)) (h3:xh x=some ky) (h4:s1[n]?=some (.dct kvs)) (hl:kvs.length<=3000000):ue o g e w=some (.nx ⟨w.η,s1.set n (.dct (u8 kvs ky d))⟩):=by
 unfold ue;rw [h0,Nk];dsimp only;rw [h1,Nk];dsimp only;rw [h2,Nk];dsimp only;rw [h3,Nk,h4];dsimp only;rw [if_pos (Nat.lt_of_le_of_lt hl (by show 3000000 < 2 ^ 24; decide))]
theorem Gq {nm:Str} {o e:MF} {i j:Int} {fs fs2:List (Str×D)} (h1:o w=some (.r n,s)) (h2:s[n]?=some (.obj k fs)) (h3:fs.lookup nm=some (.d (.int i))) (h4:e ⟨w.η,s⟩=some (.d (.int j),s1)) (h5:s1[n]?=some (.obj k fs2)) (hl:fs2.length < 999):D4 k nm o e w=some (.nx ⟨w.η,s1.set n (.obj k (wP nm (.d (.int (i+j))) fs2))⟩):=by
 unfold D4;rw [h1,Nk];dsimp only;rw [h2];dsimp only;rw [if_pos rfl,h3];dsimp only;rw [h4,Nk];dsimp only;rw [h5];dsimp only;rw [if_pos ⟨rfl,hl⟩]
theorem rV {f:MF} {xs:List Nh} (h1:f w=some (.r n,s)) (h2:s[n]?=some (.lst ds)) (h3:tR ds=some xs):mFz f w=some (.d (.list xs),s.set n (.fz (.list xs))):=by
 unfold mFz;rw [h1,Nk];dsimp only;rw [h2];dsimp only;rw [h3,Nk]
theorem Ag {f g:MTF} {r:Option (Bool×Sto)} (h1:f w=some (true,s1)) (h2:g ⟨w.η,s1⟩=r):nM f g w=r:=by
 unfold nM;rw [h1]; exact h2
theorem GB {f:MF} {xs:List Nh} (h:f w=some (.d (.list xs),s)):iM f w=some (xs,s):=by
 unfold iM;rw [h]; rfl
end
theorem cB {s:Sto} {i:Nat} {x:Cell} (h:s[i]?=some x):i < s.length:=(Nr.mp h).1
theorem ki {s:Sto} {i:Nat} {x y:Cell} (h:s[i]?=some y):(s.set i x)[i]?=some x:=Nz (cB h)
theorem oz {ι:Type} (f:ι->Nh):∀ l:List ι,tR (l.map λ x=>D.d (f x))=some (l.map f)
 | []=>rfl
 | x::r=>by
  rw [Ny,Ny];unfold tR;rw [oz f r]; rfl
inductive Wo where
 | u
 | v
 | w
 | x
deriving DecidableEq
noncomputable def wd:Wo->Str
 | .u => "move"
 | .v => "enter"
 | .w => "leave"
 | .x => "down"
theorem Jq (b:Wo):NW (wd b)=true:=by cases b <;> decide +kernel
inductive De where
 | stop
 | keep
 | cut (q:Nat)
 | call (q:Nat) (w:Wo)
deriving DecidableEq
noncomputable def deD (c:Sc):De->Nh
 | .stop=>.tuple [.str "stop"]
 | .cut q=>.tuple [.str "cut", c.s q]
 | .keep=>.tuple [.str "keep"]
 | .call q w=>.tuple [.str "call", c.s q,.str (wd w)]
noncomputable def dsD (c:Sc) (A:List De):Nh:=.tuple (A.map (deD c))
structure He where
 i:Nat
 q:Nat
 w:Wo
 d:Bool
 a:List De
deriving DecidableEq
noncomputable def mt (q:Nat) (w:Wo) (d:Bool) (h:He):Bool:=decide (h.q=q)&&(decide (h.w=w)&&decide (h.d=d))
theorem mt_iff {q:Nat} {w:Wo} {d:Bool} {h:He}:mt q w d h=true↔h.q=q/\h.w=w/\h.d=d:=by unfold mt; simp
section
variable (c:Sc)
noncomputable def heD (h:He):Nh:=.tuple [c.s h.q,.str (wd h.w),.bool h.d,dsD c h.a,.bool false]
noncomputable def kvs (H:List He):List (Key×D):=H.map λ h=>(Sum.inl (h.i:Int),D.d (heD c h))
noncomputable def rwD (h:He):Nh:=.tuple [.int h.i,c.s h.q,.str (wd h.w),.bool h.d]
end
noncomputable def Un (H:List He):Prop:=∀ x∈H,∀ y∈H,x.i=y.i->x=y
section
variable {c:Sc}
theorem vn {H:List He} (u:Un H) {h:He} (m:h∈H):bI (kvs c H) (.inl (h.i:Int))=some (.d (heD c h)):=by
 unfold bI kvs;rw [List.find?_map];have e:H.find? ((λ kv:Key×D=>decide (kv.1=Sum.inl (h.i:Int)))∘λ h=>(Sum.inl (h.i:Int),D.d (heD c h)))=some h:=by
  rw [List.find?_eq_some_iff_append];obtain ⟨a,b,e⟩:=List.append_of_mem m;have key:∃ a' b',H=a'++h::b'/\∀ x∈a',x≠h:=by
   clear e a b u
   induction H with
   | nil=>cases m
   | cons x r ih =>
    by_cases e:x=h
    ·exact ⟨[],r,by rw [e]; rfl,λ _ hx=>by cases hx⟩
    ·obtain ⟨a',b',e1,e2⟩:=ih (by
      rcases NO.mp m with z | z
      ·exact absurd z.symm e
      ·exact z)
     refine ⟨x::a',b',by rw [e1]; rfl,λ y hy=>?_⟩;rcases NO.mp hy with z | z
     ·rw [z]; exact e
     ·exact e2 y z
  obtain ⟨a',b',e1,e2⟩:=key;refine ⟨by simp,a',b',e1,λ x hx=>?_⟩
  have:x.i≠h.i:=λ z=>e2 x hx (u x (by rw [e1]; exact Ob _ hx) h m z)
  simp
  intro z
  have:=Int.ofNat.inj z
  omega
 rw [e]; rfl
theorem DG {H:List He} {i:Nat} (h:∀ x∈H,x.i≠i) (d:D):u8 (kvs c H) (.inl (i:Int)) d=kvs c H++[(.inl (i:Int),d)]:=by
 unfold u8;rw [if_neg];unfold kvs;rw [List.any_map];intro z;rw [OM] at z;obtain ⟨x,hx,z⟩:=z;have z2:=of_decide_eq_true z;exact h x hx (Int.ofNat.inj (Sum.inl.inj z2))
theorem Cd:∀ H:List He,A5 (kvs c H)=some (H.map λ h=>(Sum.inl (h.i:Int),heD c h))
 | []=>rfl
 | x::r=>by
  unfold kvs;rw [Ny,Ny];unfold A5;rw [show A5 (r.map _)=_ from Cd r]; rfl
theorem eq3 (h:c.Ok) (a b:Nat) (w w':Wo) (d d':Bool):pEq (.tuple [c.s a,.str (wd w),.bool d]) (.tuple [c.s b,.str (wd w'),.bool d'])=some (.bool (decide (a=b)&&(decide (w=w')&&decide (d=d')))):=by
 have sh:∀ (a:Nat) (w:Wo) (d:Bool),Of (.tuple [c.s a,.str (wd w),.bool d])=true:=λ a w d=>by
  simp [Of,Og,Oq,PyData.depth,Ox,Sc.s,Jq,h.ok]
 unfold pEq;rw [if_pos ⟨sh a w d,sh b w' d'⟩];have e1:Oc (c.s a) (c.s b)=decide (a=b):=JJ h a b;have e2:Oc (.str (wd w)) (.str (wd w'))=decide (w=w'):=by cases w <;> cases w' <;> decide +kernel
 have e3:Oc (.bool d) (.bool d')=decide (d=d'):=by cases d <;> cases d' <;> rfl
 show some (PyData.bool (PyData.eqvAll _ _))=_;unfold PyData.eqvAll;rw [e1];unfold PyData.eqvAll;rw [e2];unfold PyData.eqvAll;rw [e3];unfold PyData.eqvAll;rw [Bool.and_true]
end
theorem KK {f:MF} {w:Wd} {d:Nh} {s:Sto} (h:f w=some (.d d,s)):mFz f w=some (.d d,s):=by
 unfold mFz;rw [h]; rfl
noncomputable def hf (c:Sc) (b m:Nat):List (Str×D):=[("scene", .d c.d),("hearers", .r b),("made", .d (.int (m:Int)))]
structure Hl (s:Sto) (a b:Nat) (c:Sc) (H:List He) (m:Nat):Prop where
 ob:s[a]?=some (.obj 3 (hf c b m))
 dc:s[b]?=some (.dct (kvs c H))
section
variable {s s':Sto} {a b m:Nat} {c:Sc} {H:List He}
theorem Hl.ne (P:Hl s a b c H m):a≠b:=λ e=>by have:=P.ob; rw [e,P.dc] at this; cases this
theorem qi:(hf c b m).lookup ("hearers" : Str)=some (D.r b):=by rfl
noncomputable def obH (s:Sto) (c:Sc) (b m:Nat):Str->Option Nh:=λ f=>((hf c b m).lookup f).bind (pD s)
theorem vwH {η:MEn} (hc:s[a]?=some (.obj 3 (hf c b m))):vw ⟨some (.r a)::η,s⟩=.ob (obH s c b m)::vw ⟨η,s⟩:=by
 unfold vw;rw [Ny,Af hc]; rfl
theorem B7 (l:En):gj 0 "scene" (.ob (obH s c b m)::l)=some c.d:=by rfl
theorem Jo (P:Hl s a b c H m) (hl:H.length<=1000) (hi:∀ x∈H,x.i≠m) {q p:Nat} (hb:aG [c.d,c.s q]=some (c.box (q,p))) (w:Wo) (d:Bool) (A:List De) :
  ∃ s',bo [.r a,.d (c.s q),.d (.str (wd w)),.d (.bool d),.d (dsD c A),.d (.bool false)] s=some (.d (.int (m:Int)),s')/\Hl s' a b c (H++[⟨m,q,w,d,A⟩]) (m+1)/\∀ j,j≠a->j≠b->s'[j]?=s[j]?:=by
 have s1:∃ s1,s1=s.set b (.dct (kvs c (H++[⟨m,q,w,d,A⟩]))):=⟨_,rfl⟩;obtain ⟨s1,e1⟩:=s1;have o1:s1[a]?=some (.obj 3 (hf c b m)):=by rw [e1,Nj P.ne.symm]; exact P.ob
 refine ⟨s1.set a (.obj 3 (hf c b (m+1))),?_,⟨ki o1,by rw [Nj P.ne,e1]; exact ki P.dc⟩,λ j ha hb=>by rw [Nj (Ne.symm ha),e1,Nj (Ne.symm hb)]⟩;refine fQ rfl (show mW aG ⟨[some (.r a),some (.d (c.s q)),some (.d (.str (wd w))),some (.d (.bool d)),some (.d (dsD c A)),some (.d (.bool false)),none],s⟩=_ from ?_);have k1:iJ (mP (lA aG (aC (gj 0 "scene") (aC (eV 1) aN)))) ⟨[some (.r a),some (.d (c.s q)),some (.d (.str (wd w))),some (.d (.bool d)),some (.d (dsD c A)),some (.d (.bool false)),none],s⟩=some (.nx ⟨[some (.r a),some (.d (c.s q)),some (.d (.str (wd w))),some (.d (.bool d)),some (.d (dsD c A)),some (.d (.bool false)),none],s⟩):=by
  refine f8 (aj (x:=c.box (q,p)) ?_);rw [vwH P.ob];exact aI (ae (B7 _) (ae rfl rfl)) hb
 have k2:bU 6 (mP (gj 0 "made")) ⟨[some (.r a),some (.d (c.s q)),some (.d (.str (wd w))),some (.d (.bool d)),some (.d (dsD c A)),some (.d (.bool false)),none],s⟩=some (.nx ⟨[some (.r a),some (.d (c.s q)),some (.d (.str (wd w))),some (.d (.bool d)),some (.d (dsD c A)),some (.d (.bool false)),some (.d (.int (m:Int)))],s⟩):=by
  refine aO (aj ?_);rw [vwH P.ob]; rfl
 refine am k1 (am k2 (am (w1:=⟨[some (.r a),some (.d (c.s q)),some (.d (.str (wd w))),some (.d (.bool d)),some (.d (dsD c A)),some (.d (.bool false)),some (.d (.int (m:Int)))],s1⟩) ?_ (am (w1:=⟨[some (.r a),some (.d (c.s q)),some (.d (.str (wd w))),some (.d (.bool d)),some (.d (dsD c A)),some (.d (.bool false)),some (.d (.int (m:Int)))],s1.set a (.obj 3 (hf c b (m+1)))⟩) ?_ (cM (aj rfl)))))
 ·rw [nY (d:=.d (heD c ⟨m,q,w,d,A⟩)) (kvs:=kvs c H) (aj ?_) (vk rfl P.ob qi) (aj rfl) rfl P.dc (by unfold kvs; rw [Nl]; omega)]
  ·dsimp only;rw [DG hi,e1];unfold kvs;rw [N4]; rfl
  ·exact aI (ae rfl (ae rfl (ae rfl (ae rfl (ae rfl rfl))))) (bR (by simp))
 ·have k4:=Gq (nm := "made") (o:=mV 0) (e:=mP (eC (.int 1))) (i:=(m:Int)) (j:=1) (w:=⟨[some (.r a),some (.d (c.s q)),some (.d (.str (wd w))),some (.d (.bool d)),some (.d (dsD c A)),some (.d (.bool false)),some (.d (.int (m:Int)))],s1⟩) rfl o1 rfl (aj rfl) o1 (by show 3 < 999; decide);exact k4
theorem Fe (P:Hl s a b c H m) (h:c.Ok) (hl:H.length<=1000) (q:Nat) (w:Wo) (d:Bool) :
  cI [.r a,.d (c.s q),.d (.str (wd w)),.d (.bool d)] s=some (.d (.list ((H.filter (mt q w d)).map λ h=>.int (h.i:Int))),s):=by
 refine fQ rfl (show ku ⟨[some (.r a),some (.d (c.s q)),some (.d (.str (wd w))),some (.d (.bool d)),none],s⟩=_ from ?_);refine am (w1:=⟨[some (.r a),some (.d (c.s q)),some (.d (.str (wd w))),some (.d (.bool d)),some (.d (.tuple [c.s q,.str (wd w),.bool d]))],s⟩) (aO (aj (aI (ae rfl (ae rfl (ae rfl rfl))) (bR (by simp))))) (cM ?_);have e1:bH [none,none,some 4] (λ _=>some (qj (H.map λ h=>(Sum.inl (h.i:Int),heD c h)))) (tgT (aX (tgN 0) (aX (tgN 1) gX))) (bT (l2 pEq (eSl (eV 1) pN (pS (eC (.int 3)))) (eV 2))) (eV 0) (vw ⟨[some (.r a),some (.d (c.s q)),some (.d (.str (wd w))),some (.d (.bool d)),some (.d (.tuple [c.s q,.str (wd w),.bool d]))],s⟩)=some ((H.filter (mt q w d)).map λ h=>.int (h.i:Int)):=by
  have ei:qj (H.map λ h=>(Sum.inl (h.i:Int),heD c h))=H.map λ h=>.tuple [.int (h.i:Int),heD c h]:=by
   unfold qj;rw [Oe]; rfl
  rw [ei];refine ie rfl (by rw [Nl]; omega) ?_;refine j6 (t:=tgT (aX (tgN 0) (aX (tgN 1) gX))) (p:=bT (l2 pEq (eSl (eV 1) pN (pS (eC (.int 3)))) (eV 2))) (f:=eV 0) (η:=[.un,.un,.val (.tuple [c.s q,.str (wd w),.bool d])]) (λ h=>.tuple [.int (h.i:Int),heD c h]) (mt q w d) (λ h=>.int (h.i:Int)) H λ x _=>⟨[.val (.int (x.i:Int)),.val (heD c x),.val (.tuple [c.s q,.str (wd w),.bool d])],rfl,?_,λ _=>rfl⟩;exact dr (ai (yE (l:=none) (h:=some ((3:Nat):Int)) (d:=.tuple [c.s x.q,.str (wd x.w),.bool x.d]) rfl rfl (zK rfl) (by unfold heD pSl; dsimp only; rw [Dd]; rfl)) rfl (eq3 h x.q q x.w w x.d d))
 refine KK ?_;unfold IA;dsimp only [List.getElem?_cons_zero];rw [P.ob];dsimp only;rw [qi];dsimp only;rw [P.dc];dsimp only;rw [Cd,Nk,e1,Nk,if_pos];rw [Pj];intro x hx;obtain ⟨y,_,rfl⟩:=Os.mp hx;rfl
theorem Lg (P:Hl s a b c H m) (h:c.Ok) {q:Nat} {st:List (Nat×Nat)} (e:IX c.st q=some st):∃ s',c8 [.r a,.d (c.s q)] s=some (.d .none,s')/\Hl s' a b (c.on st) H m/\s'.length=s.length/\∀ j,j≠a->s'[j]?=s[j]?:=by
 refine ⟨s.set a (.obj 3 (hf (c.on st) b m)),?_,⟨ki P.ob,by rw [Nj P.ne]; exact P.dc⟩,by rw [NC],λ j hj=>Nj (Ne.symm hj)⟩;refine rR (w1:=⟨[some (.r a),some (.d (c.s q))],s.set a (.obj 3 (hf (c.on st) b m))⟩) rfl (show ot lF ⟨[some (.r a),some (.d (c.s q))],s⟩=_ from ?_);have k1:mP (lA lF (aC (gj 0 "scene") (aC (eV 1) aN))) ⟨[some (.r a),some (.d (c.s q))],s⟩=some (.d (c.on st).d,s):=by
  refine aj ?_;rw [vwH P.ob];exact aI (ae (B7 _) (ae rfl rfl)) (Hj h e)
 exact kX k1 rfl P.ob (by show 3 < 999; decide)
theorem Eu (P:Hl s a b c H m):bp [.r a] s=some (.d c.d,s):=by
 refine fQ rfl (show lX ⟨[some (.r a)],s⟩=_ from cM (aj ?_));rw [vwH P.ob]; rfl
structure Fl where
 kp:Bool
 lt:Bool
 en:Bool
noncomputable abbrev f0:Fl:=⟨false,false,false⟩
noncomputable def cf (t:Nat) (w:Wo) (dp:Nat) (f:Fl):List (Str×D):=[("word", .d (.str (wd w))),("depth", .d (.int (dp:Int))),("told", .r t),("is_kept", .d (.bool f.kp)),("is_last_turn", .d (.bool f.lt)),("is_ended", .d (.bool f.en))]
noncomputable def tlD (c:Sc) (T:List He):List D:=T.map λ x=>D.d (rwD c x)
structure Cr (s:Sto) (a b k t:Nat) (c:Sc) (H:List He) (m:Nat) (w:Wo) (dp:Nat) (T:List He) (f:Fl):Prop where
 hl:Hl s a b c H m
 co:s[k]?=some (.obj 2 (cf t w dp f))
 tl:s[t]?=some (.lst (tlD c T))
structure Kp (s s':Sto) (a k t:Nat):Prop where
 len:s.length<=s'.length
 kp:∀ j,j < s.length->j≠a->j≠k->j≠t->s'[j]?=s[j]?
variable {k t dp:Nat} {w:Wo} {T:List He} {f:Fl}
theorem Cr.kt (P:Cr s a b k t c H m w dp T f):k≠t:=λ e=>by have:=P.co; rw [e,P.tl] at this; cases this
theorem Cr.kb (P:Cr s a b k t c H m w dp T f):k≠b:=λ e=>by have:=P.co; rw [e,P.hl.dc] at this; cases this
theorem Cr.ka (P:Cr s a b k t c H m w dp T f):k≠a:=λ e=>by have:=P.co; rw [e,P.hl.ob] at this; cases this
theorem Cr.at' (P:Cr s a b k t c H m w dp T f):a≠t:=λ e=>by have:=P.hl.ob; rw [e,P.tl] at this; cases this
theorem Cr.bt (P:Cr s a b k t c H m w dp T f):b≠t:=λ e=>by have:=P.hl.dc; rw [e,P.tl] at this; cases this
theorem Cr.more (P:Cr s a b k t c H m w dp T f) (x:He):Cr (s.set t (.lst (tlD c (T++[x])))) a b k t c H m w dp (T++[x]) f:=⟨⟨by rw [Nj P.at'.symm]; exact P.hl.ob,by rw [Nj P.bt.symm]; exact P.hl.dc⟩,by rw [Nj P.kt.symm]; exact P.co,ki P.tl⟩
theorem Cr.flag (P:Cr s a b k t c H m w dp T f) (f':Fl):Cr (s.set k (.obj 2 (cf t w dp f'))) a b k t c H m w dp T f':=⟨⟨by rw [Nj P.ka]; exact P.hl.ob,by rw [Nj P.kb]; exact P.hl.dc⟩,ki P.co,by rw [Nj P.kt]; exact P.tl⟩
theorem D5:(cf t w dp f).lookup ("told" : Str)=some (D.r t):=by rfl
end
theorem mh {w:Wd} {i k kk:Nat} {fs:List (Str×D)} {f:Str} {x:Nh} (h1:w.η[i]?=some (some (.r k))) (h2:w.s[k]?=some (.obj kk fs)) (h3:fs.lookup f=some (.d x)):gj i f (vw w)=some x:=by
 unfold gj vw;rw [NG,h1];show (match some (vwS (pD w.s) w.s (some (.r k))) with | some (.ob fs)=>fs f | _=>none)=_;rw [Af h2];show (fs.lookup f).bind _=_;rw [h3]; rfl
theorem sZ {s:Sto} {l:Nat} {x y:Cell} (e:l=s.length):(s++[x]).set l y=s++[y]:=by
 subst e;rw [OB _ _ (Np _),N5]; rfl
theorem lu {s:Sto} {l:Nat} {x:Cell} (e:l=s.length):(s++[x])[l]?=some x:=by
 subst e;rw [Nt (Np _),N5]; rfl
theorem Cy {s:Sto} (t:Nat) (w:Wo) (dp:Nat):aH [.r s.length,.d (.str (wd w)),.d (.int (dp:Int)),.r t] (s++[.obj 2 []])=some (.d .none,s++[.obj 2 (cf t w dp f0)]):=by
 refine rR (w1:=⟨[some (.r s.length),some (.d (.str (wd w))),some (.d (.int (dp:Int))),some (.r t)],s++[.obj 2 (cf t w dp f0)]⟩) rfl ?_;show iD ⟨[some (.r s.length),some (.d (.str (wd w))),some (.d (.int (dp:Int))),some (.r t)],s++[.obj 2 []]⟩=_;have st:∀ (nm:Str) (e:MF) (d:D) (fs:List (Str×D)),fs.length < 999->(∀ s0,e ⟨[some (.r s.length),some (.d (.str (wd w))),some (.d (.int (dp:Int))),some (.r t)],s0⟩=some (d,s0))->kJ 2 nm (mV 0) e ⟨[some (.r s.length),some (.d (.str (wd w))),some (.d (.int (dp:Int))),some (.r t)],s++[.obj 2 fs]⟩=some (.nx ⟨[some (.r s.length),some (.d (.str (wd w))),some (.d (.int (dp:Int))),some (.r t)],s++[.obj 2 (wP nm d fs)]⟩):=λ nm e d fs hl he=>by
  rw [kX (he _) rfl (lu rfl) hl,sZ rfl]
 refine am (st _ _ (.d (.str (wd w))) _ (by decide) λ _=>aj rfl) (am (st _ _ (.d (.int (dp:Int))) _ (by show 1 < 999; decide) λ _=>aj rfl) (am (st _ _ (.r t) _ (by show 2 < 999; decide) λ _=>rfl) (am (st _ _ (.d (.bool false)) _ (by show 3 < 999; decide) λ _=>aj rfl) (am (st _ _ (.d (.bool false)) _ (by show 4 < 999; decide) λ _=>aj rfl) (st _ _ (.d (.bool false)) _ (by show 5 < 999; decide) λ _=>aj rfl)))))
section
variable {c:Sc}
theorem Nf (h:c.Ok) {q:Nat}:aR [c.d,c.s q]=some (.bool (c.st.any λ x=>decide (x.1=q))):=by
 have e:bH [none,some 1] (lI nH (eV 0)) (tgN 0) cS (l2 pEq (l2 pIx (eV 0) (eC (.int 0))) (eV 1)) [.val c.d,.val (c.s q)]=some ((c.st.map λ x=>decide (x.1=q)).map PyData.bool):=by
  refine ie (ds:=c.st.map c.box) (n4 rfl rfl) (by rw [Nl]; have:=h.len; omega) ?_;rw [Oe];exact lq (η:=[.un,.val (c.s q)]) c.box (λ x=>.bool (decide (x.1=q))) c.st λ x hx=>⟨[.val (c.box x),.val (c.s q)],rfl,ai (ai rfl rfl rfl) rfl (h.eqs x.1 q)⟩
 have e2:=aI (ae (g:=aN) (jp e) rfl) (AB _);rw [List.any_map] at e2;exact kn rfl (show nB [.val c.d,.val (c.s q)]=_ from lW e2)
end
noncomputable def dT (x:Nat):Nat×Bool:=(x,true)
noncomputable def dF (x:Nat):Nat×Bool:=(x,false)
noncomputable def trn (l:List Nat):List (Nat×Bool):=l.map dT++l.reverse.map dF
theorem Dv (l:List Nat):(trn l).length=l.length+l.length:=by unfold trn; simp
theorem Du {l:List Nat} {x:Nat×Bool} (h:x∈trn l):x.1∈l:=by
 unfold trn at h;rcases N1.mp h with z | z
 ·obtain ⟨u,hu,rfl⟩:=Os.mp z; exact hu
 ·obtain ⟨u,hu,rfl⟩:=Os.mp z; exact Pk.mp hu
noncomputable abbrev Ks:=(Nat->Bool)×List He
noncomputable def wo:De->Str
 | .keep => "keep"
 | .stop => "stop"
 | _ => ""
noncomputable def ltW (ws:List Str):Bool:=decide (("stop" : Str)∈ws)
noncomputable def kpW (ws:List Str):Bool:=decide (("keep" : Str)∈ws)
noncomputable def fW (ws:List Str):Fl:=⟨kpW ws,ltW ws,false⟩
noncomputable abbrev In1:=Nat->Wo->Ks->Ks
noncomputable def dsK (ps:List Nat) (dp:Nat) (I:In1) (st:Ks):De->Ks
 | .cut q=>if st.1 q=true then (sF ps st.1 q,st.2) else st
 | .call q w=>if st.1 q=true/\dp < 3 then I q w st else st
 | _=>st
noncomputable def dst (ps:List Nat) (dp:Nat) (I:In1) (st:Ks×List Str) (x:De):Ks×List Str:=(dsK ps dp I st.1 x,st.2++[wo x])
noncomputable def stp (ps:List Nat) (dp:Nat) (I:In1) (st:Ks×List Str) (h:He):Ks×List Str:=h.a.foldl (dst ps dp I) ((st.1.1,st.1.2++[h]),st.2)
noncomputable def atp (ps:List Nat) (H:List He) (w:Wo) (dp:Nat) (I:In1) (st:Ks×List Str) (x:Nat×Bool):Ks×List Str:=if (st.1.1 x.1&&!ltW st.2)=true then (H.filter (mt x.1 w x.2)).foldl (stp ps dp I) st else st
noncomputable def crs (ps:List Nat) (H:List He):Nat->Nat->Nat->Wo->Ks->Ks×List Str
 | 0,_,_,_,st=>(st,[])
 | n+1,dp,q,w,st=>(trn (P ps q)).foldl (atp ps H w dp λ q w st=>(crs ps H n (dp+1) q w st).1) (st,[])
noncomputable def Val (ps:List Nat):De->Prop
 | .call q _=>In ps q
 | .cut q=>In ps q
 | _=>True
noncomputable def Up (I:In1):Prop:=∀ q w st,st.2.length<=(I q w st).2.length
noncomputable def Kc (ps:List Nat) (I:In1):Prop:=∀ q w st,Kep ps st.1->Kep ps (I q w st).1
section
variable {ps:List Nat} {dp:Nat} {I:In1} (up:Up I)
include up
theorem KO (st:Ks×List Str) (x:De):st.1.2.length<=(dst ps dp I st x).1.2.length:=by
 show _<=(dsK ps dp I st.1 x).2.length;cases x with
 | call q w =>
  show _<=(if st.1.1 q=true/\dp < 3 then I q w st.1 else st.1).2.length
  split
  ·exact up q w st.1
  ·exact Np _
 | cut q =>
  show _<=(if st.1.1 q=true then (sF ps st.1.1 q,st.1.2) else st.1).2.length
  split <;> exact Np _
 | _=>exact Np _
theorem xz:∀ (A:List De) (st:Ks×List Str),st.1.2.length<=(A.foldl (dst ps dp I) st).1.2.length
 | [],st=>Np _
 | x::r,st=>NL (KO up st x) (xz r _)
theorem CI (st:Ks×List Str) (h:He):st.1.2.length<=(stp ps dp I st h).1.2.length:=by
 unfold stp;exact NL (by simp) (xz up h.a _)
theorem xr:∀ (L:List He) (st:Ks×List Str),st.1.2.length<=(L.foldl (stp ps dp I) st).1.2.length
 | [],st=>Np _
 | x::r,st=>NL (CI up st x) (xr r _)
theorem KU {H:List He} {w:Wo} (st:Ks×List Str) (x:Nat×Bool):st.1.2.length<=(atp ps H w dp I st x).1.2.length:=by
 unfold atp
 split
 ·exact xr up _ _
 ·exact Np _
theorem xF {H:List He} {w:Wo}:∀ (A:List (Nat×Bool)) (st:Ks×List Str),st.1.2.length<=(A.foldl (atp ps H w dp I) st).1.2.length
 | [],st=>Np _
 | x::r,st=>NL (KU up st x) (xF r _)
end
theorem Df {ps:List Nat} {H:List He}:∀ (n dp q:Nat) (w:Wo) (st:Ks),st.2.length<=(crs ps H n dp q w st).1.2.length
 | 0,_,_,_,_=>Np _
 | n+1,dp,q,w,st=>xF (λ q w st=>Df n (dp+1) q w st) _ (st,[])
section
variable {ps:List Nat} (ok:tY ps) {dp:Nat} {I:In1} (kc:Kc ps I)
include ok kc
theorem AZ {st:Ks} (h:Kep ps st.1) (x:De):Kep ps (dsK ps dp I st x).1:=by
 cases x with
 | call q w =>
  show Kep ps (if st.1 q=true/\dp < 3 then I q w st else st).1
  split
  ·exact kc q w st h
  ·exact h
 | cut q =>
  show Kep ps (if st.1 q=true then (sF ps st.1 q,st.2) else st).1
  split
  ·exact Kep.cut ok h q
  ·exact h
 | _=>exact h
theorem yF:∀ (A:List De) (st:Ks×List Str),Kep ps st.1.1->Kep ps (A.foldl (dst ps dp I) st).1.1
 | [],st,h=>h
 | x::r,st,h=>yF r _ (AZ ok kc h x)
theorem Br:∀ (L:List He) (st:Ks×List Str),Kep ps st.1.1->Kep ps (L.foldl (stp ps dp I) st).1.1
 | [],st,h=>h
 | x::r,st,h=>Br r _ (yF ok kc x.a ((st.1.1,st.1.2++[x]),st.2) h)
theorem vL {H:List He} {w:Wo}:∀ (A:List (Nat×Bool)) (st:Ks×List Str),Kep ps st.1.1->Kep ps (A.foldl (atp ps H w dp I) st).1.1
 | [],st,h=>h
 | x::r,st,h=>by
  refine vL r _ ?_;unfold atp
  split
  ·exact Br ok kc _ _ h
  ·exact h
end
theorem xB {ps:List Nat} (ok:tY ps) {H:List He}:∀ (n dp q:Nat) (w:Wo) (st:Ks),Kep ps st.1->Kep ps (crs ps H n dp q w st).1.1
 | 0,_,_,_,_,h=>h
 | n+1,dp,q,w,st,h=>vL ok (λ q w st h=>xB ok n (dp+1) q w st h) _ (st,[]) h
theorem IP (ws:List Str):fW (ws++[("keep" : Str)])=⟨true,(fW ws).lt,(fW ws).en⟩:=by
 have:("stop" : Str) ≠ "keep" := by decide +kernel
 simp [fW,kpW,ltW,this]
theorem IN (ws:List Str):fW (ws++[("stop" : Str)])=⟨(fW ws).kp,true,(fW ws).en⟩:=by
 have:("keep" : Str) ≠ "stop" := by decide +kernel
 simp [fW,kpW,ltW,this]
theorem Ed (ws:List Str):fW (ws++[("" : Str)])=fW ws:=by
 have h1:("keep" : Str) ≠ "" := by decide +kernel
 have h2:("stop" : Str) ≠ "" := by decide +kernel
 simp [fW,kpW,ltW,h1,h2]
noncomputable def trD (c:Sc) (x:Nat×Bool):Nh:=.tuple [c.s x.1,.bool x.2]
theorem uN {x y:Str} (hx:NW x=true) (hy:NW y=true) {b:Bool} (e:decide (x=y)=b):pEq (.str x) (.str y)=some (.bool b):=by rw [Ax hx hy,e]
section
variable {s s':Sto} {a b m k t dp:Nat} {c:Sc} {ps:List Nat} {H:List He} {w:Wo} {I:In1} {fh:DFn}
theorem Kp.refl:Kp s s a k t:=⟨Np _,λ _ _ _ _ _=>rfl⟩
theorem Kp.trans {s1 s2:Sto} (x:Kp s s1 a k t) (y:Kp s1 s2 a k t):Kp s s2 a k t:=⟨NL x.len y.len,λ j h1 h0 h2 h3=>by rw [y.kp j (NK h1 x.len) h0 h2 h3,x.kp j h1 h0 h2 h3]⟩
theorem Kp.setk {x:Cell}:Kp s (s.set k x) a k t:=⟨by rw [NC]; exact Np _,λ j _ _ h2 _=>Nj (Ne.symm h2)⟩
theorem Kp.sett {x:Cell}:Kp s (s.set t x) a k t:=⟨by rw [NC]; exact Np _,λ j _ _ _ h3=>Nj (Ne.symm h3)⟩
noncomputable abbrev sK (c:Sc) (ps:List Nat) (k:Nat->Bool):Sc:=c.on (stK ps k)
theorem okK (tr:Tn c ps) (k:Nat->Bool):(sK c ps k).Ok:=tr.ok.on (by have:=xt (ps:=ps) (k:=k); have:=tr.ps.len; omega)
theorem C9 (tr:Tn c ps) {k:Nat->Bool} {q:Nat} (hq:In ps q):aR [(sK c ps k).d,c.s q]=some (.bool (k q)):=by
 have:=Nf (okK tr k) (q:=q)
 rw [show (sK c ps k).st=stK ps k from rfl,JH hq] at this;exact this
noncomputable abbrev Cq (s:Sto) (a b k t:Nat) (c:Sc) (ps:List Nat) (H:List He) (m:Nat) (w:Wo) (dp:Nat) (st:Ks) (f:Fl):Prop:=Cr s a b k t (sK c ps st.1) H m w dp st.2 f
noncomputable def Inn (a b t:Nat) (c:Sc) (ps:List Nat) (H:List He) (m dp:Nat) (fh:DFn) (I:In1):Prop :=
 ∀ s k q w st,In ps q->st.1 q=true->Kep ps st.1->Cq s a b k t c ps H m w (dp+1) st f0->(I q w st).2.length<=3000000->∃ s' f kb,fh [.r a,.d (c.s q),.r k] s=some (.d (.bool kb),s')/\Cq s' a b k t c ps H m w (dp+1) (I q w st) f/\Kp s s' a k t
theorem Li (tr:Tn c ps) {st:Ks} {ws:List Str} (kep:Kep ps st.1) (P:Cq s a b k t c ps H m w dp st (fW ws)) (hI:dp < 3->Inn a b t c ps H m dp fh I) (x:De) (v:Val ps x) (hb:(dsK ps dp I st x).2.length<=3000000) :
  ∃ s',dg fh [.r a,.d (deD c x),.r k] s=some (.d .none,s')/\Cq s' a b k t c ps H m w dp (dsK ps dp I st x) (fW (ws++[wo x]))/\Kp s s' a k t:=by
 have run:∀ s',hV b9 aR (cc fh) ⟨[some (.r a),some (.d (deD c x)),some (.r k)],s⟩=some (.nx ⟨[some (.r a),some (.d (deD c x)),some (.r k)],s'⟩)->dg fh [.r a,.d (deD c x),.r k] s=some (.d .none,s'):=λ s' e=>rR (ds:=[.r a,.d (deD c x),.r k]) (a:=3) (b:=3) (g:=hV b9 aR (cc fh)) rfl e;cases x with
 | keep =>
  have t1:tPv (bT (l2 pEq (l2 pIx (eV 1) (eC (.int 0))) (eC (.str "keep")))) ⟨[some (.r a),some (.d (deD c .keep)),some (.r k)],s⟩=some (true,s):=eY (dr (ai (ai rfl rfl rfl) rfl (uN (by decide +kernel) (by decide +kernel) (by decide +kernel))));rw [show wo .keep = "keep" from rfl,IP];exact ⟨s.set k (.obj 2 (cf t w dp ⟨true,(fW ws).lt,(fW ws).en⟩)),run _ (oJ t1 (kX (aj rfl) rfl P.co (by show 6 < 999; decide))),P.flag ⟨true,(fW ws).lt,(fW ws).en⟩,Kp.setk⟩
 | stop =>
  have t1:tPv (bT (l2 pEq (l2 pIx (eV 1) (eC (.int 0))) (eC (.str "keep")))) ⟨[some (.r a),some (.d (deD c .stop)),some (.r k)],s⟩=some (false,s):=eY (dr (ai (ai rfl rfl rfl) rfl (uN (by decide +kernel) (by decide +kernel) (by decide +kernel))));have t2:tPv (bT (l2 pEq (l2 pIx (eV 1) (eC (.int 0))) (eC (.str "stop")))) ⟨[some (.r a),some (.d (deD c .stop)),some (.r k)],s⟩=some (true,s):=eY (dr (ai (ai rfl rfl rfl) rfl (uN (by decide +kernel) (by decide +kernel) (by decide +kernel))));rw [show wo .stop = "stop" from rfl,IN];exact ⟨s.set k (.obj 2 (cf t w dp ⟨(fW ws).kp,true,(fW ws).en⟩)),run _ (jt t1 (oJ t2 (kX (aj rfl) rfl P.co (by show 6 < 999; decide)))),P.flag ⟨(fW ws).kp,true,(fW ws).en⟩,Kp.setk⟩
 | cut q =>
  have hv:In ps q:=v;rw [show wo (.cut q) = "" from rfl,Ed];have tst:∀ (y:Str),NW y=true->∀ z,decide (("cut" : Str)=y)=z->tPv (bT (l2 pEq (l2 pIx (eV 1) (eC (.int 0))) (eC (.str y)))) ⟨[some (.r a),some (.d (deD c (.cut q))),some (.r k)],s⟩=some (z,s):=λ y h1 z h2=>eY (dr (ai (ai rfl rfl rfl) rfl (uN (by decide +kernel) h1 h2)));have t5:tPv (bT (lA aR (aC (gj 0 "scene") (aC (l2 pIx (eV 1) (eC (.int 1))) aN)))) ⟨[some (.r a),some (.d (deD c (.cut q))),some (.r k)],s⟩=some (st.1 q,s):=eY (dr (aI (ae (mh rfl P.hl.ob rfl) (ae (ai rfl rfl rfl) rfl)) (C9 tr hv)));by_cases hh:st.1 q=true
  ·rw [hh] at t5;have ed:dsK ps dp I st (.cut q)=(sF ps st.1 q,st.2):=if_pos hh;obtain ⟨s1,e1,P1,l1,K1⟩:=Lg P.hl (okK tr st.1) (q:=q) (st:=stK ps (sF ps st.1 q)) (Mp tr.ps kep hv hh);have e2:cc fh [.r a,.d (deD c (.cut q)),.r k] s=some (.d .none,s1):=rR (ds:=[.r a,.d (deD c (.cut q)),.r k]) (a:=3) (b:=3) (g:=bK bo c8 fh aH) rfl (show bK bo c8 fh aH ⟨[some (.r a),some (.d (deD c (.cut q))),some (.r k)],s⟩=some (.nx ⟨[some (.r a),some (.d (deD c (.cut q))),some (.r k)],s1⟩) from
    jt (tst "hear" (by decide +kernel) false (by decide +kernel)) (oJ (tst "cut" (by decide +kernel) true (by decide +kernel)) (f8 (dP rfl P.hl.ob rfl (ax (aj (ai rfl rfl rfl)) bq) e1))))
   rw [ed];refine ⟨s1,run s1 (jt (tst "keep" (by decide +kernel) false (by decide +kernel)) (jt (tst "stop" (by decide +kernel) false (by decide +kernel)) (jt (tst "stopnow" (by decide +kernel) false (by decide +kernel)) (jt (tst "unhear" (by decide +kernel) false (by decide +kernel)) (oJ t5 (f8 (dP rfl P.hl.ob rfl (ax (aj rfl) (ax rfl bq)) e2))))))),⟨P1,?_,?_⟩,⟨by omega,λ j _ h0 _ _=>K1 j h0⟩⟩
   ·rw [K1 k P.ka]; exact P.co
   ·rw [K1 t P.at'.symm]; exact P.tl
  ·have hh':st.1 q=false:=by simpa using hh
   rw [hh'] at t5;have ed:dsK ps dp I st (.cut q)=st:=if_neg hh;rw [ed];exact ⟨s,run s (jt (tst "keep" (by decide +kernel) false (by decide +kernel)) (jt (tst "stop" (by decide +kernel) false (by decide +kernel)) (jt (tst "stopnow" (by decide +kernel) false (by decide +kernel)) (jt (tst "unhear" (by decide +kernel) false (by decide +kernel)) (pM t5))))),P,Kp.refl⟩
 | call q w' =>
  have hv:In ps q:=v;rw [show wo (.call q w') = "" from rfl,Ed];have tst:∀ (y:Str),NW y=true->decide (("call" : Str)=y)=false->tPv (bT (l2 pEq (l2 pIx (eV 1) (eC (.int 0))) (eC (.str y)))) ⟨[some (.r a),some (.d (deD c (.call q w'))),some (.r k)],s⟩=some (false,s):=λ y h1 h2=>eY (dr (ai (ai rfl rfl rfl) rfl (uN (by decide +kernel) h1 h2)));have t5:tPv (bT (lA aR (aC (gj 0 "scene") (aC (l2 pIx (eV 1) (eC (.int 1))) aN)))) ⟨[some (.r a),some (.d (deD c (.call q w'))),some (.r k)],s⟩=some (st.1 q,s):=eY (dr (aI (ae (mh rfl P.hl.ob rfl) (ae (ai rfl rfl rfl) rfl)) (C9 tr hv)));by_cases hh:st.1 q=true
  ·rw [hh] at t5;have onb:∀ s',bK bo c8 fh aH ⟨[some (.r a),some (.d (deD c (.call q w'))),some (.r k)],s⟩=some (.nx ⟨[some (.r a),some (.d (deD c (.call q w'))),some (.r k)],s'⟩)->dg fh [.r a,.d (deD c (.call q w')),.r k] s=some (.d .none,s'):=λ s' e=>by
    refine run s' (jt (tst "keep" (by decide +kernel) (by decide +kernel)) (jt (tst "stop" (by decide +kernel) (by decide +kernel)) (jt (tst "stopnow" (by decide +kernel) (by decide +kernel)) (jt (tst "unhear" (by decide +kernel) (by decide +kernel)) (oJ t5 ?_)))));have e2:cc fh [.r a,.d (deD c (.call q w')),.r k] s=some (.d .none,s'):=rR (ds:=[.r a,.d (deD c (.call q w')),.r k]) (a:=3) (b:=3) (g:=bK bo c8 fh aH) rfl e;exact f8 (dP rfl P.hl.ob rfl (ax (aj rfl) (ax rfl bq)) e2)
   have t6:tPv (bT (l2 pLt (gj 2 "depth") (eC (.int 3)))) ⟨[some (.r a),some (.d (deD c (.call q w'))),some (.r k)],s⟩=some (decide ((dp:Int) < 3),s):=eY (dr (ai (mh rfl P.co rfl) rfl rfl));by_cases hd:dp < 3
   ·have ed:dsK ps dp I st (.call q w')=I q w' st:=if_pos ⟨hh,hd⟩;rw [ed] at hb ⊢;have lk:=cB P.co;have lt':=cB P.tl;have la:=cB P.hl.ob;have C0:Cq (s++[.obj 2 (cf t w' (dp+1) f0)]) a b s.length t c ps H m w' (dp+1) st f0:=⟨⟨by rw [Nm (cB P.hl.ob)]; exact P.hl.ob,by rw [Nm (cB P.hl.dc)]; exact P.hl.dc⟩,lu rfl,by rw [Nm lt']; exact P.tl⟩;obtain ⟨s2,f2,kb,r1,C,K2⟩:=hI hd _ _ q w' st hv hh kep C0 hb;have l1:(s++[Cell.obj 2 (cf t w' (dp+1) f0)]).length=s.length+1:=by simp
    refine ⟨s2,onb s2 ?_,⟨C.hl,?_,C.tl⟩,⟨by have:=K2.len; omega,λ j h1 h0 h2 h3=>?_⟩⟩
    ·have k3:=rS (k:=2) (fn:=aH) (w:=⟨[some (.r a),some (.d (deD c (.call q w'))),some (.r k)],s⟩) (fs:=maC (mP (l2 pIx (eV 1) (eC (.int 2)))) (maC (mP (l2 aM (gj 2 "depth") (eC (.int 1)))) (maC (rW (mV 2) "told") maN))) (ax (aj (ai rfl rfl rfl)) (ax (aj (ai (mh rfl P.co rfl) rfl (show aM (.int (dp:Int)) (.int 1)=some (.int ((dp+1:Nat):Int)) from rfl))) (ax (vk rfl P.co D5) bq))) (Cy t w' (dp+1));exact jt (tst "hear" (by decide +kernel) (by decide +kernel)) (jt (tst "cut" (by decide +kernel) (by decide +kernel)) (oJ (t6.trans (by rw [decide_eq_true (by omega)])) (f8 (dP rfl P.hl.ob rfl (ax (aj (ai rfl rfl rfl)) (ax k3 bq)) r1))))
    ·rw [K2.kp k (by omega) P.ka (by omega) P.kt,Nm lk]; exact P.co
    ·rw [K2.kp j (by omega) h0 (by omega) h3,Nm h1]
   ·have ed:dsK ps dp I st (.call q w')=st:=if_neg λ z=>hd z.2;rw [ed];exact ⟨s,onb s (jt (tst "hear" (by decide +kernel) (by decide +kernel)) (jt (tst "cut" (by decide +kernel) (by decide +kernel)) (pM (t6.trans (by rw [decide_eq_false (by omega)]))))),P,Kp.refl⟩
  ·have hh':st.1 q=false:=by simpa using hh
   rw [hh'] at t5;have ed:dsK ps dp I st (.call q w')=st:=if_neg λ z=>hh z.1;rw [ed];exact ⟨s,run s (jt (tst "keep" (by decide +kernel) (by decide +kernel)) (jt (tst "stop" (by decide +kernel) (by decide +kernel)) (jt (tst "stopnow" (by decide +kernel) (by decide +kernel)) (jt (tst "unhear" (by decide +kernel) (by decide +kernel)) (pM t5))))),P,Kp.refl⟩
end
section
variable {s s':Sto} {a b m k t dp:Nat} {c:Sc} {ps:List Nat} {H:List He} {w:Wo} {I:In1} {fh:DFn}
theorem Ji (tr:Tn c ps) (up:Up I) (kc:Kc ps I) {st:Ks} {ws:List Str} (kep:Kep ps st.1) (P:Cq s a b k t c ps H m w dp st (fW ws)) (hI:dp < 3->Inn a b t c ps H m dp fh I) (u:Un H) {h:He} (hm:h∈H) (v:∀ x∈h.a,Val ps x) (hb:(stp ps dp I (st,ws) h).1.2.length<=3000000) :
  ∃ s',iC fh [.r a,.d (.int (h.i:Int)),.r k] s=some (.d .none,s')/\Cq s' a b k t c ps H m w dp (stp ps dp I (st,ws) h).1 (fW (stp ps dp I (st,ws) h).2)/\Kp s s' a k t:=by
 have P1:Cq (s.set t (.lst (tlD c (st.2++[h])))) a b k t c ps H m w dp (st.1,st.2++[h]) (fW ws):=P.more h;have K1:Kp s (s.set t (.lst (tlD c (st.2++[h])))) a k t:=Kp.sett;obtain ⟨s1,e1⟩:∃ s1,s1=s.set t (.lst (tlD c (st.2++[h]))):=⟨_,rfl⟩;rw [<- e1] at P1 K1;have hT:st.2.length<=3000000:=NL (CI up (st,ws) h) hb;unfold stp at hb ⊢;obtain ⟨w',e4,s',x4,rfl,kp',e5,e6⟩:=l8 (ks:=[4]) (t:=tgN 4) (body:=iJ (df 3 "do_deed" (dg fh) (mV 0) (maC (mP (eV 4)) (maC (mV 2) maN)))) (deD c) (λ done w1=>∃ s2 x4,w1=⟨[some (.r a),some (.d (.int (h.i:Int))),some (.r k),some (.d (heD c h)),x4],s2⟩/\Kep ps (done.foldl (dst ps dp I) ((st.1,st.2++[h]),ws)).1.1/\Cq s2 a b k t c ps H m w dp (done.foldl (dst ps dp I) ((st.1,st.2++[h]),ws)).1 (fW (done.foldl (dst ps dp I) ((st.1,st.2++[h]),ws)).2)/\Kp s s2 a k t) h.a (w:=⟨[some (.r a),some (.d (.int (h.i:Int))),some (.r k),some (.d (heD c h)),none],s1⟩)
  (λ done x rest w1 e ⟨s2,x4,ew,kq,C,K2⟩=>by
   subst ew;have hb2:(dst ps dp I (done.foldl (dst ps dp I) ((st.1,st.2++[h]),ws)) x).1.2.length<=3000000:=by
    rw [e,N6,N2] at hb;exact NL (xz up rest _) hb
   obtain ⟨s3,r1,r2,r3⟩:=Li (fh:=fh) tr kq C hI x (v x (by rw [e]; simp)) hb2;refine ⟨⟨[some (.r a),some (.d (.int (h.i:Int))),some (.r k),some (.d (heD c h)),some (.d (deD c x))],s2⟩,⟨[some (.r a),some (.d (.int (h.i:Int))),some (.r k),some (.d (heD c h)),some (.d (deD c x))],s3⟩,rfl,?_,_,_,rfl,?_,?_,K2.trans r3⟩
   ·exact f8 (dP rfl C.hl.ob rfl (ax (aj rfl) (ax rfl bq)) r1)
   ·rw [N6]; exact AZ tr.ps kc kq x
   ·rw [N6]; exact r2)
  ⟨s1,none,rfl,kep,P1,K1⟩
 refine ⟨s',?_,e5,e6⟩;have g1:jg dW (dg fh) ⟨[some (.r a),some (.d (.int (h.i:Int))),some (.r k),none,none],s⟩=some (.nx ⟨[some (.r a),some (.d (.int (h.i:Int))),some (.r k),some (.d (heD c h)),x4],s'⟩):=by
  have k1:=dH (o:=rW (mV 0) "hearers") (g:=mP (eV 1)) (w:=⟨[some (.r a),some (.d (.int (h.i:Int))),some (.r k),none,none],s⟩) (vk rfl P.hl.ob qi) (aj rfl) rfl P.hl.dc (vn u hm);refine am (aO k1) (am (w1:=⟨[some (.r a),some (.d (.int (h.i:Int))),some (.r k),some (.d (heD c h)),none],s1⟩) ?_ (am (pM (eY (dr (ai rfl rfl rfl)))) (l9 (sq (n4 (ai rfl rfl rfl) rfl)) e4)));rw [e1,show tlD c (st.2++[h])=tlD c st.2++[D.d (rwD c h)] by unfold tlD; rw [N4]; rfl];refine f8 (vm (vk rfl P.co D5) P.tl (aj ?_) P.tl (by rw [tlD,Nl]; omega));exact aI (ae rfl (ae (ai rfl rfl rfl) (ae (ai rfl rfl rfl) (ae (ai rfl rfl rfl) rfl)))) (bR (by simp))
 exact rR (ds:=[.r a,.d (.int (h.i:Int)),.r k]) (a:=3) (b:=5) (g:=jg dW (dg fh)) rfl g1
theorem Lb (tr:Tn c ps) (up:Up I) (kc:Kc ps I) {st:Ks} {ws:List Str} (kep:Kep ps st.1) (P:Cq s a b k t c ps H m w dp st (fW ws)) (hI:dp < 3->Inn a b t c ps H m dp fh I) (u:Un H) (v:∀ h∈H,∀ x∈h.a,Val ps x) (hl:H.length<=20) (q:Nat) (d:Bool) (hb:((H.filter (mt q w d)).foldl (stp ps dp I) (st,ws)).1.2.length<=3000000) :
  ∃ s',gm fh [.r a,.d (c.s q),.d (.bool d),.r k] s=some (.d .none,s')/\Cq s' a b k t c ps H m w dp ((H.filter (mt q w d)).foldl (stp ps dp I) (st,ws)).1 (fW ((H.filter (mt q w d)).foldl (stp ps dp I) (st,ws)).2)/\Kp s s' a k t:=by
 obtain ⟨w',e1,s',x4,rfl,kp',e3,e5⟩:=l8 (ks:=[4]) (t:=tgN 4) (body:=mIf (nM (AR false (mP (eV 4)) (rW (mV 0) "hearers")) (tPv (zu (bT (gj 3 "is_ended"))))) (iJ (df 3 "rouse" (iC fh) (mV 0) (maC (mP (eV 4)) (maC (mV 3) maN)))) mNx)
  (λ h:He=>NS (h.i:Int)) (λ done w1=>∃ s1 x4,w1=⟨[some (.r a),some (.d (c.s q)),some (.d (.bool d)),some (.r k),x4],s1⟩/\Kep ps (done.foldl (stp ps dp I) (st,ws)).1.1/\Cq s1 a b k t c ps H m w dp (done.foldl (stp ps dp I) (st,ws)).1 (fW (done.foldl (stp ps dp I) (st,ws)).2)/\Kp s s1 a k t) (H.filter (mt q w d)) (w:=⟨[some (.r a),some (.d (c.s q)),some (.d (.bool d)),some (.r k),none],s⟩)
  (λ done x rest w1 e ⟨s1,x4,ew,kq,C,K1⟩=>by
   subst ew;have hx:x∈H:=(NU.mp (show x∈H.filter (mt q w d) by rw [e]; simp)).1;have hb2:(stp ps dp I (done.foldl (stp ps dp I) (st,ws)) x).1.2.length<=3000000:=by
    rw [e,N6,N2] at hb;exact NL (xr up rest _) hb
   rw [N6];generalize done.foldl (stp ps dp I) (st,ws)=sw at C hb2 kq;have k1:=D3 (neg:=false) (g:=mP (eV 4)) (o:=rW (mV 0) "hearers") (w:=⟨[some (.r a),some (.d (c.s q)),some (.d (.bool d)),some (.r k),some (.d (.int (x.i:Int)))],s1⟩) (aj rfl) (vk rfl C.hl.ob qi) rfl C.hl.dc;rw [vn u hx] at k1;obtain ⟨s2,r1,r2,r3⟩:=Ji (fh:=fh) tr up kc kq C hI u hx (v x hx) hb2;refine ⟨⟨[some (.r a),some (.d (c.s q)),some (.d (.bool d)),some (.r k),some (.d (.int (x.i:Int)))],s1⟩,⟨[some (.r a),some (.d (c.s q)),some (.d (.bool d)),some (.r k),some (.d (.int (x.i:Int)))],s2⟩,rfl,?_,s2,_,rfl,?_,r2,K1.trans r3⟩
   ·refine oJ (Ag k1 (eY (Bf (b:=false) (dr (mh rfl C.co rfl))))) ?_;exact f8 (dP rfl C.hl.ob rfl (ax (aj rfl) (ax rfl bq)) r1)
   ·exact yF tr.ps kc x.a ((sw.1.1,sw.1.2++[x]),sw.2) kq)
  ⟨s,none,rfl,kep,P,Kp.refl⟩
 have e4:gd cI (iC fh) ⟨[some (.r a),some (.d (c.s q)),some (.d (.bool d)),some (.r k),none],s⟩=_:=l9 (GB (dP rfl P.hl.ob rfl (ax (aj rfl) (ax (aj (mh rfl P.co rfl)) (ax (aj rfl) bq))) (Fe P.hl (okK tr st.1) (by omega) q w d))) e1;refine ⟨s',?_,e3,e5⟩;exact rR (ds:=[.r a,.d (c.s q),.d (.bool d),.r k]) (a:=4) (b:=5) (g:=gd cI (iC fh)) rfl e4
theorem Jp {n:Nat} (tr:Tn c ps) (up:Up I) (kc:Kc ps I) {st:Ks} (kep:Kep ps st.1) (P0:Cq s a b k t c ps H m w dp st f0) (hI:dp < 3->Inn a b t c ps H m dp (aL n) I) (u:Un H) (v:∀ h∈H,∀ x∈h.a,Val ps x) (hl:H.length<=20) {q:Nat} (hq:In ps q) (hk:st.1 q=true) (hb:((trn (P ps q)).foldl (atp ps H w dp I) (st,[])).1.2.length<=3000000) :
  ∃ s',aL (n+1) [.r a,.d (c.s q),.r k] s=some (.d (.bool (kpW ((trn (P ps q)).foldl (atp ps H w dp I) (st,[])).2)),s')/\Cq s' a b k t c ps H m w dp ((trn (P ps q)).foldl (atp ps H w dp I) (st,[])).1 (fW ((trn (P ps q)).foldl (atp ps H w dp I) (st,[])).2)/\Kp s s' a k t:=by
 have l7:=P_7 (Dw tr) hq;have lT:=Dv (P ps q);have ep:aB 13 [(sK c ps st.1).d,c.s q]=some (c.S (P ps q)):=tz (okK tr st.1) 13 q _ (Kj tr.ps kep hq hk);obtain ⟨w',e1,s',x5,x6,rfl,kp',e3,e5⟩:=l8 (ks:=[5,6]) (t:=tgT (aX (tgN 5) (aX (tgN 6) gX))) (body:=mIf (tPv (E8 (bT (lA aR (aC (gj 0 "scene") (aC (eV 5) aN)))) (zu (bT (gj 2 "is_last_turn"))))) (iJ (df 3 "give_turn" (gm (aL n)) (mV 0) (maC (mP (eV 5)) (maC (mP (eV 6)) (maC (mV 2) maN))))) mNx)
  (trD c) (λ done w1=>∃ s1 x5 x6,w1=⟨[some (.r a),some (.d (c.s q)),some (.r k),some (.d (c.S (P ps q))),some (.d (.list ((trn (P ps q)).map (trD c)))),x5,x6],s1⟩/\Kep ps (done.foldl (atp ps H w dp I) (st,[])).1.1/\Cq s1 a b k t c ps H m w dp (done.foldl (atp ps H w dp I) (st,[])).1 (fW (done.foldl (atp ps H w dp I) (st,[])).2)/\Kp s s1 a k t) (trn (P ps q)) (w:=⟨[some (.r a),some (.d (c.s q)),some (.r k),some (.d (c.S (P ps q))),some (.d (.list ((trn (P ps q)).map (trD c)))),none,none],s⟩)
  (λ done x rest w1 e ⟨s1,x5,x6,ew,kq,C,K1⟩=>by
   subst ew;have hx:x.1∈P ps q:=Du (by rw [e]; simp);have hb2:(atp ps H w dp I (done.foldl (atp ps H w dp I) (st,[])) x).1.2.length<=3000000:=by
    rw [e,N6,N2] at hb;exact NL (xF up rest _) hb
   rw [N6];generalize done.foldl (atp ps H w dp I) (st,[])=sw at C hb2 kq;have k1:tPv (E8 (bT (lA aR (aC (gj 0 "scene") (aC (eV 5) aN)))) (zu (bT (gj 2 "is_last_turn")))) ⟨[some (.r a),some (.d (c.s q)),some (.r k),some (.d (c.S (P ps q))),some (.d (.list ((trn (P ps q)).map (trD c)))),some (.d (c.s x.1)),some (.d (.bool x.2))],s1⟩=some (sw.1.1 x.1&&!ltW sw.2,s1) :=
    eY (IZ (dr (aI (ae (mh rfl C.hl.ob rfl) (ae rfl rfl)) (C9 tr (P_in' tr.ps q hq hx)))) (Bf (b:=ltW sw.2) (dr (mh rfl C.co rfl))))
   have kq2:Kep ps (atp ps H w dp I sw x).1.1:=vL tr.ps kc [x] sw kq;by_cases he:(sw.1.1 x.1&&!ltW sw.2)=true
   ·rw [he] at k1;have es:atp ps H w dp I sw x=(H.filter (mt x.1 w x.2)).foldl (stp ps dp I) sw:=if_pos he;show ∃ w1 w2,_/\_/\∃ s1 x5 x6,_/\Kep ps (atp ps H w dp I sw x).1.1/\Cq s1 a b k t c ps H m w dp (atp ps H w dp I sw x).1 (fW (atp ps H w dp I sw x).2)/\_;rw [es] at hb2;obtain ⟨s2,r1,r2,r3⟩:=Lb (fh:=aL n) tr up kc kq C hI u v hl x.1 x.2 hb2;refine ⟨⟨[some (.r a),some (.d (c.s q)),some (.r k),some (.d (c.S (P ps q))),some (.d (.list ((trn (P ps q)).map (trD c)))),some (.d (c.s x.1)),some (.d (.bool x.2))],s1⟩,⟨[some (.r a),some (.d (c.s q)),some (.r k),some (.d (c.S (P ps q))),some (.d (.list ((trn (P ps q)).map (trD c)))),some (.d (c.s x.1)),some (.d (.bool x.2))],s2⟩,rfl,?_,s2,_,_,rfl,kq2,?_,K1.trans r3⟩
    ·exact oJ k1 (f8 (dP rfl C.hl.ob rfl (ax (aj rfl) (ax (aj rfl) (ax rfl bq))) r1))
    ·rw [es]; exact r2
   ·have he':(sw.1.1 x.1&&!ltW sw.2)=false:=by simpa using he
    rw [he'] at k1;have es:atp ps H w dp I sw x=sw:=if_neg he;refine ⟨⟨[some (.r a),some (.d (c.s q)),some (.r k),some (.d (c.S (P ps q))),some (.d (.list ((trn (P ps q)).map (trD c)))),some (.d (c.s x.1)),some (.d (.bool x.2))],s1⟩,⟨[some (.r a),some (.d (c.s q)),some (.r k),some (.d (c.S (P ps q))),some (.d (.list ((trn (P ps q)).map (trD c)))),some (.d (c.s x.1)),some (.d (.bool x.2))],s1⟩,rfl,pM k1,s1,_,_,rfl,kq2,?_,K1⟩;show Cq s1 a b k t c ps H m w dp (atp ps H w dp I sw x).1 (fW (atp ps H w dp I sw x).2);rw [es]; exact C)
  ⟨s,none,none,rfl,kep,P0,Kp.refl⟩
 refine ⟨s',fQ rfl (show jw (aB 13) aR (gm (aL n)) ⟨[some (.r a),some (.d (c.s q)),some (.r k),none,none,none,none],s⟩=_ from ?_),e3,e5⟩;have k1:bU 3 (mP (lA (aB 13) (aC (gj 0 "scene") (aC (eV 1) aN)))) ⟨[some (.r a),some (.d (c.s q)),some (.r k),none,none,none,none],s⟩=some (.nx ⟨[some (.r a),some (.d (c.s q)),some (.r k),some (.d (c.S (P ps q))),none,none,none],s⟩) :=
  aO (aj (aI (ae (mh rfl P0.hl.ob rfl) (ae rfl rfl)) ep))
 have k2:bU 4 (mP (l2 aM (oE (bH [none] (lI asL (eV 3)) (tgN 0) cS (lA (λ ds=>if ds.length<=No then some (.tuple ds) else none) (aC (eV 0) (aC (eC (.bool true)) aN))))) (oE (bH [none] (λ η=>((aC (eV 3) aN) η).bind rvS) (tgN 0) cS (lA (λ ds=>if ds.length<=No then some (.tuple ds) else none) (aC (eV 0) (aC (eC (.bool false)) aN))))))) ⟨[some (.r a),some (.d (c.s q)),some (.r k),some (.d (c.S (P ps q))),none,none,none],s⟩=some (.nx ⟨[some (.r a),some (.d (c.s q)),some (.r k),some (.d (c.S (P ps q))),some (.d (.list ((trn (P ps q)).map (trD c)))),none,none],s⟩):=by
  have f1:bH [none] (lI asL (eV 3)) (tgN 0) cS (lA (λ ds=>if ds.length<=No then some (.tuple ds) else none) (aC (eV 0) (aC (eC (.bool true)) aN))) (vw ⟨[some (.r a),some (.d (c.s q)),some (.r k),some (.d (c.S (P ps q))),none,none,none],s⟩)=some (((P ps q).map dT).map (trD c)):=by
   refine ie (ds:=(P ps q).map c.s) (n4 rfl rfl) (by rw [Nl]; omega) ?_;rw [Oe];exact lq (η:=[.un]) c.s (trD c∘dT) (P ps q) λ x _=>⟨[.val (c.s x)],rfl,aI (ae rfl (ae rfl rfl)) (bR (by simp))⟩
  have f2:bH [none] (λ η=>((aC (eV 3) aN) η).bind rvS) (tgN 0) cS (lA (λ ds=>if ds.length<=No then some (.tuple ds) else none) (aC (eV 0) (aC (eC (.bool false)) aN))) (vw ⟨[some (.r a),some (.d (c.s q)),some (.r k),some (.d (c.S (P ps q))),none,none,none],s⟩)=some (((P ps q).reverse.map dF).map (trD c)):=by
   refine ie (ds:=(P ps q).reverse.map c.s) (show rvS [c.S (P ps q)]=_ by rw [Pl]; rfl) (by rw [Nl,Ot]; omega) ?_;rw [Oe];exact lq (η:=[.un]) c.s (trD c∘dF) (P ps q).reverse λ x _=>⟨[.val (c.s x)],rfl,aI (ae rfl (ae rfl rfl)) (bR (by simp))⟩
  refine aO (aj (ai (jp f1) (jp f2) ?_));rw [zw (by simp; omega),<- N4]; rfl
 exact am k1 (am k2 (am (l9 (sq (n4 rfl rfl)) e1) (cM (aj (mh rfl e3.co rfl)))))
end
section
variable {s s':Sto} {a b m k t:Nat} {c:Sc} {ps:List Nat} {H:List He}
theorem JQ (tr:Tn c ps) (u:Un H) (v:∀ h∈H,∀ x∈h.a,Val ps x) (hl:H.length<=20):∀ (n dp:Nat),dp<=3->4<=n+dp->∀ (s:Sto) (k q:Nat) (w:Wo) (st:Ks),In ps q->st.1 q=true->Kep ps st.1->Cq s a b k t c ps H m w dp st f0->(crs ps H n dp q w st).1.2.length<=3000000 ->
  ∃ s',aL n [.r a,.d (c.s q),.r k] s=some (.d (.bool (kpW (crs ps H n dp q w st).2)),s')/\Cq s' a b k t c ps H m w dp (crs ps H n dp q w st).1 (fW (crs ps H n dp q w st).2)/\Kp s s' a k t
 | 0,dp,h1,h2=>by omega
 | n+1,dp,h1,h2=>λ s k q w st hq hk kep C hb=>by
  have inn:dp < 3->Inn a b t c ps H m dp (aL n) λ q w st=>(crs ps H n (dp+1) q w st).1:=λ hd s k q w st hq hk kep C hb=>by
   obtain ⟨s',e1,e2,e3⟩:=JQ tr u v hl n (dp+1) (by omega) (by omega) s k q w st hq hk kep C hb;exact ⟨s',_,_,e1,e2,e3⟩
  exact Jp tr (λ q w st=>Df n (dp+1) q w st) (λ q w st h=>xB tr.ps n (dp+1) q w st h) kep C inn u v hl hq hk hb
noncomputable def anD (c:Sc) (T:List He) (b:Bool):Nh:=.tuple [.list (T.map (rwD c)),.bool b]
noncomputable def ran (ps:List Nat) (H:List He) (q:Nat) (w:Wo) (K:Nat->Bool):Ks×List Str:=crs ps H 5 0 q w (K,[])
theorem Lj {K:Nat->Bool} (P0:Hl s a b (sK c ps K) H m) (tr:Tn c ps) (u:Un H) (v:∀ h∈H,∀ x∈h.a,Val ps x) (hl:H.length<=20) {q:Nat} (hq:In ps q) (hk:K q=true) (kep:Kep ps K) (w:Wo) (hb:(ran ps H q w K).1.2.length<=3000000) :
  ∃ s',di [.r a,.d (c.s q),.d (.str (wd w))] s=some (.d (anD c (ran ps H q w K).1.2 (kpW (ran ps H q w K).2)),s')/\Hl s' a b (sK c ps (ran ps H q w K).1.1) H m/\s.length<=s'.length/\∀ j,j < s.length->j≠a->s'[j]?=s[j]?:=by
 have la:=cB P0.ob;have lb:=cB P0.dc;obtain ⟨s1,e1⟩:∃ s1,s1=s++[Cell.lst []]:=⟨_,rfl⟩;have l1:s1.length=s.length+1:=by rw [e1]; simp
 have C0:Cq (s1++[.obj 2 (cf s.length w 0 f0)]) a b s1.length s.length c ps H m w 0 (K,[]) f0:=⟨⟨by rw [Nm (by omega),e1,Nm la]; exact P0.ob,by rw [Nm (by omega),e1,Nm lb]; exact P0.dc⟩,lu rfl,by rw [Nm (by omega),e1]; exact lu rfl⟩;obtain ⟨s2,r1,C,K2⟩:=JQ tr u v hl 5 0 (by omega) (by omega) _ _ q w (K,[]) hq hk kep C0 hb;have l2:(s1++[Cell.obj 2 (cf s.length w 0 f0)]).length=s.length+2:=by rw [Nn,l1]; rfl
 refine ⟨s2.set s.length (.fz (.list ((ran ps H q w K).1.2.map (rwD c)))),fQ rfl (show mX (aL 5) aH ⟨[some (.r a),some (.d (c.s q)),some (.d (.str (wd w))),none,none],s⟩=_ from ?_),⟨by rw [Nj C.at'.symm]; exact C.hl.ob,by rw [Nj C.bt.symm]; exact C.hl.dc⟩,by rw [NC]; have:=K2.len; omega,λ j hj ha=>by rw [Nj (by omega),K2.kp j (by omega) ha (by omega) (by omega),Nm (by omega),e1,Nm hj]⟩;have o1:s1[a]?=some (.obj 3 (hf (sK c ps K) b m)):=by rw [e1,Nm la]; exact P0.ob
 have k1:bU 3 (mN (λ η=>(aN η).bind gL)) ⟨[some (.r a),some (.d (c.s q)),some (.d (.str (wd w))),none,none],s⟩=some (.nx ⟨[some (.r a),some (.d (c.s q)),some (.d (.str (wd w))),some (.r s.length),none],s1⟩):=by rw [e1]; exact aO mN0
 have k2:bU 4 (df 3 "go_along" (aL 5) (mV 0) (maC (mP (eV 1)) (maC (rT 2 aH (maC (mP (eV 2)) (maC (mP (eC (.int 0))) (maC (mV 3) maN)))) maN))) ⟨[some (.r a),some (.d (c.s q)),some (.d (.str (wd w))),some (.r s.length),none],s1⟩=some (.nx ⟨[some (.r a),some (.d (c.s q)),some (.d (.str (wd w))),some (.r s.length),some (.d (.bool (kpW (ran ps H q w K).2)))],s2⟩):=by
  have k3:=rS (k:=2) (fn:=aH) (w:=⟨[some (.r a),some (.d (c.s q)),some (.d (.str (wd w))),some (.r s.length),none],s1⟩) (fs:=maC (mP (eV 2)) (maC (mP (eC (.int 0))) (maC (mV 3) maN))) (ax (aj rfl) (ax (aj rfl) (ax rfl bq))) (Cy s.length w 0);exact aO (dP rfl o1 rfl (ax (aj rfl) (ax k3 bq)) r1)
 refine am k1 (am k2 (cM ?_));have k4:=rV (f:=mV 3) (w:=⟨[some (.r a),some (.d (c.s q)),some (.d (.str (wd w))),some (.r s.length),some (.d (.bool (kpW (ran ps H q w K).2)))],s2⟩) rfl C.tl (oz _ _);exact ym (ax k4 (ax (aj rfl) bq)) rfl (by simp)
end
theorem wx {q p:Nat}:∀ {st:List (Nat×Nat)},tG st q=some p->∃ r,st.filter (λ x=>decide (x.1=q))=(q,p)::r
 | x::r,h=>by
  unfold tG at h;by_cases e:x.1=q
  ·rw [if_pos e] at h;cases h;refine ⟨r.filter λ x=>decide (x.1=q),?_⟩;rw [Om,if_pos (by simpa using e)];subst e; rfl
  ·rw [if_neg e] at h;obtain ⟨s,hs⟩:=wx h;refine ⟨s,?_⟩;rw [Om,if_neg (by simpa using e),hs]
theorem ix0 (d:Nh) (l:List Nh):pIx (.list (d::l)) (.int 0)=some d:=by
 show atI (d::l) ((0:Nat):Int)=_;exact qr rfl
section
variable {c:Sc} {ps:List Nat} (tr:Tn c ps) {K:Nat->Bool} (kep:Kep ps K)
include tr kep
theorem MB {q:Nat} (hq:In ps q) (hk:K q=true):bS [(sK c ps K).d,c.s q]=some (c.box (q,par ps q)):=by
 obtain ⟨r,hr⟩:=wx (FZ tr.ps hq hk);have ok:=okK tr K;have e:bH [none,some 1] (lI nH (eV 0)) (tgN 0) (bT (l2 pEq (l2 pIx (eV 0) (eC (.int 0))) (eV 1))) (eV 0) [.val (sK c ps K).d,.val (c.s q)]=some (((stK ps K).filter λ x=>decide (x.1=q)).map (sK c ps K).box):=by
  refine ie (ds:=(stK ps K).map (sK c ps K).box) (n4 rfl rfl) (by rw [Nl]; have:=ok.len; show (stK ps K).length<=_; have:=xt (ps:=ps) (k:=K); have:=tr.ps.len; omega) ?_;exact j6 (η:=[.un,.val (c.s q)]) (sK c ps K).box (λ x=>decide (x.1=q)) (sK c ps K).box (stK ps K) λ x _=>⟨[.val ((sK c ps K).box x),.val (c.s q)],rfl,dr (ai (ai rfl rfl rfl) rfl (tr.ok.eqs x.1 q)),λ _=>rfl⟩
 rw [hr,Ny] at e;exact kn rfl (show pq [.val (sK c ps K).d,.val (c.s q)]=_ from lW (ai (jp e) rfl (ix0 _ _)))
theorem DQ {x1:Sl}:∀ (n q:Nat) (tl:List Nat),In ps q->K q=true->q<=n->tl.length+n<=100 ->
  sWh (bT (l2 pNe (l2 pIx (lA bS (aC (eV 0) (aC (l2 pIx (eV 2) (eC (.int 0))) aN))) (eC (.int 1))) (eC (.str "")))) (f6 2 (l2 aM (oE (λ η=>((aC (l2 pIx (lA bS (aC (eV 0) (aC (l2 pIx (eV 2) (eC (.int 0))) aN))) (eC (.int 1))) aN) η).bind gL)) (eV 2))) n
   [.val (sK c ps K).d,x1,.val (c.S (q::tl))]=some (.nx [.val (sK c ps K).d,x1,.val (c.S (P ps q++tl))])
 | 0,q,tl,hq,_,h1,_=>by have:=hq.1; omega
 | n+1,q,tl,hq,hk,h1,h2=>by
  have hp:=iL tr.ps hq.1;have ea:l2 pIx (lA bS (aC (eV 0) (aC (l2 pIx (eV 2) (eC (.int 0))) aN))) (eC (.int 1)) [.val (sK c ps K).d,x1,.val (c.S (q::tl))]=some (c.s (par ps q)) :=
   ai (aI (ae rfl (ae (ai rfl rfl (ix0 _ _)) rfl)) (MB tr kep hq hk)) rfl rfl
  have et:bT (l2 pNe (l2 pIx (lA bS (aC (eV 0) (aC (l2 pIx (eV 2) (eC (.int 0))) aN))) (eC (.int 1))) (eC (.str ""))) [.val (sK c ps K).d,x1,.val (c.S (q::tl))]=some (!decide (par ps q=0)) :=
   dr (ai ea rfl (tr.ok.ne0 _))
  unfold sWh;rw [et,Nk,io tr.ps hq.1];by_cases e:par ps q=0
  ·rw [decide_eq_true e,e];rfl
  ·rw [decide_eq_false e];show NB (f6 _ _ _) _=_;have eb:f6 2 (l2 aM (oE (λ η=>((aC (l2 pIx (lA bS (aC (eV 0) (aC (l2 pIx (eV 2) (eC (.int 0))) aN))) (eC (.int 1))) aN) η).bind gL)) (eV 2)) [.val (sK c ps K).d,x1,.val (c.S (q::tl))]=some (.nx [.val (sK c ps K).d,x1,.val (c.S (par ps q::q::tl))]) :=
    kh (ai (jp (eO (ae ea rfl) (ou (by simp)))) rfl (zw (by simp; omega)))
   rw [eb,Nk];show sWh _ _ n _=_;have hin:In ps (par ps q):=⟨by omega,by have:=hq.2; omega⟩;have hkp:K (par ps q)=true:=kep q hq hk _ (by rw [io tr.ps hq.1]; exact Ob _ (qt tr.ps hin.1));rw [DQ n (par ps q) (q::tl) hin hkp (by omega) (by simp; omega)]
   simp
theorem Hf {q:Nat} (hq:In ps q) (hk:K q=true):bQ [(sK c ps K).d,c.s q]=some (c.S (P ps q)):=by
 have h7:q<=7:=NL hq.2 tr.ps.len;have e:=DQ tr kep (x1:=.val (c.s q)) 13 q [] hq hk (by omega) (by simp);rw [Oi] at e;exact kn rfl (show oj bS [.val (sK c ps K).d,.val (c.s q),.un]=_ from fU (kh (jp (eO (ae rfl rfl) (ou (by simp))))) (fU e (lW rfl)))
end
noncomputable def lkv (x:Nh) (ph m dp:Nat) (r:D):List (Key×D):=[(.inr "scene", .d x),(.inr "hearers", .r ph),(.inr "many", .d (.int (m:Int))),(.inr "deep", .d (.int (dp:Int))),(.inr "rows", r)]
section
variable {x:Nh} {ph m dp:Nat} {r:D}
theorem zO:bI (lkv x ph m dp r) (.inr "scene")=some (.d x):=by rfl
theorem D6:bI (lkv x ph m dp r) (.inr "hearers")=some (.r ph):=by rfl
theorem Gt:bI (lkv x ph m dp r) (.inr "many")=some (.d (.int (m:Int))):=by rfl
theorem Gu:bI (lkv x ph m dp r) (.inr "deep")=some (.d (.int (dp:Int))):=by rfl
theorem JF:bI (lkv x ph m dp r) (.inr "rows")=some r:=by rfl
theorem LR (n:Nat):u8 (lkv x ph m dp r) (.inr "many") (.d (.int (n:Int)))=lkv x ph n dp r:=by rfl
theorem Jy (n:Nat):u8 (lkv x ph m dp r) (.inr "deep") (.d (.int (n:Int)))=lkv x ph m n r:=by rfl
theorem LQ (y:D):u8 (lkv x ph m dp r) (.inr "rows") y=lkv x ph m dp y:=by rfl
end
structure Lw (s:Sto) (p ph pr:Nat) (c:Sc) (ps:List Nat) (H:List He) (m dp:Nat) (st:Ks):Prop where
 ob:s[p]?=some (.dct (lkv (sK c ps st.1).d ph m dp (.r pr)))
 dc:s[ph]?=some (.dct (kvs c H))
 rw:s[pr]?=some (.lst (tlD c st.2))
 ne:p≠ph
structure Lk (s s':Sto) (p pr:Nat):Prop where
 len:s.length<=s'.length
 kp:∀ j,j < s.length->j≠p->j≠pr->s'[j]?=s[j]?
theorem AJ {ι:Type} {ks:List Nat} {t:En->Nh->Option En} {pt:MTF} {f:MF} {η:MEn} {s:Sto} (Z Y:ι->Nh) (p:ι->Bool):∀ (l:List ι) (acc:List D),acc.length+l.length<=100000 ->
  (∀ x∈l,∀ cell,∃ η1,mTg ks t ⟨η,s++[cell]⟩ (Z x)=some ⟨η1,s++[cell]⟩/\pt ⟨η1,s++[cell]⟩=some (p x,s++[cell])/\f ⟨η1,s++[cell]⟩=some (.d (Y x),s++[cell])) ->
  AK ks t pt f s.length η (l.map Z) (s++[.lst acc])=some (s++[.lst (acc++(l.filter p).map λ x=>D.d (Y x))])
 | [],acc,_,_=>by simp [AK]
 | x::r,acc,hl,h=>by
  rw [NN] at hl;obtain ⟨η1,h1,h2,h3⟩:=h x NJ (.lst acc);rw [Ny];unfold AK;rw [h1,Nk,h2,Nk];cases hp:p x with
  | true =>
   rw [if_pos rfl,h3,Nk];dsimp only;rw [lu rfl];dsimp only;rw [if_pos (NK (show acc.length < 3000000 by omega) (by show 3000000<=2 ^ 24; decide)),sZ rfl,AJ Z Y p r (acc++[D.d (Y x)]) (by rw [Nn]; simp; omega) λ y hy=>h y (NA _ hy)];rw [Om,if_pos hp,Ny,NP]; rfl
  | false =>
   rw [if_neg NE];dsimp only;rw [AJ Z Y p r acc (by omega) λ y hy=>h y (NA _ hy),Om,if_neg (by rw [hp]; decide)]
theorem vi {ι:Type} {mp:List (Option Nat)} {it:Wd->Option (List Nh×Sto)} {ks:List Nat} {t:En->Nh->Option En} {pt:MTF} {f:MF} {w:Wd} {s:Sto} (Z Y:ι->Nh) (p:ι->Bool) {l:List ι} (h:it w=some (l.map Z,s)) (hl:l.length<=100000)
  (hx:∀ x∈l,∀ cell,∃ η1,mTg ks t ⟨zk mp w.η,s++[cell]⟩ (Z x)=some ⟨η1,s++[cell]⟩/\pt ⟨η1,s++[cell]⟩=some (p x,s++[cell])/\f ⟨η1,s++[cell]⟩=some (.d (Y x),s++[cell])) :
  mcL mp it ks t pt f w=some (.r s.length,s++[.lst ((l.filter p).map λ x=>D.d (Y x))]):=by
 unfold mcL;rw [h,Nk];dsimp only;rw [AJ Z Y p l [] (by simpa using hl) hx]; rfl
theorem C8 {f:MF} {w:Wd} {s:Sto} {xs:List Nh} (h:f w=some (.d (.tuple xs),s)):iMT f w=some (xs,s):=by
 unfold iMT;rw [h]; rfl
theorem D2 {η:MEn} {s:Sto} {i:Nat} {x:Nh} (h:i < η.length):mTg [i] (tgN i) ⟨η,s⟩ x=some ⟨η.set i (some (.d x)),s⟩:=Gn h
theorem Es {ss:List Str} {x:Str}:(ss.map PyData.str).any (λ y=>Oc y (.str x))=decide (x∈ss):=by
 induction ss with
 | nil=>rfl
 | cons y r ih =>
  rw [Ny,Oz,ih]
  have:Oc (.str y) (.str x)=decide (y=x):=by unfold Oc; rfl
  rw [this];by_cases e:y=x
  ·subst e; simp
  ·have:¬ x=y:=λ z=>e z.symm
   simp [e,this]
theorem B2 (ss:List Str):(ss.map PyData.str).all kF=true:=by
 rw [Pj];intro x hx;obtain ⟨y,_,rfl⟩:=Os.mp hx;rfl
theorem u9 (neg:Bool) (x:Str) (ss:List Str):pIn neg (.str x) (.list (ss.map PyData.str))=some (.bool (if neg then !decide (x∈ss) else decide (x∈ss))):=by
 unfold pIn;dsimp only;rw [if_pos ⟨rfl,B2 ss⟩,Es]
section
variable {s:Sto} {p ph pr:Nat} {c:Sc} {ps:List Nat} {H:List He} {m dp:Nat} {r:D} {K:Nat->Bool}
theorem xH (tr:Tn c ps) (ob:s[p]?=some (.dct (lkv (sK c ps K).d ph m dp r))) (n:Str):ay [.r p,.d (.str n)] s=some (.d (.bool (decide (n∈(stK ps K).map λ x=>c.nm x.1))),s++[.lst ((stK ps K).map λ x=>D.d (c.s x.1))]):=by
 have lp:=cB ob;have hl:=xt (ps:=ps) (k:=K);have h7:=tr.ps.len;refine fQ rfl (show kr ⟨[some (.r p),some (.d (.str n))],s⟩=_ from cM ?_);have k1:=vi (mp:=[none]) (it:=iMT (de (mV 0) (mP (eC (.str "scene"))))) (ks:=[0]) (t:=tgN 0) (pt:=CG) (f:=mP (l2 pIx (eV 0) (eC (.int 0)))) (w:=⟨[some (.r p),some (.d (.str n))],s⟩) (sK c ps K).box (λ x=>c.s x.1) (λ _=>true) (l:=stK ps K)
  (C8 (dH rfl (aj rfl) rfl ob zO)) (by omega) λ x _ cell=>⟨[some (.d ((sK c ps K).box x))],D2 (by show 0 < 1; decide),rfl,aj (ai rfl rfl rfl)⟩
 rw [PD.mpr λ _ _=>rfl] at k1;refine qh (x:=.str n) (y:=.list (((stK ps K).map λ x=>c.nm x.1).map PyData.str)) (aj rfl) k1 rfl ?_ (u9 false n _) rfl;show (match (s++[Cell.lst ((stK ps K).map λ x=>D.d (c.s x.1))])[s.length]? with | some (.fz x)=>some x | some (.lst ds)=>(tR ds).bind λ xs=>some (PyData.list xs) | some (.dct kvs)=>_ | _=>none)=_;rw [lu rfl];show (tR _).bind _=_;rw [oz (λ x:Nat×Nat=>c.s x.1)];show some (PyData.list _)=_;rw [Oe]; rfl
theorem uX (tr:Tn c ps) {q:Nat} (hq:In ps q):decide (c.nm q∈(stK ps K).map λ x=>c.nm x.1)=K q:=by
 rw [<- JH (k:=K) hq,OH,decide_eq_true_eq,OM,Os];exact ⟨λ ⟨x,hx,e⟩=>⟨x,hx,decide_eq_true (tr.ok.inj _ _ e)⟩,λ ⟨x,hx,e⟩=>⟨x,hx,by rw [of_decide_eq_true e]⟩⟩
theorem Lw.app {st:Ks} (L:Lw s p ph pr c ps H m dp st) (t:Sto):Lw (s++t) p ph pr c ps H m dp st:=⟨by rw [Nm (cB L.ob)]; exact L.ob,by rw [Nm (cB L.dc)]; exact L.dc,by rw [Nm (cB L.rw)]; exact L.rw,L.ne⟩
theorem Lw.pp {st:Ks} (L:Lw s p ph pr c ps H m dp st):p≠pr:=λ e=>by have:=L.ob; rw [e,L.rw] at this; cases this
theorem Lw.hp {st:Ks} (L:Lw s p ph pr c ps H m dp st):ph≠pr:=λ e=>by have:=L.dc; rw [e,L.rw] at this; cases this
theorem Lk.refl:Lk s s p pr:=⟨Np _,λ _ _ _ _=>rfl⟩
theorem Lk.trans {s1 s2:Sto} (x:Lk s s1 p pr) (y:Lk s1 s2 p pr):Lk s s2 p pr:=⟨NL x.len y.len,λ j h1 h2 h3=>by rw [y.kp j (NK h1 x.len) h2 h3,x.kp j h1 h2 h3]⟩
theorem Lk.app (t:Sto):Lk s (s++t) p pr:=⟨by rw [Nn]; omega,λ j h1 _ _=>Nm h1⟩
theorem Lk.setp {x:Cell}:Lk s (s.set p x) p pr:=⟨by rw [NC]; exact Np _,λ j _ h2 _=>Nj (Ne.symm h2)⟩
theorem Lk.setr {x:Cell}:Lk s (s.set pr x) p pr:=⟨by rw [NC]; exact Np _,λ j _ _ h3=>Nj (Ne.symm h3)⟩
theorem Le (tr:Tn c ps) {st:Ks} (kep:Kep ps st.1) (L:Lw s p ph pr c ps H m dp st) {q:Nat} (hq:In ps q) :
  ∃ s',eX [.r p,.d (c.s q)] s=some (.d .none,s')/\Lw s' p ph pr c ps H m dp (sF ps st.1 q,st.2)/\Lk s s' p pr:=by
 have hl:=xt (ps:=ps) (k:=st.1);have h7:=tr.ps.len;have lp:=cB L.ob;have hin:∀ x∈stK ps st.1,In ps x.1/\st.1 x.1=true:=λ x hx=>by
  obtain ⟨h1,h2⟩:=NU.mp hx;obtain ⟨h3,h4,_⟩:=vW h1;exact ⟨⟨h3,h4⟩,h2⟩
 obtain ⟨g,hg⟩:∃ g,g=((stK ps st.1).filter λ x=>decide (q∈P ps x.1)).map (·.1):=⟨_,rfl⟩;have e1:=vi (mp:=[none,some 0,some 1]) (it:=iMT (de (mV 0) (mP (eC (.str "scene"))))) (ks:=[0]) (t:=tgN 0) (pt:=mB (mG (pIn false) (mP (eV 2)) (mCB bQ (maC (de (mV 1) (mP (eC (.str "scene")))) (maC (mP (l2 pIx (eV 0) (eC (.int 0)))) maN))))) (f:=mP (l2 pIx (eV 0) (eC (.int 0)))) (w:=⟨[some (.r p),some (.d (c.s q)),none],s⟩) (sK c ps st.1).box (λ x=>c.s x.1) (λ x=>decide (q∈P ps x.1)) (l:=stK ps st.1)
  (C8 (dH rfl (aj rfl) rfl L.ob zO)) (by omega) λ x hx cell=>⟨[some (.d ((sK c ps st.1).box x)),some (.r p),some (.d (c.s q))],D2 (by show 0 < 3; decide),uf (qh (aj rfl) (AS (ax (dH rfl (aj rfl) rfl (by rw [Nm lp]; exact L.ob) zO) (ax (aj (ai rfl rfl rfl)) bq)) rfl (Hf tr kep (hin x hx).1 (hin x hx).2)) rfl rfl (F0 tr.ok false q _) rfl),aj (ai rfl rfl rfl)⟩
 have f1:=rV (f:=mcL [none,some 0,some 1] (iMT (de (mV 0) (mP (eC (.str "scene"))))) [0] (tgN 0) (mB (mG (pIn false) (mP (eV 2)) (mCB bQ (maC (de (mV 1) (mP (eC (.str "scene")))) (maC (mP (l2 pIx (eV 0) (eC (.int 0)))) maN))))) (mP (l2 pIx (eV 0) (eC (.int 0))))) e1 (lu rfl) (oz (λ x:Nat×Nat=>c.s x.1) _);rw [sZ rfl] at f1;have eg:PyData.list (((stK ps st.1).filter λ x=>decide (q∈P ps x.1)).map λ x=>c.s x.1)=c.S g:=by
  rw [hg]; unfold Sc.S; rw [Oe]; rfl
 rw [eg] at f1;obtain ⟨s1,es1⟩:∃ s1,s1=s++[Cell.fz (c.S g)]:=⟨_,rfl⟩;rw [<- es1] at f1;have o1:s1[p]?=some (.dct (lkv (sK c ps st.1).d ph m dp (.r pr))):=by rw [es1,Nm lp]; exact L.ob
 have e2:=vi (mp:=[none,some 2]) (it:=iMT (de (mV 0) (mP (eC (.str "scene"))))) (ks:=[0]) (t:=tgN 0) (pt:=tPv (bT (l2 (pIn true) (l2 pIx (eV 0) (eC (.int 0))) (eV 1)))) (f:=mP (eV 0)) (w:=⟨[some (.r p),some (.d (c.s q)),some (.d (c.S g))],s1⟩) (sK c ps st.1).box (sK c ps st.1).box (λ x=>!decide (x.1∈g)) (l:=stK ps st.1)
  (C8 (dH rfl (aj rfl) rfl o1 zO)) (by omega) λ x _ cell=>⟨[some (.d ((sK c ps st.1).box x)),some (.d (c.S g))],D2 (by show 0 < 2; decide),eY (dr (ai (ai rfl rfl rfl) rfl (F0 tr.ok true x.1 g))),aj rfl⟩
 have f2:=rV (f:=mcL [none,some 2] (iMT (de (mV 0) (mP (eC (.str "scene"))))) [0] (tgN 0) (tPv (bT (l2 (pIn true) (l2 pIx (eV 0) (eC (.int 0))) (eV 1)))) (mP (eV 0))) e2 (lu rfl) (oz (sK c ps st.1).box _);rw [sZ rfl] at f2;have ek:(stK ps st.1).filter (λ x=>!decide (x.1∈g))=stK ps (sF ps st.1 q):=by
  unfold stK;rw [OZ];refine O4 λ x hx=>?_;unfold sF;by_cases hk:st.1 x.1=true
  ·rw [hk,Bool.and_true,Bool.true_and]
   congr 1
   refine decide_eq_decide.mpr ?_;rw [hg,Os]
   constructor
   ·rintro ⟨y,hy,e⟩
    rw [<- e]; exact of_decide_eq_true (NU.mp hy).2
   ·exact λ z=>⟨x,NU.mpr ⟨NU.mpr ⟨hx,hk⟩,decide_eq_true z⟩,rfl⟩
  ·have hk':st.1 x.1=false:=by simpa using hk
   rw [hk']; simp
 rw [ek] at f2;obtain ⟨s2,es2⟩:∃ s2,s2=s1++[Cell.fz (.list ((stK ps (sF ps st.1 q)).map (sK c ps st.1).box))]:=⟨_,rfl⟩;rw [<- es2] at f2;have L2:Lw s2 p ph pr c ps H m dp st:=by rw [es2,es1]; exact (L.app _).app _
 have k2:Lk s s2 p pr:=by rw [es2,es1]; exact (Lk.app _).trans (Lk.app _)
 refine ⟨s2.set p (.dct (lkv (sK c ps (sF ps st.1 q)).d ph m dp (.r pr))),?_,⟨ki L2.ob,by rw [Nj L.ne]; exact L2.dc,by rw [Nj L.pp]; exact L2.rw,L.ne⟩,k2.trans Lk.setp⟩;refine rR (w1:=⟨[some (.r p),some (.d (c.s q)),some (.d (c.S g))],s2.set p (.dct (lkv (sK c ps (sF ps st.1 q)).d ph m dp (.r pr)))⟩) rfl (show pk bQ ⟨[some (.r p),some (.d (c.s q)),none],s⟩=_ from ?_);refine am (aO f1) ?_;have f3:=nY (o:=mV 0) (g:=mP (eC (.str "scene"))) (e:=mCB wR (maC (mFz (mcL [none,some 2] (iMT (de (mV 0) (mP (eC (.str "scene"))))) [0] (tgN 0) (tPv (bT (l2 (pIn true) (l2 pIx (eV 0) (eC (.int 0))) (eV 1)))) (mP (eV 0)))) maN)) (w:=⟨[some (.r p),some (.d (c.s q)),some (.d (c.S g))],s1⟩) (ky:=.inr "scene") (AS (ax f2 bq) rfl (Kk _)) rfl (aj rfl) rfl L2.ob (by show 5<=3000000; decide);exact f3
end
section
variable {s:Sto} {p ph pr:Nat} {c:Sc} {ps:List Nat} {H:List He} {m dp:Nat} {w:Wo} {I:In1} {fh:DFn}
noncomputable def InL (p ph pr:Nat) (c:Sc) (ps:List Nat) (H:List He) (m dp:Nat) (fh:DFn) (I:In1):Prop :=
 ∀ s q w st,In ps q->st.1 q=true->Kep ps st.1->Lw s p ph pr c ps H m (dp+1) st->(I q w st).2.length<=3000000->∃ s' kb,fh [.r p,.d (c.s q),.d (.str (wd w))] s=some (.d (.bool kb),s')/\Lw s' p ph pr c ps H m (dp+1) (I q w st)/\Lk s s' p pr
theorem three (x:Str):lA (λ ds=>if ds.length<=No then some (PyData.tuple ds) else none) (aC (eC (.str "stop")) (aC (eC (.str "stopnow")) (aC (eC (.str "keep")) aN)))=λ _=>some (.tuple ((["stop", "stopnow", "keep"]:List Str).map PyData.str)):=by
 funext η
 exact aI (ae rfl (ae rfl (ae rfl rfl))) (bR (by simp))
theorem F6 (neg:Bool) (x:Str) (ss:List Str):pIn neg (.str x) (.tuple (ss.map PyData.str))=some (.bool (if neg then !decide (x∈ss) else decide (x∈ss))):=by
 unfold pIn;dsimp only;rw [if_pos ⟨rfl,B2 ss⟩,Es]
theorem Ng (tr:Tn c ps) {st:Ks} (kep:Kep ps st.1) (L:Lw s p ph pr c ps H m dp st) (hI:dp < 3->InL p ph pr c ps H m dp fh I) (x:De) (v:Val ps x) (hb:(dsK ps dp I st x).2.length<=3000000) :
  ∃ s',kH fh [.r p,.d (deD c x)] s=some (.d (.str (wo x)),s')/\Lw s' p ph pr c ps H m dp (dsK ps dp I st x)/\Lk s s' p pr:=by
 have run:∀ y s',nE ay bG eX fh ⟨[some (.r p),some (.d (deD c x))],s⟩=some (.rt (.d (.str y)) s')->kH fh [.r p,.d (deD c x)] s=some (.d (.str y),s'):=λ y s' e=>fQ (ds:=[.r p,.d (deD c x)]) (a:=2) (b:=2) (g:=nE ay bG eX fh) rfl e;have t0:∀ (y:Str) (z:Bool) (s':Sto),l2 pIx (eV 1) (eC (.int 0)) (vw ⟨[some (.r p),some (.d (deD c x))],s'⟩)=some (.str y)->decide (y∈(["stop", "stopnow", "keep"]:List Str))=z->tPv (bT (l2 (pIn false) (l2 pIx (eV 1) (eC (.int 0))) (lA (λ ds=>if ds.length<=No then some (.tuple ds) else none) (aC (eC (.str "stop")) (aC (eC (.str "stopnow")) (aC (eC (.str "keep")) aN)))))) ⟨[some (.r p),some (.d (deD c x))],s'⟩=some (z,s'):=λ y z s' h1 h2=>by
  refine eY (dr (ai h1 (congrFun (three y) _) ?_));rw [F6];show some (PyData.bool (decide (y∈(["stop", "stopnow", "keep"]:List Str))))=_;rw [h2]
 cases x with
 | keep=>exact ⟨s,run _ s (AQ (oJ (t0 "keep" true s (ai rfl rfl rfl) (by decide +kernel)) (cM (aj (ai rfl rfl rfl))))),L,Lk.refl⟩
 | stop=>exact ⟨s,run _ s (AQ (oJ (t0 "stop" true s (ai rfl rfl rfl) (by decide +kernel)) (cM (aj (ai rfl rfl rfl))))),L,Lk.refl⟩
 | cut q =>
  have hv:In ps q:=v;have tst:∀ (y:Str) (s':Sto),NW y=true->∀ z,decide (("cut" : Str)=y)=z->tPv (bT (l2 pEq (l2 pIx (eV 1) (eC (.int 0))) (eC (.str y)))) ⟨[some (.r p),some (.d (deD c (.cut q)))],s'⟩=some (z,s'):=λ y s' h1 z h2=>eY (dr (ai (ai rfl rfl rfl) rfl (uN (by decide +kernel) h1 h2)));have ft:=xH tr L.ob (c.nm q);rw [uX tr hv] at ft;obtain ⟨s1,es1⟩:∃ s1,s1=s++[Cell.lst ((stK ps st.1).map λ x=>D.d (c.s x.1))]:=⟨_,rfl⟩;rw [<- es1] at ft;have L1:Lw s1 p ph pr c ps H m dp st:=by rw [es1]; exact L.app _
  have k1:Lk s s1 p pr:=by rw [es1]; exact Lk.app _
  have t5:mB (fg ay (maC (mV 0) (maC (mP (l2 pIx (eV 1) (eC (.int 1)))) maN))) ⟨[some (.r p),some (.d (deD c (.cut q)))],s⟩=some (st.1 q,s1):=uf (g7 (ax rfl (ax (aj (ai rfl rfl rfl)) bq)) ft);by_cases hh:st.1 q=true
  ·rw [hh] at t5;have ed:dsK ps dp I st (.cut q)=(sF ps st.1 q,st.2):=if_pos hh;rw [ed];obtain ⟨s2,e2,L2,k2⟩:=Le tr kep L1 hv;refine ⟨s2,run _ s2 (am (pM (t0 "cut" false s (ai rfl rfl rfl) (by decide +kernel))) (am (w1:=⟨[some (.r p),some (.d (deD c (.cut q)))],s2⟩) (jt (tst "unhear" s (by decide +kernel) false (by decide +kernel)) (oJ t5 (jt (tst "hear" s1 (by decide +kernel) false (by decide +kernel)) (oJ (tst "cut" s1 (by decide +kernel) true (by decide +kernel)) (f8 (g7 (ax rfl (ax (aj (ai rfl rfl rfl)) bq)) e2)))))) (cM (aj rfl)))),L2,k1.trans k2⟩
  ·have hh':st.1 q=false:=by simpa using hh
   rw [hh'] at t5;have ed:dsK ps dp I st (.cut q)=st:=if_neg hh;rw [ed];exact ⟨s1,run _ s1 (am (pM (t0 "cut" false s (ai rfl rfl rfl) (by decide +kernel))) (am (w1:=⟨[some (.r p),some (.d (deD c (.cut q)))],s1⟩) (jt (tst "unhear" s (by decide +kernel) false (by decide +kernel)) (pM t5)) (cM (aj rfl)))),L1,k1⟩
 | call q w' =>
  have hv:In ps q:=v;have tst:∀ (y:Str) (s':Sto),NW y=true->∀ z,decide (("call" : Str)=y)=z->tPv (bT (l2 pEq (l2 pIx (eV 1) (eC (.int 0))) (eC (.str y)))) ⟨[some (.r p),some (.d (deD c (.call q w')))],s'⟩=some (z,s'):=λ y s' h1 z h2=>eY (dr (ai (ai rfl rfl rfl) rfl (uN (by decide +kernel) h1 h2)));have ft:=xH tr L.ob (c.nm q);rw [uX tr hv] at ft;obtain ⟨s1,es1⟩:∃ s1,s1=s++[Cell.lst ((stK ps st.1).map λ x=>D.d (c.s x.1))]:=⟨_,rfl⟩;rw [<- es1] at ft;have L1:Lw s1 p ph pr c ps H m dp st:=by rw [es1]; exact L.app _
  have k1:Lk s s1 p pr:=by rw [es1]; exact Lk.app _
  have t5:mB (fg ay (maC (mV 0) (maC (mP (l2 pIx (eV 1) (eC (.int 1)))) maN))) ⟨[some (.r p),some (.d (deD c (.call q w')))],s⟩=some (st.1 q,s1):=uf (g7 (ax rfl (ax (aj (ai rfl rfl rfl)) bq)) ft);by_cases hh:st.1 q=true
  ·rw [hh] at t5;have t6:mB (mG pLt (de (mV 0) (mP (eC (.str "deep")))) (mP (eC (.int 3)))) ⟨[some (.r p),some (.d (deD c (.call q w')))],s1⟩=some (decide ((dp:Int) < 3),s1):=uf (qh (dH rfl (aj rfl) rfl L1.ob Gu) (aj rfl) rfl rfl rfl rfl);by_cases hd:dp < 3
   ·have ed:dsK ps dp I st (.call q w')=I q w' st:=if_pos ⟨hh,hd⟩;rw [ed] at hb ⊢;rw [decide_eq_true (show (dp:Int) < 3 by omega)] at t6;obtain ⟨s2,es2⟩:∃ s2,s2=s1.set p (.dct (lkv (sK c ps st.1).d ph m (dp+1) (.r pr))):=⟨_,rfl⟩;have L2:Lw s2 p ph pr c ps H m (dp+1) st:=by rw [es2]; exact ⟨ki L1.ob,by rw [Nj L.ne]; exact L1.dc,by rw [Nj L.pp]; exact L1.rw,L.ne⟩
    have k2:Lk s s2 p pr:=by rw [es2]; exact k1.trans Lk.setp
    obtain ⟨s3,kb,r1,L3,k3⟩:=hI hd s2 q w' st hv hh kep L2 hb;obtain ⟨s4,es4⟩:∃ s4,s4=s3.set p (.dct (lkv (sK c ps (I q w' st).1).d ph m dp (.r pr))):=⟨_,rfl⟩;have L4:Lw s4 p ph pr c ps H m dp (I q w' st):=by rw [es4]; exact ⟨ki L3.ob,by rw [Nj L.ne]; exact L3.dc,by rw [Nj L.pp]; exact L3.rw,L.ne⟩
    have k4:Lk s s4 p pr:=by rw [es4]; exact (k2.trans k3).trans Lk.setp
    have f1:=nY (o:=mV 0) (g:=mP (eC (.str "deep"))) (e:=mOp aM (de (mV 0) (mP (eC (.str "deep")))) (mP (eC (.int 1)))) (w:=⟨[some (.r p),some (.d (deD c (.call q w')))],s1⟩) (ky:=.inr "deep") (d:=.d (.int ((dp+1:Nat):Int))) (qg (dH rfl (aj rfl) rfl L1.ob Gu) (aj rfl) rfl rfl rfl) rfl (aj rfl) rfl L1.ob (by show 5<=3000000; decide);rw [Jy,<- es2] at f1;have f2:=nY (o:=mV 0) (g:=mP (eC (.str "deep"))) (e:=mOp wS (de (mV 0) (mP (eC (.str "deep")))) (mP (eC (.int 1)))) (w:=⟨[some (.r p),some (.d (deD c (.call q w')))],s3⟩) (ky:=.inr "deep") (d:=.d (.int ((dp:Nat):Int))) (qg (dH rfl (aj rfl) rfl L3.ob Gu) (aj rfl) rfl rfl (by show some (NS (((dp+1:Nat):Int) - 1))=_; congr 2; omega)) rfl (aj rfl) rfl L3.ob (by show 5<=3000000; decide);rw [Jy,<- es4] at f2;refine ⟨s4,run _ s4 (am (pM (t0 "call" false s (ai rfl rfl rfl) (by decide +kernel))) (am (w1:=⟨[some (.r p),some (.d (deD c (.call q w')))],s4⟩) (jt (tst "unhear" s (by decide +kernel) false (by decide +kernel)) (oJ t5 (jt (tst "hear" s1 (by decide +kernel) false (by decide +kernel)) (jt (tst "cut" s1 (by decide +kernel) false (by decide +kernel)) (oJ t6 (am f1 (am (f8 (g7 (ax rfl (ax (aj (ai rfl rfl rfl)) (ax (aj (ai rfl rfl rfl)) bq))) r1)) f2))))))) (cM (aj rfl)))),L4,k4⟩
   ·have ed:dsK ps dp I st (.call q w')=st:=if_neg λ z=>hd z.2;rw [ed];rw [decide_eq_false (show ¬ (dp:Int) < 3 by omega)] at t6;exact ⟨s1,run _ s1 (am (pM (t0 "call" false s (ai rfl rfl rfl) (by decide +kernel))) (am (w1:=⟨[some (.r p),some (.d (deD c (.call q w')))],s1⟩) (jt (tst "unhear" s (by decide +kernel) false (by decide +kernel)) (oJ t5 (jt (tst "hear" s1 (by decide +kernel) false (by decide +kernel)) (jt (tst "cut" s1 (by decide +kernel) false (by decide +kernel)) (pM t6))))) (cM (aj rfl)))),L1,k1⟩
  ·have hh':st.1 q=false:=by simpa using hh
   rw [hh'] at t5;have ed:dsK ps dp I st (.call q w')=st:=if_neg λ z=>hh z.1;rw [ed];exact ⟨s1,run _ s1 (am (pM (t0 "call" false s (ai rfl rfl rfl) (by decide +kernel))) (am (w1:=⟨[some (.r p),some (.d (deD c (.call q w')))],s1⟩) (jt (tst "unhear" s (by decide +kernel) false (by decide +kernel)) (pM t5)) (cM (aj rfl)))),L1,k1⟩
end
noncomputable def tw (L:List He):List Str:=L.flatMap λ h=>h.a.map wo
section
variable {ps:List Nat} {dp:Nat} {I:In1}
theorem Ee:∀ (A:List De) (st:Ks×List Str),(A.foldl (dst ps dp I) st).2=st.2++A.map wo
 | [],st=>by simp
 | x::r,st=>by rw [N2,Ee r]; show (st.2++[wo x])++_=_; simp
theorem Ef:∀ (A:List De) (st:Ks) (ws ws':List Str),(A.foldl (dst ps dp I) (st,ws)).1=(A.foldl (dst ps dp I) (st,ws')).1
 | [],_,_,_=>rfl
 | x::r,st,ws,ws'=>Ef r _ _ _
theorem Ah:∀ (L:List He) (st:Ks×List Str),(L.foldl (stp ps dp I) st).2=st.2++tw L
 | [],st=>by simp [tw]
 | x::r,st=>by
  rw [N2,Ah r];unfold stp;rw [Ee];unfold tw;rw [Oy,NP]
theorem Dx:∀ (L:List He) (st:Ks) (ws ws':List Str),(L.foldl (stp ps dp I) (st,ws)).1=(L.foldl (stp ps dp I) (st,ws')).1
 | [],_,_,_=>rfl
 | x::r,st,ws,ws'=>by
  have h:=Ef (ps:=ps) (dp:=dp) (I:=I) x.a (st.1,st.2++[x]) ws ws';rw [N2,N2];have e:∀ ws,stp ps dp I (st,ws) x=((x.a.foldl (dst ps dp I) ((st.1,st.2++[x]),ws)).1,(x.a.foldl (dst ps dp I) ((st.1,st.2++[x]),ws)).2):=λ _=>rfl;rw [e ws,e ws',h];exact Dx r _ _ _
end
theorem Lm (x:De):wo x ≠ "stopnow" := by
 cases x with
 | keep=>exact (by decide +kernel:("keep" : Str) ≠ "stopnow")
 | stop=>exact (by decide +kernel:("stop" : Str) ≠ "stopnow")
 | cut q=>exact (by decide +kernel:("" : Str) ≠ "stopnow")
 | call q w=>exact (by decide +kernel:("" : Str) ≠ "stopnow")
theorem Jr (L:List He):("stopnow" : Str)∉tw L:=λ h=>by
 obtain ⟨y,_,hy⟩:=Ov.mp h;obtain ⟨z,_,e⟩:=Os.mp hy;exact Lm z e
theorem Fm {L:List He} (h:∀ x∈L,x.a.length<=2):(tw L).length<=2*L.length:=by
 induction L with
 | nil=>simp [tw]
 | cons x r ih =>
  have h1:=h x NJ;have h2:=ih λ y hy=>h y (NA _ hy);unfold tw at h2 ⊢;rw [Oy,Nn,Nl,NN];omega
theorem zP (c:Sc):∀ H:List He,keyIs' (kvs c H)=some (H.map λ h=>(h.i:Int))
 | []=>rfl
 | x::r=>by
  unfold kvs;rw [Ny,Ny];unfold keyIs';rw [show keyIs' (r.map _)=_ from zP c r]; rfl
noncomputable def wsD (ws:List Str):Cell:=.lst (ws.map λ y=>D.d (.str y))
section
variable {s:Sto} {p ph pr:Nat} {c:Sc} {ps:List Nat} {H:List He} {m dp:Nat} {w:Wo} {I:In1} {fh:DFn}
noncomputable abbrev tE (p:Nat) (c:Sc) (q:Nat) (w:Wo) (d:Bool) (x4 x5 x6 x7 x8:Option D):MEn:=[some (.r p),some (.d (c.s q)),some (.d (.str (wd w))),some (.d (.bool d)),x4,x5,x6,x7,x8]
theorem GE {η:MEn} {s1:Sto} {i:Nat} {r:D} {K:Nat->Bool} {g:MF} {h:He} (hi:η[i]?=some (some (.r p))) (ob:s1[p]?=some (.dct (lkv (sK c ps K).d ph m dp r))) (dc:s1[ph]?=some (.dct (kvs c H))) (hg:g ⟨η,s1⟩=some (.d (.int (h.i:Int)),s1)) (u:Un H) (hm:h∈H):de (de (mV i) (mP (eC (.str "hearers")))) g ⟨η,s1⟩=some (.d (heD c h),s1):=by
 have e1:mV i ⟨η,s1⟩=some (.r p,s1):=by unfold mV; dsimp only; rw [hi]
 exact dH (dH e1 (aj rfl) rfl ob D6) hg rfl dc (vn u hm)
theorem Jk (tr:Tn c ps) (up:Up I) (kc:Kc ps I) {st:Ks} (kep:Kep ps st.1) (L:Lw s p ph pr c ps H m dp st) (hI:dp < 3->InL p ph pr c ps H m dp fh I) (u:Un H) (so:(H.map λ h=>(h.i:Int)).Pairwise (·<=·)) (v:∀ h∈H,∀ x∈h.a,Val ps x) (v2:∀ h∈H,h.a.length<=2) (hl:H.length<=20) (q:Nat) (d:Bool) (hb:((H.filter (mt q w d)).foldl (stp ps dp I) (st,[])).1.2.length<=3000000) :
  ∃ s',mR fh [.r p,.d (c.s q),.d (.str (wd w)),.d (.bool d)] s=some (.d (.list ((tw (H.filter (mt q w d))).map PyData.str)),s')/\Lw s' p ph pr c ps H m dp ((H.filter (mt q w d)).foldl (stp ps dp I) (st,[])).1/\Lk s s' p pr:=by
 have lp:=cB L.ob;have lh:=cB L.dc;have lr:=cB L.rw;obtain ⟨F,hF⟩:∃ F,F=H.filter (mt q w d):=⟨_,rfl⟩;have hFm:∀ x∈F,x∈H:=λ x hx=>by rw [hF] at hx; exact (NU.mp hx).1
 have hFl:F.length<=20:=by rw [hF]; exact NL (OA ..) hl
 rw [<- hF] at hb ⊢;obtain ⟨s1,es1⟩:∃ s1,s1=s++[Cell.lst []]:=⟨_,rfl⟩;have l1:s1.length=s.length+1:=by rw [es1]; simp
 have L1:Lw s1 p ph pr c ps H m dp st:=by rw [es1]; exact L.app _
 have srt:yn (de (mV 0) (mP (eC (.str "hearers")))) ⟨tE p c q w d (some (.r s.length)) none none none none,s1⟩=some (.d (.list (H.map λ h=>.int (h.i:Int))),s1):=by
  unfold yn;rw [dH (o:=mV 0) (g:=mP (eC (.str "hearers"))) (w:=⟨tE p c q w d (some (.r s.length)) none none none none,s1⟩) rfl (aj rfl) rfl L1.ob D6,Nk];dsimp only;rw [L1.dc];dsimp only;rw [zP,Nk,if_pos (by rw [Nl]; omega),<- zF (List.Perm.refl _) so,Oe]; rfl
 have nums:=vi (mp:=[none,some 0,some 1,some 2,some 3]) (it:=iM (yn (de (mV 0) (mP (eC (.str "hearers")))))) (ks:=[0]) (t:=tgN 0) (pt:=mB (mG pEq (mSl (de (de (mV 1) (mP (eC (.str "hearers")))) (mP (eV 0))) pN (pS (eC (.int 3)))) (mP (lA (λ ds=>if ds.length<=No then some (.tuple ds) else none) (aC (eV 2) (aC (eV 3) (aC (eV 4) aN))))))) (f:=mP (eV 0)) (w:=⟨tE p c q w d (some (.r s.length)) none none none none,s1⟩) (λ h:He=>NS (h.i:Int)) (λ h:He=>NS (h.i:Int)) (mt q w d) (l:=H)
  (GB srt) (by omega) λ x hx cell=>⟨[some (.d (.int (x.i:Int))),some (.r p),some (.d (c.s q)),some (.d (.str (wd w))),some (.d (.bool d))],D2 (by show 0 < 5; decide),by
   have o2:(s1++[cell])[p]?=some (.dct (lkv (sK c ps st.1).d ph m dp (.r pr))):=by rw [Nm (cB L1.ob)]; exact L1.ob
   have d2:(s1++[cell])[ph]?=some (.dct (kvs c H)):=by rw [Nm (cB L1.dc)]; exact L1.dc
   exact uf (qh (Ku (l:=none) (h:=some ((3:Nat):Int)) (z:=.tuple [c.s x.q,.str (wd x.w),.bool x.d]) (GE rfl o2 d2 (aj rfl) u hx) rfl rfl (zK rfl) (by unfold heD pSl; dsimp only; rw [Dd]; rfl)) (aj (aI (ae rfl (ae rfl (ae rfl rfl))) (bR (by simp)))) rfl rfl (eq3 tr.ok x.q q x.w w x.d d) rfl),aj rfl⟩
 rw [<- hF] at nums;obtain ⟨s2,es2⟩:∃ s2,s2=s1++[Cell.fz (.list (F.map λ h=>.int (h.i:Int)))]:=⟨_,rfl⟩;have fzn:=rV (f:=mV 5) (w:=⟨tE p c q w d (some (.r s.length)) (some (.r s1.length)) none none none,s1++[.lst (F.map λ x=>D.d (.int (x.i:Int)))]⟩) rfl (lu rfl) (oz (λ h:He=>NS (h.i:Int)) F);rw [sZ rfl,<- es2] at fzn;have L2:Lw s2 p ph pr c ps H m dp st:=by rw [es2]; exact L1.app _
 have k2:Lk s s2 p pr:=by rw [es2,es1]; exact (Lk.app _).trans (Lk.app _)
 have w2:s2[s.length]?=some (wsD []):=by rw [es2,Nm (by omega),es1]; exact lu rfl
 obtain ⟨w',g1,s',x6,x7,x8,rfl,kp',L',ws',k'⟩:=l8 (ks:=[6]) (t:=tgN 6) (body:=mIf (nM (AR false (mP (eV 6)) (de (mV 0) (mP (eC (.str "hearers"))))) (mB (mG (pIn true) (mP (eC (.str "stopnow"))) (mV 4)))) (aV (bU 7 (mOp pIx (de (de (mV 0) (mP (eC (.str "hearers")))) (mP (eV 6))) (mP (eC (.int 3)))))
  (aV (mIf (mB (mOp pIx (de (de (mV 0) (mP (eC (.str "hearers")))) (mP (eV 6))) (mP (eC (.int 4))))) (λ _=>none) mNx)
  (aV (iJ (rX (de (mV 0) (mP (eC (.str "rows")))) (mP (lA (λ ds=>if ds.length<=No then some (.tuple ds) else none) (aC (eV 6) (aC (eV 1) (aC (eV 2) (aC (eV 3) aN))))))))
  (tQ [8] (iPu (lI nH (eV 7))) (tgN 8)
  (iJ (rX (mV 4) (fg (kH fh) (maC (mV 0) (maC (mP (eV 8)) maN))))))))) mNx)
  (λ h:He=>NS (h.i:Int)) (λ done w1=>∃ s3 x6 x7 x8,w1=⟨tE p c q w d (some (.r s.length)) (some (.r s1.length)) x6 x7 x8,s3⟩/\Kep ps (done.foldl (stp ps dp I) (st,[])).1.1/\Lw s3 p ph pr c ps H m dp (done.foldl (stp ps dp I) (st,[])).1/\s3[s.length]?=some (wsD (tw done))/\Lk s s3 p pr) F (w:=⟨tE p c q w d (some (.r s.length)) (some (.r s1.length)) none none none,s2⟩)
  (λ done x rest w1 e ⟨s3,x6,x7,x8,ew,kq,L3,w3,k3⟩=>by
   subst ew;have hxF:x∈F:=by rw [e]; simp
   have hx:x∈H:=hFm x hxF;have hxm:mt q w d x=true:=by rw [hF] at hxF; exact (NU.mp hxF).2
   obtain ⟨m1,m2,m3⟩:=mt_iff.mp hxm;have hb2:(stp ps dp I (done.foldl (stp ps dp I) (st,[])) x).1.2.length<=3000000:=by
    rw [e,N6,N2] at hb;exact NL (xr up rest _) hb
   have twd:(tw done).length<=40:=by
    have h1:=Fm (L:=done) λ y hy=>v2 y (hFm y (by rw [e]; exact Ob _ hy));have h2:=congrArg List.length e;rw [Nn] at h2;omega
   have esw:done.foldl (stp ps dp I) (st,[])=((done.foldl (stp ps dp I) (st,[])).1,tw done):=by
    refine Prod.ext rfl ?_;rw [Ah]; rfl
   rw [N6,N2,Py];rw [esw] at hb2 ⊢;generalize (done.foldl (stp ps dp I) (st,[])).1=sv at L3 hb2 kq;have hT:sv.2.length<=3000000:=NL (CI up (sv,tw done) x) hb2;unfold stp at hb2 ⊢;obtain ⟨s4,es4⟩:∃ s4,s4=s3.set pr (.lst (tlD c (sv.2++[x]))):=⟨_,rfl⟩;have L4:Lw s4 p ph pr c ps H m dp (sv.1,sv.2++[x]):=by rw [es4]; exact ⟨by rw [Nj L3.pp.symm]; exact L3.ob,by rw [Nj L3.hp.symm]; exact L3.dc,ki L3.rw,L3.ne⟩
   have k4:Lk s s4 p pr:=by rw [es4]; exact k3.trans Lk.setr
   have w4:s4[s.length]?=some (wsD (tw done)):=by rw [es4,Nj (by omega)]; exact w3
   obtain ⟨w5,g5,s5,y8,rfl,kq5,L5,w5',k5⟩:=l8 (ks:=[8]) (t:=tgN 8) (body:=iJ (rX (mV 4) (fg (kH fh) (maC (mV 0) (maC (mP (eV 8)) maN))))) (deD c) (λ dn w1=>∃ s6 y8,w1=⟨tE p c q w d (some (.r s.length)) (some (.r s1.length)) (some (.d (.int (x.i:Int)))) (some (.d (dsD c x.a))) y8,s6⟩/\Kep ps (dn.foldl (dst ps dp I) ((sv.1,sv.2++[x]),tw done)).1.1/\Lw s6 p ph pr c ps H m dp (dn.foldl (dst ps dp I) ((sv.1,sv.2++[x]),tw done)).1/\s6[s.length]?=some (wsD (tw done++dn.map wo))/\Lk s s6 p pr) x.a (w:=⟨tE p c q w d (some (.r s.length)) (some (.r s1.length)) (some (.d (.int (x.i:Int)))) (some (.d (dsD c x.a))) x8,s4⟩)
    (λ dn y rs w1 e1 ⟨s6,y8,ew,kq6,L6,w6,k6⟩=>by
     subst ew;have hb3:(dsK ps dp I (dn.foldl (dst ps dp I) ((sv.1,sv.2++[x]),tw done)).1 y).2.length<=3000000:=by
      rw [e1,N6,N2] at hb2;exact NL (xz (dp:=dp) up rs (dst ps dp I (dn.foldl (dst ps dp I) ((sv.1,sv.2++[x]),tw done)) y)) hb2
     obtain ⟨s7,r7,L7,k7⟩:=Ng (fh:=fh) tr kq6 L6 hI y (v x hx y (by rw [e1]; simp)) hb3;have l6:=cB w6;have w7:s7[s.length]?=some (wsD (tw done++dn.map wo)):=by rw [k7.kp _ l6 (by omega) (by omega)]; exact w6
     have dl:dn.length<=2:=by
      have h1:=v2 x hx;have h2:=congrArg List.length e1;rw [Nn] at h2;omega
     refine ⟨⟨tE p c q w d (some (.r s.length)) (some (.r s1.length)) (some (.d (.int (x.i:Int)))) (some (.d (dsD c x.a))) (some (.d (deD c y))),s6⟩,⟨tE p c q w d (some (.r s.length)) (some (.r s1.length)) (some (.d (.int (x.i:Int)))) (some (.d (dsD c x.a))) (some (.d (deD c y))),s7.set s.length (wsD (tw done++(dn++[y]).map wo))⟩,rfl,?_,_,_,rfl,?_,?_,?_,?_⟩
     ·have:=vm (o:=mV 4) (g:=fg (kH fh) (maC (mV 0) (maC (mP (eV 8)) maN))) (w:=⟨tE p c q w d (some (.r s.length)) (some (.r s1.length)) (some (.d (.int (x.i:Int)))) (some (.d (dsD c x.a))) (some (.d (deD c y))),s6⟩) rfl w6 (g7 (ax rfl (ax (aj rfl) bq)) r7) w7 (by rw [Nl,Nn,Nl]; omega)
      have h:=f8 this;rw [show wsD (tw done++(dn++[y]).map wo)=.lst ((tw done++dn.map wo).map (λ y=>D.d (.str y))++[.d (.str (wo y))]) by unfold wsD; simp];exact h
     ·rw [N6]; exact AZ tr.ps kc kq6 y
     ·rw [N6];exact ⟨by rw [Nj (by omega)]; exact L7.ob,by rw [Nj (by omega)]; exact L7.dc,by rw [Nj (by omega)]; exact L7.rw,L7.ne⟩
     ·exact ki w7
     ·exact ⟨by rw [NC]; exact (k6.trans k7).len,λ j h1 h2 h3=>by rw [Nj (by omega)]; exact (k6.trans k7).kp j h1 h2 h3⟩)
    ⟨s4,x8,rfl,kq,L4,by simpa using w4,k4⟩
   have c1:=D3 (neg:=false) (g:=mP (eV 6)) (o:=de (mV 0) (mP (eC (.str "hearers")))) (w:=⟨tE p c q w d (some (.r s.length)) (some (.r s1.length)) (some (.d (.int (x.i:Int)))) x7 x8,s3⟩) (aj rfl) (dH rfl (aj rfl) rfl L3.ob D6) rfl L3.dc;rw [vn u hx] at c1;have c2:mB (mG (pIn true) (mP (eC (.str "stopnow"))) (mV 4)) ⟨tE p c q w d (some (.r s.length)) (some (.r s1.length)) (some (.d (.int (x.i:Int)))) x7 x8,s3⟩=some (true,s3):=by
    refine uf (qh (x:=.str "stopnow") (y:=.list ((tw done).map PyData.str)) (aj rfl) rfl rfl ?_ (by rw [u9]; simp [Jr done]) rfl);show (match s3[s.length]? with | some (.fz x)=>some x | some (.lst ds)=>(tR ds).bind λ xs=>some (PyData.list xs) | some (.dct kvs)=>_ | _=>none)=_;rw [w3];show (tR _).bind _=_;rw [oz (λ y:Str=>PyData.str y)]; rfl
   refine ⟨⟨tE p c q w d (some (.r s.length)) (some (.r s1.length)) (some (.d (.int (x.i:Int)))) x7 x8,s3⟩,⟨tE p c q w d (some (.r s.length)) (some (.r s1.length)) (some (.d (.int (x.i:Int)))) (some (.d (dsD c x.a))) y8,s5⟩,rfl,?_,s5,_,_,_,rfl,kq5,L5,?_,k5⟩
   ·refine oJ (Ag c1 c2) (am (w1:=⟨tE p c q w d (some (.r s.length)) (some (.r s1.length)) (some (.d (.int (x.i:Int)))) (some (.d (dsD c x.a))) x8,s3⟩) (aO (qg (GE rfl L3.ob L3.dc (aj rfl) u hx) (aj rfl) rfl rfl rfl)) (am (pM (uf (qg (GE rfl L3.ob L3.dc (aj rfl) u hx) (aj rfl) rfl rfl rfl))) (am (w1:=⟨tE p c q w d (some (.r s.length)) (some (.r s1.length)) (some (.d (.int (x.i:Int)))) (some (.d (dsD c x.a))) x8,s4⟩) ?_ (l9 (sq (n4 rfl rfl)) g5))));rw [es4,show tlD c (sv.2++[x])=tlD c sv.2++[D.d (rwD c x)] by unfold tlD; rw [N4]; rfl];refine f8 (vm (dH rfl (aj rfl) rfl L3.ob JF) L3.rw (aj ?_) L3.rw (by rw [tlD,Nl]; omega));refine (aI (ae rfl (ae rfl (ae rfl (ae rfl rfl)))) (bR (by simp))).trans ?_;unfold rwD;rw [m1,m2,m3]
   ·rw [w5',show tw (done++[x])=tw done++x.a.map wo by unfold tw; rw [List.flatMap_append]; simp])
  ⟨s2,none,none,none,rfl,kep,L2,by simpa [tw] using w2,k2⟩
 have l':=cB ws';have fzw:=rV (f:=mV 4) (w:=⟨tE p c q w d (some (.r s.length)) (some (.r s1.length)) x6 x7 x8,s'⟩) rfl ws' (oz (λ y:Str=>PyData.str y) _);refine ⟨s'.set s.length (.fz (.list ((tw F).map PyData.str))),fQ rfl (show oi (kH fh) ⟨tE p c q w d none none none none none,s⟩=_ from ?_),⟨by rw [Nj (by omega)]; exact L'.ob,by rw [Nj (by omega)]; exact L'.dc,by rw [Nj (by omega)]; exact L'.rw,L'.ne⟩,⟨by rw [NC]; exact k'.len,λ j h1 h2 h3=>by rw [Nj (by omega)]; exact k'.kp j h1 h2 h3⟩⟩;refine am (w1:=⟨tE p c q w d (some (.r s.length)) none none none none,s1⟩) (by rw [es1]; exact aO mN0) (am (aO nums) (am (l9 (GB fzn) g1) (cM fzw)))
end
theorem Ak {j:Int} {n:Nat} (h:j=(n:Int)) (hn:n<=1000):rng1 [.int j]=some ((List.range n).map λ (k:Nat)=>NS (0+(k:Int))):=by
 subst h;rw [Aj (by omega) (by omega)];show some (zc 0 ((n:Int).toNat))=_;rw [show ((n:Int).toNat)=n by omega]; rfl
theorem JW {l:List Nat} {i:Nat} {x:Nat×Bool} (h:(trn l)[i]?=some x):(l++l.reverse)[i]?=some x.1/\decide (i < l.length)=x.2:=by
 unfold trn at h;by_cases hi:i < l.length
 ·rw [Nm (by rw [Nl]; exact hi),NG] at h;rw [Nm hi,decide_eq_true hi];obtain ⟨y,hy,e⟩:=Pe.mp h;rw [hy,<- e]; exact ⟨rfl,rfl⟩
 ·rw [Nt (by rw [Nl]; omega),Nl,NG] at h;rw [Nt (by omega),decide_eq_false hi];obtain ⟨y,hy,e⟩:=Pe.mp h;rw [hy,<- e]; exact ⟨rfl,rfl⟩
theorem Hk {α:Type} (l:List α):(List.range l.length).map (λ (k:Nat)=>NS (0+(k:Int)))=l.zipIdx.map λ x=>NS (0+(x.2:Int)):=by
 have:List.range l.length=l.zipIdx.map Prod.snd:=by rw [List.zipIdx_map_snd,List.range_eq_range']
 rw [this,Oe]; rfl
theorem Hn {α:Type} (l:List α):l.zipIdx.map Prod.fst=l:=List.zipIdx_map_fst 0 l
theorem B1 {α β γ:Type} (f:γ->α->γ) (l:List (α×β)) (x:γ):(l.map Prod.fst).foldl f x=l.foldl (λ y z=>f y z.1) x:=List.foldl_map ..
section
variable {s:Sto} {p ph pr:Nat} {c:Sc} {ps:List Nat} {H:List He} {m dp:Nat} {w:Wo} {I:In1}
noncomputable abbrev gE (p:Nat) (c:Sc) (q:Nat) (w:Wo) (x3 x4 x5 x6:Option D):MEn:=[some (.r p),some (.d (c.s q)),some (.d (.str (wd w))),x3,x4,x5,x6]
noncomputable abbrev wL (ws:List Str):Option D:=some (.d (.list (ws.map PyData.str)))
theorem Hi {n:Nat} (tr:Tn c ps) (up:Up I) (kc:Kc ps I) {st:Ks} (kep:Kep ps st.1) (L:Lw s p ph pr c ps H m dp st) (hI:dp < 3->InL p ph pr c ps H m dp (bh n) I) (u:Un H) (so:(H.map λ h=>(h.i:Int)).Pairwise (·<=·)) (v:∀ h∈H,∀ x∈h.a,Val ps x) (v2:∀ h∈H,h.a.length<=2) (hl:H.length<=20) {q:Nat} (hq:In ps q) (hk:st.1 q=true) (hb:((trn (P ps q)).foldl (atp ps H w dp I) (st,[])).1.2.length<=3000000) :
  ∃ s',bh (n+1) [.r p,.d (c.s q),.d (.str (wd w))] s=some (.d (.bool (kpW ((trn (P ps q)).foldl (atp ps H w dp I) (st,[])).2)),s')/\Lw s' p ph pr c ps H m dp ((trn (P ps q)).foldl (atp ps H w dp I) (st,[])).1/\Lk s s' p pr:=by
 have l7:=P_7 (Dw tr) hq;have lT:=Dv (P ps q);have hin:∀ x∈trn (P ps q),In ps x.1:=λ x hx=>P_in' tr.ps q hq (Du hx);obtain ⟨l,el⟩:∃ l,l=P ps q:=⟨_,rfl⟩;rw [<- el] at l7 lT hin hb ⊢;have ez:(trn l).foldl (atp ps H w dp I) (st,[])=(trn l).zipIdx.foldl (λ y z=>atp ps H w dp I y z.1) (st,[]):=by
  conv=>lhs; rw [<- Hn (trn l)]
  exact B1 _ _ _
 rw [ez] at hb ⊢;obtain ⟨w',g1,s',x5,x6,rfl,kp',no',ln',L',k'⟩:=l8 (ks:=[5]) (t:=tgN 5) (body:=aV (bU 6 (mP (l2 pIx (l2 aM (eV 3) (l2 pRv (eV 3) (l1 EH (eC (.int 1))))) (eV 5))))
  (mIf (nM (tPv (bT (l2 (pIn true) (eC (.str "stop")) (eV 4)))) (nM (tPv (bT (l2 (pIn true) (eC (.str "stopnow")) (eV 4)))) (mB (fg ay (maC (mV 0) (maC (mP (eV 6)) maN)))))) (bU 4 (mOp aM (mP (eV 4)) (fg (mR (bh n)) (maC (mV 0) (maC (mP (eV 6)) (maC (mP (eV 2)) (maC (mP (l2 pLt (eV 5) (lA oI (aC (eV 3) aN)))) maN))))))) mNx))
  (λ x:(Nat×Bool)×Nat=>NS (0+(x.2:Int))) (λ done w1=>∃ s1 x5 x6,w1=⟨gE p c q w (some (.d (c.S l))) (wL (done.foldl (λ y z=>atp ps H w dp I y z.1) (st,[])).2) x5 x6,s1⟩/\Kep ps (done.foldl (λ y z=>atp ps H w dp I y z.1) (st,[])).1.1/\("stopnow" : Str)∉(done.foldl (λ y z=>atp ps H w dp I y z.1) (st,[])).2/\(done.foldl (λ y z=>atp ps H w dp I y z.1) (st,[])).2.length<=40*done.length/\Lw s1 p ph pr c ps H m dp (done.foldl (λ y z=>atp ps H w dp I y z.1) (st,[])).1/\Lk s s1 p pr) (trn l).zipIdx (w:=⟨gE p c q w (some (.d (c.S l))) (wL []) none none,s⟩)
  (λ done x rest w1 e ⟨s1,x5,x6,ew,kq,no,ln,L1,k1⟩=>by
   subst ew;have hxm:x∈(trn l).zipIdx:=by rw [e]; simp
   have hat:(trn l)[x.2]?=some x.1:=by
    have:=List.mem_zipIdx_iff_getElem?.mp hxm
    exact this
   obtain ⟨a1,a2⟩:=JW hat;have hx:In ps x.1.1:=hin x.1 (OV hat);have dl:done.length<=14:=by
    have:=congrArg List.length e
    rw [Nn,List.length_zipIdx,lT] at this;omega
   have hb2:(atp ps H w dp I (done.foldl (λ y z=>atp ps H w dp I y z.1) (st,[])) x.1).1.2.length<=3000000:=by
    rw [e,N6,N2] at hb;refine NL ?_ hb
    have:=xF (ps:=ps) (dp:=dp) up (H:=H) (w:=w) (rest.map Prod.fst) (atp ps H w dp I (done.foldl (λ y z=>atp ps H w dp I y z.1) (st,[])) x.1)
    rw [B1] at this;exact this
   rw [N6,N2,Py];generalize done.foldl (λ y z=>atp ps H w dp I y z.1) (st,[])=sw at L1 hb2 kq no ln;have e6:bU 6 (mP (l2 pIx (l2 aM (eV 3) (l2 pRv (eV 3) (l1 EH (eC (.int 1))))) (eV 5))) ⟨gE p c q w (some (.d (c.S l))) (wL sw.2) (some (.d (.int (0+(x.2:Int))))) x6,s1⟩=some (.nx ⟨gE p c q w (some (.d (c.S l))) (wL sw.2) (some (.d (.int (0+(x.2:Int))))) (some (.d (c.s x.1.1))),s1⟩):=by
    refine aO (aj (ai (x:=c.S (l++l.reverse)) (ai rfl (ai rfl (L9 rfl rfl) rfl) ?_) rfl ?_))
    ·show aM (.list (l.map c.s)) (.list (l.map c.s).reverse)=_;rw [zw (by simp; omega)];unfold Sc.S;rw [N4,Pl]
    ·show atI ((l++l.reverse).map c.s) (0+(x.2:Int))=_;rw [Int.zero_add];exact qr (by rw [NG,a1]; rfl)
   have t1:tPv (bT (l2 (pIn true) (eC (.str "stop")) (eV 4))) ⟨gE p c q w (some (.d (c.S l))) (wL sw.2) (some (.d (.int (0+(x.2:Int))))) (some (.d (c.s x.1.1))),s1⟩=some (!ltW sw.2,s1):=eY (dr (ai rfl rfl (u9 true "stop" sw.2)));have t2:tPv (bT (l2 (pIn true) (eC (.str "stopnow")) (eV 4))) ⟨gE p c q w (some (.d (c.S l))) (wL sw.2) (some (.d (.int (0+(x.2:Int))))) (some (.d (c.s x.1.1))),s1⟩=some (true,s1):=eY (dr (ai rfl rfl ((u9 true "stopnow" sw.2).trans (by simp [no]))));have kq2:Kep ps (atp ps H w dp I sw x.1).1.1:=vL tr.ps kc [x.1] sw kq;by_cases hs:ltW sw.2=true
   ·have es:atp ps H w dp I sw x.1=sw:=if_neg (by rw [hs]; simp);rw [hs] at t1;rw [es];exact ⟨_,⟨gE p c q w (some (.d (c.S l))) (wL sw.2) (some (.d (.int (0+(x.2:Int))))) (some (.d (c.s x.1.1))),s1⟩,rfl,am e6 (pM (JX t1)),s1,_,_,rfl,kq,no,by rw [Nn]; omega,L1,k1⟩
   ·have hs':ltW sw.2=false:=by simpa using hs
    rw [hs'] at t1;have ft:=xH tr L1.ob (c.nm x.1.1);rw [uX tr hx] at ft;obtain ⟨s2,es2⟩:∃ s2,s2=s1++[Cell.lst ((stK ps sw.1.1).map λ x=>D.d (c.s x.1))]:=⟨_,rfl⟩;rw [<- es2] at ft;have L2:Lw s2 p ph pr c ps H m dp sw.1:=by rw [es2]; exact L1.app _
    have k2:Lk s s2 p pr:=by rw [es2]; exact k1.trans (Lk.app _)
    have t5:mB (fg ay (maC (mV 0) (maC (mP (eV 6)) maN))) ⟨gE p c q w (some (.d (c.S l))) (wL sw.2) (some (.d (.int (0+(x.2:Int))))) (some (.d (c.s x.1.1))),s1⟩=some (sw.1.1 x.1.1,s2):=uf (g7 (ax rfl (ax (aj rfl) bq)) ft);have tt:nM (tPv (bT (l2 (pIn true) (eC (.str "stop")) (eV 4)))) (nM (tPv (bT (l2 (pIn true) (eC (.str "stopnow")) (eV 4)))) (mB (fg ay (maC (mV 0) (maC (mP (eV 6)) maN))))) ⟨gE p c q w (some (.d (c.S l))) (wL sw.2) (some (.d (.int (0+(x.2:Int))))) (some (.d (c.s x.1.1))),s1⟩=some (sw.1.1 x.1.1,s2):=Ag t1 (Ag t2 t5);by_cases hh:sw.1.1 x.1.1=true
    ·rw [hh] at tt;have es:atp ps H w dp I sw x.1=(H.filter (mt x.1.1 w x.1.2)).foldl (stp ps dp I) sw:=if_pos (by rw [hh,hs']; rfl);have e1:(atp ps H w dp I sw x.1).1=((H.filter (mt x.1.1 w x.1.2)).foldl (stp ps dp I) (sw.1,[])).1:=by
      rw [es]; exact Dx _ sw.1 sw.2 []
     have e2:(atp ps H w dp I sw x.1).2=sw.2++tw (H.filter (mt x.1.1 w x.1.2)):=by rw [es]; exact Ah _ _
     rw [e1] at hb2;obtain ⟨s3,r3,L3,k3⟩:=Jk (fh:=bh n) tr up kc kq L2 hI u so v v2 hl x.1.1 x.1.2 hb2;have lt2:(tw (H.filter (mt x.1.1 w x.1.2))).length<=40:=by
      have h1:=Fm (L:=H.filter (mt x.1.1 w x.1.2)) λ y hy=>v2 y (NU.mp hy).1;have h2:=OA (mt x.1.1 w x.1.2) H;omega
     refine ⟨_,⟨gE p c q w (some (.d (c.S l))) (wL (atp ps H w dp I sw x.1).2) (some (.d (.int (0+(x.2:Int))))) (some (.d (c.s x.1.1))),s3⟩,rfl,am e6 (oJ tt ?_),s3,_,_,rfl,kq2,?_,?_,?_,k2.trans k3⟩
     ·have hd:l2 pLt (eV 5) (lA oI (aC (eV 3) aN)) (vw ⟨gE p c q w (some (.d (c.S l))) (wL sw.2) (some (.d (.int (0+(x.2:Int))))) (some (.d (c.s x.1.1))),s2⟩)=some (.bool x.1.2):=by
       refine ai rfl (aI (ae rfl rfl) rfl) ?_;show some (PyData.bool (decide (0+(x.2:Int) < ((l.map c.s).length:Int))))=_;rw [<- a2,Nl]
       congr 2
       exact decide_eq_decide.mpr (by omega)
      refine aO (qg (aj rfl) (g7 (ax rfl (ax (aj rfl) (ax (aj rfl) (ax (aj hd) bq)))) r3) rfl rfl ?_);rw [zw (by rw [Nl,Nl]; omega),e2,N4]
     ·rw [e2,N1];exact λ z=>z.elim no (Jr _)
     ·rw [e2,Nn,Nn,OF]; omega
     ·rw [e1]; exact L3
    ·have hh':sw.1.1 x.1.1=false:=by simpa using hh
     rw [hh'] at tt;have es:atp ps H w dp I sw x.1=sw:=if_neg (by rw [hh']; simp);rw [es];exact ⟨_,⟨gE p c q w (some (.d (c.S l))) (wL sw.2) (some (.d (.int (0+(x.2:Int))))) (some (.d (c.s x.1.1))),s2⟩,rfl,am e6 (pM tt),s2,_,_,rfl,kq,no,by rw [Nn]; omega,L2,k2⟩)
  ⟨s,none,none,rfl,kep,by simp,by simp,L,Lk.refl⟩
 refine ⟨s',fQ rfl (show om bQ ay (mR (bh n)) ⟨gE p c q w none none none none,s⟩=_ from ?_),L',k'⟩;have ep:=Hf tr kep hq hk;rw [<- el] at ep;refine am (aO (AS (ax (dH rfl (aj rfl) rfl L.ob zO) (ax (aj rfl) bq)) rfl ep)) (am (aO (aj rfl)) (am (l9 (s:=s) (xs:=(trn l).zipIdx.map λ x=>NS (0+(x.2:Int))) (sq ?_) g1) (cM (aj (ai rfl rfl (u9 false "keep" _))))));rw [<- Hk,lT];refine eO (ae (d:=.int (((l.length+l.length:Nat)):Int)) (ai (y:=.int (l.length:Int)) rfl (aI (ae rfl rfl) (by show some (NS ((l.map c.s).length:Int))=_; rw [Nl])) ?_) rfl) (Ak rfl (by omega));rw [kW (zj (by decide) (by decide))]
 congr 2
 omega
end
section
variable {s:Sto} {p ph pr:Nat} {c:Sc} {ps:List Nat} {H:List He} {m:Nat}
theorem Hh (tr:Tn c ps) (u:Un H) (so:(H.map λ h=>(h.i:Int)).Pairwise (·<=·)) (v:∀ h∈H,∀ x∈h.a,Val ps x) (v2:∀ h∈H,h.a.length<=2) (hl:H.length<=20):∀ (n dp:Nat),dp<=3->4<=n+dp->∀ (s:Sto) (q:Nat) (w:Wo) (st:Ks),In ps q->st.1 q=true->Kep ps st.1->Lw s p ph pr c ps H m dp st->(crs ps H n dp q w st).1.2.length<=3000000 ->
  ∃ s',bh n [.r p,.d (c.s q),.d (.str (wd w))] s=some (.d (.bool (kpW (crs ps H n dp q w st).2)),s')/\Lw s' p ph pr c ps H m dp (crs ps H n dp q w st).1/\Lk s s' p pr
 | 0,dp,h1,h2=>by omega
 | n+1,dp,h1,h2=>λ s q w st hq hk kep L hb=>by
  have inn:dp < 3->InL p ph pr c ps H m dp (bh n) λ q w st=>(crs ps H n (dp+1) q w st).1:=λ hd s q w st hq hk kep L hb=>by
   obtain ⟨s',e1,e2,e3⟩:=Hh tr u so v v2 hl n (dp+1) (by omega) (by omega) s q w st hq hk kep L hb;exact ⟨s',_,e1,e2,e3⟩
  exact Hi tr (λ q w st=>Df n (dp+1) q w st) (λ q w st h=>xB tr.ps n (dp+1) q w st h) kep L inn u so v v2 hl hq hk hb
structure Lx (s:Sto) (p ph:Nat) (c:Sc) (ps:List Nat) (H:List He) (m:Nat) (K:Nat->Bool):Prop where
 ob:∃ r,s[p]?=some (.dct (lkv (sK c ps K).d ph m 0 r))
 dc:s[ph]?=some (.dct (kvs c H))
 ne:p≠ph
theorem Jm {K:Nat->Bool} (L0:Lx s p ph c ps H m K) (tr:Tn c ps) (u:Un H) (so:(H.map λ h=>(h.i:Int)).Pairwise (·<=·)) (v:∀ h∈H,∀ x∈h.a,Val ps x) (v2:∀ h∈H,h.a.length<=2) (hl:H.length<=20) {q:Nat} (hq:In ps q) (hk:K q=true) (kep:Kep ps K) (w:Wo) (hb:(ran ps H q w K).1.2.length<=3000000) :
  ∃ s',c7 [.r p,.d (c.s q),.d (.str (wd w))] s=some (.d (anD c (ran ps H q w K).1.2 (kpW (ran ps H q w K).2)),s')/\Lx s' p ph c ps H m (ran ps H q w K).1.1/\s.length<=s'.length/\∀ j,j < s.length->j≠p->s'[j]?=s[j]?:=by
 obtain ⟨r,ob⟩:=L0.ob;have lp:=cB ob;have lh:=cB L0.dc;obtain ⟨s1,es1⟩:∃ s1,s1=(s++[Cell.lst []]).set p (.dct (lkv (sK c ps K).d ph m 0 (.r s.length))):=⟨_,rfl⟩;have o1:(s++[Cell.lst []])[p]?=some (.dct (lkv (sK c ps K).d ph m 0 r)):=by rw [Nm lp]; exact ob
 have L1:Lw s1 p ph s.length c ps H m 0 (K,[]):=by
  rw [es1];exact ⟨ki o1,by rw [Nj L0.ne,Nm lh]; exact L0.dc,by rw [Nj (by omega)]; exact lu rfl,L0.ne⟩
 obtain ⟨s2,r2,L2,k2⟩:=Hh tr u so v v2 hl 5 0 (by omega) (by omega) s1 q w (K,[]) hq hk kep L1 hb;have l1:s1.length=s.length+1:=by rw [es1,NC]; simp
 have f1:=nY (o:=mV 0) (g:=mP (eC (.str "rows"))) (e:=mN (λ η=>(aN η).bind gL)) (w:=⟨[some (.r p),some (.d (c.s q)),some (.d (.str (wd w))),none],s⟩) (ky:=.inr "rows") mN0 rfl (aj rfl) rfl o1 (by show 5<=3000000; decide);rw [LQ] at f1;rw [<- es1] at f1;have k4:=rV (f:=de (mV 0) (mP (eC (.str "rows")))) (w:=⟨[some (.r p),some (.d (c.s q)),some (.d (.str (wd w))),some (.d (.bool (kpW (ran ps H q w K).2)))],s2⟩) (dH rfl (aj rfl) rfl L2.ob JF) L2.rw (oz _ _);refine ⟨s2.set s.length (.fz (.list ((ran ps H q w K).1.2.map (rwD c)))),fQ rfl (show oq (bh 5) ⟨[some (.r p),some (.d (c.s q)),some (.d (.str (wd w))),none],s⟩=_ from ?_),⟨⟨_,by rw [Nj (by omega)]; exact L2.ob⟩,by rw [Nj (by omega)]; exact L2.dc,L0.ne⟩,by rw [NC]; have:=k2.len; omega,λ j hj hp=>?_⟩
 ·exact am f1 (am (aO (g7 (ax rfl (ax (aj rfl) (ax (aj rfl) bq))) r2)) (cM (ym (ax k4 (ax (aj rfl) bq)) rfl (by simp))))
 ·rw [Nj (by omega),k2.kp j (by omega) hp (by omega),es1,Nj (Ne.symm hp),Nm hj]
theorem Jl {K:Nat->Bool} (L0:Lx s p ph c ps H m K) (hl:H.length<=1000) (hi:∀ x∈H,x.i≠m) (q:Nat) (w:Wo) (d:Bool) (A:List De) :
  ∃ s',bG [.r p,.d (c.s q),.d (.str (wd w)),.d (.bool d),.d (dsD c A),.d (.bool false)] s=some (.d (.int (m:Int)),s')/\Lx s' p ph c ps (H++[⟨m,q,w,d,A⟩]) (m+1) K/\s'.length=s.length/\∀ j,j≠p->j≠ph->s'[j]?=s[j]?:=by
 obtain ⟨r,ob⟩:=L0.ob;obtain ⟨s1,es1⟩:∃ s1,s1=s.set ph (.dct (kvs c (H++[⟨m,q,w,d,A⟩]))):=⟨_,rfl⟩;have o1:s1[p]?=some (.dct (lkv (sK c ps K).d ph m 0 r)):=by rw [es1,Nj L0.ne.symm]; exact ob
 have d1:s1[ph]?=some (.dct (kvs c (H++[⟨m,q,w,d,A⟩]))):=by rw [es1]; exact ki L0.dc
 obtain ⟨s2,es2⟩:∃ s2,s2=s1.set p (.dct (lkv (sK c ps K).d ph (m+1) 0 r)):=⟨_,rfl⟩;have o2:s2[p]?=some (.dct (lkv (sK c ps K).d ph (m+1) 0 r)):=by rw [es2]; exact ki o1
 refine ⟨s2,fQ rfl (show ol ⟨[some (.r p),some (.d (c.s q)),some (.d (.str (wd w))),some (.d (.bool d)),some (.d (dsD c A)),some (.d (.bool false))],s⟩=_ from ?_),⟨⟨r,o2⟩,by rw [es2,Nj L0.ne]; exact d1,L0.ne⟩,by rw [es2,es1,NC,NC],λ j h1 h2=>by rw [es2,Nj (Ne.symm h1),es1,Nj (Ne.symm h2)]⟩;have f1:=nY (o:=de (mV 0) (mP (eC (.str "hearers")))) (g:=de (mV 0) (mP (eC (.str "many")))) (e:=mP (lA (λ ds=>if ds.length<=No then some (.tuple ds) else none) (aC (eV 1) (aC (eV 2) (aC (eV 3) (aC (eV 4) (aC (eV 5) aN))))))) (w:=⟨[some (.r p),some (.d (c.s q)),some (.d (.str (wd w))),some (.d (.bool d)),some (.d (dsD c A)),some (.d (.bool false))],s⟩) (ky:=.inl (m:Int)) (d:=.d (heD c ⟨m,q,w,d,A⟩)) (aj (aI (ae rfl (ae rfl (ae rfl (ae rfl (ae rfl rfl))))) (bR (by simp)))) (dH rfl (aj rfl) rfl ob D6) (dH rfl (aj rfl) rfl ob Gt) rfl L0.dc (by unfold kvs; rw [Nl]; omega);rw [DG hi,show kvs c H++[(.inl (m:Int),.d (heD c ⟨m,q,w,d,A⟩))]=kvs c (H++[⟨m,q,w,d,A⟩]) by unfold kvs; rw [N4]; rfl,<- es1] at f1;have f2:=nY (o:=mV 0) (g:=mP (eC (.str "many"))) (e:=mOp aM (de (mV 0) (mP (eC (.str "many")))) (mP (eC (.int 1)))) (w:=⟨[some (.r p),some (.d (c.s q)),some (.d (.str (wd w))),some (.d (.bool d)),some (.d (dsD c A)),some (.d (.bool false))],s1⟩) (ky:=.inr "many") (d:=.d (.int ((m+1:Nat):Int))) (qg (dH rfl (aj rfl) rfl o1 Gt) (aj rfl) rfl rfl rfl) rfl (aj rfl) rfl o1 (by show 5<=3000000; decide);rw [LR,<- es2] at f2;refine am f1 (am f2 (cM (qg (dH rfl (aj rfl) rfl o2 Gt) (aj rfl) rfl rfl ?_)));show some (NS (((m+1:Nat):Int) - 1))=_
 congr 2; omega
end
section
variable {ps:List Nat} {dp b:Nat} {I:In1} (hI:dp < 3->∀ q w st,(I q w st).2.length<=st.2.length+b)
include hI
theorem KP (st:Ks×List Str) (x:De):(dst ps dp I st x).1.2.length<=st.1.2.length+b:=by
 show (dsK ps dp I st.1 x).2.length<=_;cases x with
 | call q w =>
  show (if st.1.1 q=true/\dp < 3 then I q w st.1 else st.1).2.length<=_
  split
  ·rename_i h; exact hI h.2 q w st.1
  ·omega
 | cut q =>
  show (if st.1.1 q=true then (sF ps st.1.1 q,st.1.2) else st.1).2.length<=_
  split <;> exact Nat.le_add_right _ _
 | _=>exact Nat.le_add_right _ _
theorem Eg:∀ (A:List De) (st:Ks×List Str),(A.foldl (dst ps dp I) st).1.2.length<=st.1.2.length+A.length*b
 | [],st=>by simp
 | x::r,st=>by
  have h1:=KP (ps:=ps) hI st x;have h2:=Eg r (dst ps dp I st x);rw [N2,NN,Nat.add_mul];omega
theorem J5 (st:Ks×List Str) (h:He) (ha:h.a.length<=2):(stp ps dp I st h).1.2.length<=st.1.2.length+(1+2*b):=by
 have:=Eg (ps:=ps) hI h.a ((st.1.1,st.1.2++[h]),st.2)
 unfold stp;have e:(((st.1.1,st.1.2++[h]),st.2):Ks×List Str).1.2.length=st.1.2.length+1:=by simp
 have m:h.a.length*b<=2*b:=Pw _ ha;omega
theorem Dy:∀ (L:List He) (st:Ks×List Str),(∀ h∈L,h.a.length<=2)->(L.foldl (stp ps dp I) st).1.2.length<=st.1.2.length+L.length*(1+2*b)
 | [],st,_=>by simp
 | x::r,st,h=>by
  have h1:=J5 (ps:=ps) hI st x (h x NJ);have h2:=Dy r (stp ps dp I st x) λ y hy=>h y (NA _ hy);rw [N2,NN,Nat.add_mul];omega
theorem Em {H:List He} {w:Wo} (v2:∀ h∈H,h.a.length<=2):∀ (ts:List (Nat×Bool)) (st:Ks×List Str),(ts.foldl (atp ps H w dp I) st).1.2.length<=st.1.2.length+(ts.map λ x=>(H.filter (mt x.1 w x.2)).length).sum*(1+2*b)
 | [],st=>by simp
 | x::r,st=>by
  have h2:=Em (w:=w) v2 r (atp ps H w dp I st x);have h1:(atp ps H w dp I st x).1.2.length<=st.1.2.length+(H.filter (mt x.1 w x.2)).length*(1+2*b):=by
   unfold atp
   split
   ·exact Dy hI _ st λ h hh=>v2 h (NU.mp hh).1
   ·exact Nat.le_add_right _ _
  rw [N2,Ny,List.sum_cons,Nat.add_mul];omega
end
theorem B6 (w:Wo):∀ (ts:List (Nat×Bool)),ts.Nodup->∀ H:List He,(ts.map λ x=>(H.filter (mt x.1 w x.2)).length).sum<=H.length
 | [],_,_=>by simp
 | x::r,hn,H=>by
  obtain ⟨h1,h2⟩:=OY.mp hn;have ih:=B6 w r h2 (H.filter λ h=>!mt x.1 w x.2 h);have e:(r.map λ y=>(H.filter (mt y.1 w y.2)).length)=r.map λ y=>((H.filter λ h=>!mt x.1 w x.2 h).filter (mt y.1 w y.2)).length:=List.map_congr_left λ y hy=>by
   rw [OZ]
   congr 1
   refine O4 λ h _=>?_;by_cases hm:mt y.1 w y.2 h=true
   ·have:mt x.1 w x.2 h=false:=by
     cases hx:mt x.1 w x.2 h with
     | false=>rfl
     | true =>
      obtain ⟨a1,_,a3⟩:=mt_iff.mp hm;obtain ⟨b1,_,b3⟩:=mt_iff.mp hx;exact absurd (show x∈r by rw [show x=y from Prod.ext (b1.symm.trans a1) (b3.symm.trans a3)]; exact hy) h1
    rw [hm,this]; rfl
   ·have hm':mt y.1 w y.2 h=false:=by simpa using hm
    rw [hm']; rfl
  rw [Ny,List.sum_cons,e];have h3:=List.length_eq_countP_add_countP (mt x.1 w x.2) (l:=H);rw [List.countP_eq_length_filter,List.countP_eq_length_filter] at h3;have h4:(H.filter λ a=>decide ¬ mt x.1 w x.2 a=true)=H.filter λ h=>!mt x.1 w x.2 h:=O4 λ a _=>by cases mt x.1 w x.2 a <;> rfl
  rw [h4] at h3;omega
theorem Jh {ps:List Nat} (ok:tY ps):∀ q,(P ps q).Nodup:=by
 intro q
 induction q using OE with
 | _ q ih =>
  by_cases h1:1<=q
  ·rw [io ok h1];have hp:=iL ok h1;rw [O3];refine ⟨ih _ hp,by simp,λ x hx y hy e=>?_⟩
   have:y=q:=by simpa using hy
   have:=Ha ok _ _ hx
   omega
  ·have:q=0:=by omega
   subst this;exact List.nodup_nil
theorem Ew {l:List Nat} (h:l.Nodup):(trn l).Nodup:=by
 unfold trn;rw [O3];refine ⟨?_,?_,?_⟩
 ·exact List.Pairwise.map _ (λ a b h e=>h (congrArg Prod.fst e)) h
 ·exact List.Pairwise.map _ (λ a b h e=>h (congrArg Prod.fst e)) ((List.reverse_perm l).nodup_iff.mpr h)
 ·intro x hx y hy e;obtain ⟨u,_,rfl⟩:=Os.mp hx;obtain ⟨v,_,rfl⟩:=Os.mp hy;exact absurd (congrArg Prod.snd e) (by simp [dT,dF])
section
variable {ps:List Nat} (ok:tY ps) {H:List He} (hl:H.length<=5) (v2:∀ h∈H,h.a.length<=2)
include ok hl v2
theorem xC {n dp b:Nat} (hI:dp < 3->∀ q w st,(crs ps H n (dp+1) q w st).1.2.length<=st.2.length+b) (q:Nat) (w:Wo) (st:Ks):(crs ps H (n+1) dp q w st).1.2.length<=st.2.length+5*(1+2*b):=by
 have h1:=Em (ps:=ps) (dp:=dp) (b:=b) (I:=λ q w st=>(crs ps H n (dp+1) q w st).1) hI (H:=H) (w:=w) v2 (trn (P ps q)) (st,[]);have h2:=B6 w _ (Ew (Jh ok q)) H;have h3:((trn (P ps q)).map λ x=>(H.filter (mt x.1 w x.2)).length).sum*(1+2*b)<=5*(1+2*b):=Pw _ (by omega);show ((trn (P ps q)).foldl _ (st,[])).1.2.length<=_;have e:((st,[]):Ks×List Str).1.2.length=st.2.length:=rfl;omega
theorem Am (q:Nat) (w:Wo) (K:Nat->Bool):(ran ps H q w K).1.2.length<=5555:=by
 have g3:=xC (n:=1) (dp:=3) (b:=0) ok hl v2 (λ h=>by omega);have g2:=xC (n:=2) (dp:=2) (b:=5) ok hl v2 (λ _=>g3);have g1:=xC (n:=3) (dp:=1) (b:=55) ok hl v2 (λ _=>g2);have g0:=xC (n:=4) (dp:=0) (b:=555) ok hl v2 (λ _=>g1) q w (K,[]);exact g0
end
noncomputable abbrev Row:=Wo×Option Nat
noncomputable def nmR (c:Sc):Option Nat->Str
 | some q=>c.nm q
 | none => "zz"
noncomputable def jA (c:Sc) (r:Row):Nh:=.tuple [.str (wd r.1),.str (nmR c r.2)]
noncomputable def eRw (c:Sc) (x:Row×Nat):Nh:=.tuple [.int (x.2:Int),jA c x.1]
theorem AY {c:Sc}:∀ (R:List Row) (n:Nat),mM (R.map (jA c)) n=(R.zipIdx n).map (eRw c)
 | [],_=>rfl
 | x::r,n=>by
  rw [Ny,List.zipIdx_cons,Ny];unfold mM;rw [AY r (n+1)]; rfl
structure Ss where
 K:Nat->Bool
 C:List He
 k:List Nat
noncomputable def thr (K:Nat->Bool):Option Nat->Bool
 | some q=>K q
 | none=>false
noncomputable def rst (ps:List Nat) (H:List He) (z:Ss) (x:Row×Nat):Ss:=match x.1.2 with
 | some q=>if z.K q=true then ⟨(ran ps H q x.1.1 z.K).1.1,z.C++(ran ps H q x.1.1 z.K).1.2,if kpW (ran ps H q x.1.1 z.K).2=true then z.k++[x.2] else z.k⟩ else z
 | none=>z
noncomputable def seD (c:Sc) (C:List He) (k:List Nat):Nh:=.tuple [.list (C.map (rwD c)),.list (k.map λ i:Nat=>.int (i:Int))]
noncomputable def z0:Ss:=⟨λ _=>true,[],[]⟩
section
variable {c:Sc} {ps:List Nat}
theorem MD (h:c.Ok) {n:Str} (hn:NW n=true):aR [c.d,.str n]=some (.bool (decide (n∈c.st.map λ x=>c.nm x.1))):=by
 have e:bH [none,some 1] (lI nH (eV 0)) (tgN 0) cS (l2 pEq (l2 pIx (eV 0) (eC (.int 0))) (eV 1)) [.val c.d,.val (.str n)]=some ((c.st.map λ x=>decide (c.nm x.1=n)).map PyData.bool):=by
  refine ie (ds:=c.st.map c.box) (n4 rfl rfl) (by rw [Nl]; have:=h.len; omega) ?_;rw [Oe];exact lq (η:=[.un,.val (.str n)]) c.box (λ x=>.bool (decide (c.nm x.1=n))) c.st λ x hx=>⟨[.val (c.box x),.val (.str n)],rfl,ai (ai rfl rfl rfl) rfl (Ax (h.ok _) hn)⟩
 have e2:=aI (ae (g:=aN) (jp e) rfl) (AB _);have e3:(c.st.map λ x=>decide (c.nm x.1=n)).any id=decide (n∈c.st.map λ x=>c.nm x.1):=by
  rw [List.any_map,OH,OM,decide_eq_true_eq,Os];exact ⟨λ ⟨x,hx,e⟩=>⟨x,hx,of_decide_eq_true e⟩,λ ⟨x,hx,e⟩=>⟨x,hx,decide_eq_true e⟩⟩
 rw [e3] at e2;exact kn rfl (show nB [.val c.d,.val (.str n)]=_ from lW e2)
structure Zz (c:Sc) (ps:List Nat):Prop where
 no:∀ q,In ps q->c.nm q ≠ "zz"
theorem Ll:NW "zz" = true:=by decide +kernel
theorem Kq (h:c.Ok) (o:Option Nat):NW (nmR c o)=true:=by
 cases o with
 | none=>exact Ll
 | some q=>exact h.ok q
theorem Fr (tr:Tn c ps) (zz:Zz c ps) {K:Nat->Bool} (o:Option Nat) (ho:∀ q,o=some q->In ps q):decide (nmR c o∈(stK ps K).map λ x=>c.nm x.1)=thr K o:=by
 cases o with
 | some q=>exact uX tr (ho q rfl)
 | none =>
  refine decide_eq_false λ hm=>?_;obtain ⟨x,hx,e⟩:=Os.mp hm;obtain ⟨h1,h2,_⟩:=vW (NU.mp hx).1;exact zz.no x.1 ⟨h1,h2⟩ e
end
section
variable {ps:List Nat} (ok:tY ps) {H:List He} (hl:H.length<=5) (v2:∀ h∈H,h.a.length<=2)
include ok hl v2
theorem HP (z:Ss) (x:Row×Nat):(rst ps H z x).C.length<=z.C.length+5555/\(rst ps H z x).k.length<=z.k.length+1:=by
 unfold rst
 split
 ·rename_i q _
  split
  ·have:=Am ok hl v2 q x.1.1 z.K
   refine ⟨by rw [Nn]; omega,?_⟩;dsimp only
   split
   ·simp
   ·omega
  ·omega
 ·omega
theorem xT:∀ (D:List (Row×Nat)) (z:Ss),(D.foldl (rst ps H) z).C.length<=z.C.length+5555*D.length/\(D.foldl (rst ps H) z).k.length<=z.k.length+D.length
 | [],z=>by simp
 | x::r,z=>by
  have h1:=HP ok hl v2 z x;have h2:=xT r (rst ps H z x);rw [N2,NN];omega
omit hl v2 in
theorem DC {z:Ss} (h:Kep ps z.K) (x:Row×Nat):Kep ps (rst ps H z x).K:=by
 unfold rst
 split
 ·split
  ·exact xB ok 5 0 _ _ _ h
  ·exact h
 ·exact h
end
theorem Gp {w:Wd} {n:Nat} {s s1:Sto} {d:D} {ds ds0:List D} {ys:List Nh} {o g:MF} (h1:o w=some (.r n,s)) (h2:s[n]?=some (.lst ds0)) (h3:g ⟨w.η,s⟩=some (d,s1)) (hd:pD s1 d=some (.list ys)) (h4:s1[n]?=some (.lst ds)) (hl:ds.length+ys.length<=3000000):zN o g w=some (.d .none,s1.set n (.lst (ds++ys.map .d))):=by
 unfold zN;rw [h1,Nk];dsimp only;rw [h2];dsimp only;rw [h3,Nk,hd,Nk];dsimp only;rw [h4];dsimp only;rw [if_pos (NL hl (by decide))]
structure Se (s0 s:Sto) (a:Nat) (c:Sc) (C:List He) (k:List Nat):Prop where
 kp:∀ i,i < s0.length->i≠a->s[i]?=s0[i]?
 ln:s0.length+2<=s.length
 cl:s[s0.length]?=some (.lst (C.map λ x=>D.d (rwD c x)))
 ke:s[s0.length+1]?=some (.lst (k.map λ i:Nat=>D.d (.int (i:Int))))
section
variable {s:Sto} {a b:Nat} {c:Sc} {ps:List Nat} {m:Nat} {H:List He}
theorem Fd (P0:Hl s a b (sK c ps λ _=>true) H m) (tr:Tn c ps) (zz:Zz c ps) (u:Un H) (v:∀ h∈H,∀ x∈h.a,Val ps x) (v2:∀ h∈H,h.a.length<=2) (hl:H.length<=5) (R:List Row) (hR:∀ r∈R,∀ q,r.2=some q->In ps q) (lR:R.length<=200) :
  ∃ s',kI [.r a,.d (.list (R.map (jA c)))] s=some (.d (seD c (R.zipIdx.foldl (rst ps H) z0).C (R.zipIdx.foldl (rst ps H) z0).k),s')/\Hl s' a b (sK c ps (R.zipIdx.foldl (rst ps H) z0).K) H m/\s.length<=s'.length/\∀ i,i < s.length->i≠a->s'[i]?=s[i]?:=by
 have la:=cB P0.ob;have lb:=cB P0.dc;have nab:a≠b:=P0.ne;have hZ:∀ x∈R.zipIdx,∀ q,x.1.2=some q->In ps q:=λ x hx=>hR _ (List.fst_mem_of_mem_zipIdx hx);have lZ:R.zipIdx.length<=200:=by rw [List.length_zipIdx]; exact lR
 obtain ⟨rv,erv⟩:∃ rv:D,rv=.d (.list (R.map (jA c))):=⟨_,rfl⟩;obtain ⟨w',e1,s',x4,x5,x6,rfl,kp',h',e3⟩:=l8 (ks:=[4,5]) (t:=tgT (aX (tgN 4) (aX (tgN 5) gX))) (body:=(mIf (mB (mCB aR (maC (df 3 "boxes" bp (mV 0) maN) (maC (mP (l2 pIx (eV 5) (eC (.int 1)))) maN)))) (aV (bU 6 (df 3 "call" di (mV 0) (maC (mP (l2 pIx (eV 5) (eC (.int 1)))) (maC (mP (l2 pIx (eV 5) (eC (.int 0)))) maN))))
  (aV (iJ (zN (mV 2) (mP (l2 pIx (eV 6) (eC (.int 0))))))
  (mIf (tPv (bT (l2 pIx (eV 6) (eC (.int 1))))) (iJ (rX (mV 3) (mP (eV 4)))) mNx))) mNx))
  (eRw c) (λ done w1=>∃ s1 x4 x5 x6,w1=⟨[some (.r a),some rv,some (.r s.length),some (.r (s.length+1)),x4,x5,x6],s1⟩/\Kep ps (done.foldl (rst ps H) z0).K/\Hl s1 a b (sK c ps (done.foldl (rst ps H) z0).K) H m/\Se s s1 a c (done.foldl (rst ps H) z0).C (done.foldl (rst ps H) z0).k) R.zipIdx
  (w:=⟨[some (.r a),some rv,some (.r s.length),some (.r (s.length+1)),none,none,none],(s++[.lst []])++[.lst []]⟩)
  (λ done x rest w1 e ⟨s1,x4,x5,x6,ew,kq,h1,S⟩=>by
   subst ew;have hx:x∈R.zipIdx:=by rw [e]; simp
   have hin:=hZ x hx;have ld:done.length<=200:=by
    have:=congrArg List.length e
    rw [Nn] at this;omega
   have lc:=xT tr.ps hl v2 done z0;have lc0:z0.C.length=0:=rfl;have lk0:z0.k.length=0:=rfl;rw [N6,N2,Py];generalize done.foldl (rst ps H) z0=z at kq h1 S lc;have kq2:=DC (H:=H) tr.ps kq x;have hbx:bp [.r a] s1=some (.d (sK c ps z.K).d,s1):=Eu h1;have hh:=MD (okK tr z.K) (Kq tr.ok x.1.2);rw [show ((sK c ps z.K).st.map λ x=>(sK c ps z.K).nm x.1)=(stK ps z.K).map λ x=>c.nm x.1 from rfl,Fr tr zz x.1.2 hin] at hh;have g1:mB (mCB aR (maC (df 3 "boxes" bp (mV 0) maN) (maC (mP (l2 pIx (eV 5) (eC (.int 1)))) maN))) ⟨[some (.r a),some rv,some (.r s.length),some (.r (s.length+1)),some (.d (.int (x.2:Int))),some (.d (jA c x.1)),x6],s1⟩=some (thr z.K x.1.2,s1) :=
    uf (AS (ax (dP rfl h1.ob rfl bq hbx) (ax (aj (ai rfl rfl rfl)) bq)) rfl hh)
   by_cases ht:thr z.K x.1.2=true
   ·rw [ht] at g1;obtain ⟨⟨wd1,o⟩,i⟩:=x;cases o with
    | none=>cases ht
    | some q =>
    have hq:In ps q:=hin q rfl;have hk:z.K q=true:=ht;have lr:=Am tr.ps hl v2 q wd1 z.K;obtain ⟨s2,hc,h2,l2',k2⟩:=Lj h1 tr u v (by omega) hq hk kq wd1 (by omega);have es:rst ps H z ((wd1,some q),i)=⟨(ran ps H q wd1 z.K).1.1,z.C++(ran ps H q wd1 z.K).1.2,if kpW (ran ps H q wd1 z.K).2=true then z.k++[i] else z.k⟩:=if_pos hk;rw [es] at kq2 ⊢;generalize ran ps H q wd1 z.K=rn at lr hc h2 kq2;have ls:=S.ln;have S2:Se s s2 a c z.C z.k:=⟨λ i hi ha=>by rw [k2 i (by omega) ha]; exact S.kp i hi ha,by omega,by rw [k2 _ (by omega) (by omega)]; exact S.cl,by rw [k2 _ (by omega) (by omega)]; exact S.ke⟩;have S3:Se s (s2.set s.length (.lst ((z.C++rn.1.2).map λ x=>D.d (rwD c x)))) a c (z.C++rn.1.2) z.k:=⟨λ i hi ha=>by rw [Nj (by omega)]; exact S2.kp i hi ha,by rw [NC]; exact S2.ln,ki S2.cl,by rw [Nj (by omega)]; exact S2.ke⟩;have H3:Hl (s2.set s.length (.lst ((z.C++rn.1.2).map λ x=>D.d (rwD c x)))) a b (sK c ps rn.1.1) H m:=⟨by rw [Nj (by omega)]; exact h2.ob,by rw [Nj (by omega)]; exact h2.dc⟩;have g2:bU 6 (df 3 "call" di (mV 0) (maC (mP (l2 pIx (eV 5) (eC (.int 1)))) (maC (mP (l2 pIx (eV 5) (eC (.int 0)))) maN))) ⟨[some (.r a),some rv,some (.r s.length),some (.r (s.length+1)),some (.d (.int (i:Int))),some (.d (jA c (wd1,some q))),x6],s1⟩=some (.nx ⟨[some (.r a),some rv,some (.r s.length),some (.r (s.length+1)),some (.d (.int (i:Int))),some (.d (jA c (wd1,some q))),some (.d (anD c rn.1.2 (kpW rn.2)))],s2⟩) :=
     aO (dP rfl h1.ob rfl (ax (aj (ai rfl rfl rfl)) (ax (aj (ai rfl rfl rfl)) bq)) hc)
    have g3:iJ (zN (mV 2) (mP (l2 pIx (eV 6) (eC (.int 0))))) ⟨[some (.r a),some rv,some (.r s.length),some (.r (s.length+1)),some (.d (.int (i:Int))),some (.d (jA c (wd1,some q))),some (.d (anD c rn.1.2 (kpW rn.2)))],s2⟩=some (.nx ⟨[some (.r a),some rv,some (.r s.length),some (.r (s.length+1)),some (.d (.int (i:Int))),some (.d (jA c (wd1,some q))),some (.d (anD c rn.1.2 (kpW rn.2)))],s2.set s.length (.lst ((z.C++rn.1.2).map λ x=>D.d (rwD c x)))⟩):=by
     have:=Gp (o:=mV 2) (g:=mP (l2 pIx (eV 6) (eC (.int 0)))) (w:=⟨[some (.r a),some rv,some (.r s.length),some (.r (s.length+1)),some (.d (.int (i:Int))),some (.d (jA c (wd1,some q))),some (.d (anD c rn.1.2 (kpW rn.2)))],s2⟩) (ys:=rn.1.2.map (rwD c)) rfl S2.cl (aj (ai rfl rfl rfl)) rfl S2.cl (by rw [Nl,Nl]; omega)
     rw [Oe] at this;have h:=f8 this;rw [N4];exact h
    refine ⟨⟨[some (.r a),some rv,some (.r s.length),some (.r (s.length+1)),some (.d (.int (i:Int))),some (.d (jA c (wd1,some q))),x6],s1⟩,?_⟩;by_cases hk:kpW rn.2=true
    ·rw [if_pos hk];have g4:=vm (o:=mV 3) (g:=mP (eV 4)) (w:=⟨[some (.r a),some rv,some (.r s.length),some (.r (s.length+1)),some (.d (.int (i:Int))),some (.d (jA c (wd1,some q))),some (.d (anD c rn.1.2 (kpW rn.2)))],s2.set s.length (.lst ((z.C++rn.1.2).map λ x=>D.d (rwD c x)))⟩) (d:=.d (.int (i:Int))) rfl S3.ke (aj rfl) S3.ke (by rw [Nl]; omega);refine ⟨_,rfl,oJ g1 (am g2 (am g3 (oJ (eY (dr (ai rfl rfl (by show some (PyData.bool (kpW rn.2))=some (.bool true); rw [hk])))) (f8 g4)))),_,_,_,_,rfl,kq2,?_,?_⟩
     ·exact ⟨by rw [Nj (by omega)]; exact H3.ob,by rw [Nj (by omega)]; exact H3.dc⟩
     ·exact ⟨λ i hi ha=>by rw [Nj (by omega)]; exact S3.kp i hi ha,by rw [NC]; exact S3.ln,by rw [Nj (by omega)]; exact S3.cl,(ki S3.ke).trans (by rw [N4]; rfl)⟩
    ·have hk':kpW rn.2=false:=by simpa using hk
     rw [if_neg hk];exact ⟨_,rfl,oJ g1 (am g2 (am g3 (pM (eY (dr (ai rfl rfl (by show some (PyData.bool (kpW rn.2))=some (.bool false); rw [hk']))))))),_,_,_,_,rfl,kq2,H3,S3⟩
   ·have ht':thr z.K x.1.2=false:=by simpa using ht
    rw [ht'] at g1;have es:rst ps H z x=z:=by
     unfold rst;cases ho:x.1.2 with
     | none=>rfl
     | some q =>
      rw [ho] at ht';exact if_neg (by rw [show z.K q=false from ht']; decide)
    rw [es];exact ⟨⟨[some (.r a),some rv,some (.r s.length),some (.r (s.length+1)),some (.d (.int (x.2:Int))),some (.d (jA c x.1)),x6],s1⟩,_,rfl,pM g1,_,_,_,_,rfl,kq,h1,S⟩)
  ⟨_,none,none,none,rfl,λ _ _ _ _ _=>rfl,⟨by rw [NP,Nm la]; exact P0.ob,by rw [NP,Nm lb]; exact P0.dc⟩,λ i hi _=>by rw [NP,Nm hi],by simp,by rw [Nm (by simp)]; exact lu rfl,lu (by rw [Nn]; rfl)⟩
 have l1:=cB e3.cl;have k5:=rV (f:=mV 2) (w:=⟨[some (.r a),some rv,some (.r s.length),some (.r (s.length+1)),x4,x5,x6],s'⟩) rfl e3.cl (oz _ _);have k6:=rV (f:=mV 3) (w:=⟨[some (.r a),some rv,some (.r s.length),some (.r (s.length+1)),x4,x5,x6],s'.set s.length (.fz (.list ((R.zipIdx.foldl (rst ps H) z0).C.map (rwD c))))⟩) (n:=s.length+1) rfl (by rw [Nj (by omega)]; exact e3.ke) (oz _ _);refine ⟨(s'.set s.length (.fz (.list ((R.zipIdx.foldl (rst ps H) z0).C.map (rwD c))))).set (s.length+1) (.fz (.list ((R.zipIdx.foldl (rst ps H) z0).k.map λ i:Nat=>NS (i:Int)))),fQ rfl (show wf aR bp di ⟨[some (.r a),some (.d (.list (R.map (jA c)))),none,none,none,none,none],s⟩=_ from ?_),⟨by rw [Nj (by omega),Nj (by omega)]; exact h'.ob,by rw [Nj (by omega),Nj (by omega)]; exact h'.dc⟩,by rw [NC,NC]; have:=e3.ln; omega,?_⟩
 ·rw [<- erv];refine am (aO mN0) (am (w1:=⟨[some (.r a),some rv,some (.r s.length),some (.r (s.length+1)),none,none,none],(s++[.lst []])++[.lst []]⟩) ?_ (am (l9 (sq ?_) e1) (cM (ym (ax k5 (ax k6 bq)) rfl (by simp)))))
  ·refine (aO mN0).trans ?_
   simp
  ·rw [erv];show some (mM (R.map (jA c)) 0)=_;rw [AY]
 ·intro i hi ha;rw [Nj (by omega),Nj (by omega)];exact e3.kp i hi ha
end
theorem Jc {ι:Type} (f:ι->Nh) (h:∀ x,Og (f x)=true/\PyData.depth (f x)<=1):∀ l:List ι,Oq (l.map f)=true/\Ox (l.map f)<=1
 | []=>⟨rfl,by simp [Ox]⟩
 | x::l=>by
  obtain ⟨h1,h2⟩:=Jc f h l;obtain ⟨h3,h4⟩:=h x;refine ⟨?_,?_⟩
  ·simp [Oq,h1,h3]
  ·rw [Ny];unfold Ox;omega
theorem Ju {d:Nh} (h1:Og d=true) (h2:PyData.depth d<=64):Of d=true:=by
 unfold Of;rw [h1,decide_eq_true h2]; rfl
theorem LC {c:Sc} (h:c.Ok) (C:List He) (k:List Nat):Of (seD c C k)=true:=by
 obtain ⟨h1,h2⟩:=Jc (rwD c) (λ x=>⟨by simp [rwD,Sc.s,Oq,Og,h.ok,Jq],by simp [rwD,Sc.s,Ox,PyData.depth]⟩) C;obtain ⟨h3,h4⟩:=Jc (λ i:Nat=>NS (i:Int)) (λ x=>⟨rfl,by simp [PyData.depth]⟩) k;refine Ju (by simp [seD,Og,Oq,h1,h3]) ?_;unfold seD;simp only [PyData.depth,Ox];omega
theorem Mn {c:Sc} (h:c.Ok):Of c.d=true:=by
 obtain ⟨h1,h2⟩:=Jc c.box (λ x=>⟨by simp [Sc.box,Oq,Og,h.ok,h.okm],by simp [Sc.box,Ox,PyData.depth]⟩) c.st;refine Ju (by unfold Sc.d; simp [Og,h1]) ?_;unfold Sc.d;simp only [PyData.depth];omega
theorem IQ {fs:En->Option (List Nh)} {g:En->Option Nh} {η:En} {d:Nh} {b:Bool} (h1:fs η=some [d]) (h2:g η=some (.int (if b then 1 else 0))):GK fs g η=some (.list (if b=true then [d] else [])):=by
 unfold GK;rw [h1,Nk,h2,Nk];cases b <;> rfl
noncomputable abbrev rBd:Wd->Option MOut:=(mIf (mB (fg ay (maC (mV 3) (maC (mP (l2 pIx (eV 20) (eC (.int 1)))) maN)))) (aV (ER [13,21] (fg c7 (maC (mV 3) (maC (mP (l2 pIx (eV 20) (eC (.int 1)))) (maC (mP (l2 pIx (eV 20) (eC (.int 0)))) maN)))) (tgT (aX (tgN 13) (aX (tgN 21) gX))))
  (aV (bU 17 (mP (l2 aM (eV 17) (eV 13))))
  (bU 18 (mP (l2 aM (eV 18) (GK (λ η=>((aC (eV 19) aN) η).bind gL) (lA xX (aC (eV 21) aN)))))))) mNx)
noncomputable abbrev rE (x0 x1 x2:Option D) (p:Nat) (x4 x5 x6 x7 x8 x9 x10 x11 x12 x13 x14 x15 x16:Option D) (c:Sc) (C:List He) (k:List Nat) (x19 x20 x21:Option D):MEn:=[x0,x1,x2,some (.r p),x4,x5,x6,x7,x8,x9,x10,x11,x12,x13,x14,x15,x16,some (.d (.list (C.map (rwD c)))),some (.d (.list (k.map λ i:Nat=>.int (i:Int)))),x19,x20,x21]
section
variable {s:Sto} {p ph:Nat} {c:Sc} {ps:List Nat} {m:Nat} {H:List He} {x0 x1 x2 x4 x5 x6 x7 x8 x9 x10 x11 x12 x13 x14 x15 x16 x19 x20 x21:Option D}
theorem HQ (L0:Lx s p ph c ps H m λ _=>true) (tr:Tn c ps) (zz:Zz c ps) (u:Un H) (so:(H.map λ h=>(h.i:Int)).Pairwise (·<=·)) (v:∀ h∈H,∀ x∈h.a,Val ps x) (v2:∀ h∈H,h.a.length<=2) (hl:H.length<=5) (R:List Row) (hR:∀ r∈R,∀ q,r.2=some q->In ps q) (lR:R.length<=200) :
  ∃ s' y13 y19 y20 y21,mGo [19,20] (tgT (aX (tgN 19) (aX (tgN 20) gX))) rBd (R.zipIdx.map (eRw c)) ⟨rE x0 x1 x2 p x4 x5 x6 x7 x8 x9 x10 x11 x12 x13 x14 x15 x16 c [] [] x19 x20 x21,s⟩=some (.nx ⟨rE x0 x1 x2 p x4 x5 x6 x7 x8 x9 x10 x11 x12 y13 x14 x15 x16 c (R.zipIdx.foldl (rst ps H) z0).C (R.zipIdx.foldl (rst ps H) z0).k y19 y20 y21,s'⟩)/\Lx s' p ph c ps H m (R.zipIdx.foldl (rst ps H) z0).K/\s.length<=s'.length/\∀ i,i < s.length->i≠p->s'[i]?=s[i]?:=by
 have hZ:∀ x∈R.zipIdx,∀ q,x.1.2=some q->In ps q:=λ x hx=>hR _ (List.fst_mem_of_mem_zipIdx hx);have lZ:R.zipIdx.length<=200:=by rw [List.length_zipIdx]; exact lR
 obtain ⟨w',e1,s',y13,y19,y20,y21,rfl,kp',L',l',k'⟩:=l8 (ks:=[19,20]) (t:=tgT (aX (tgN 19) (aX (tgN 20) gX))) (body:=rBd) (eRw c) (λ done w1=>∃ s1 y13 y19 y20 y21,w1=⟨rE x0 x1 x2 p x4 x5 x6 x7 x8 x9 x10 x11 x12 y13 x14 x15 x16 c (done.foldl (rst ps H) z0).C (done.foldl (rst ps H) z0).k y19 y20 y21,s1⟩/\Kep ps (done.foldl (rst ps H) z0).K/\Lx s1 p ph c ps H m (done.foldl (rst ps H) z0).K/\s.length<=s1.length/\∀ i,i < s.length->i≠p->s1[i]?=s[i]?) R.zipIdx
  (w:=⟨rE x0 x1 x2 p x4 x5 x6 x7 x8 x9 x10 x11 x12 x13 x14 x15 x16 c [] [] x19 x20 x21,s⟩)
  (λ done x rest w1 e ⟨s1,y13,y19,y20,y21,ew,kq,L1,l1,k1⟩=>by
   subst ew;have hx:x∈R.zipIdx:=by rw [e]; simp
   have hin:=hZ x hx;have ld:done.length<=200:=by
    have:=congrArg List.length e
    rw [Nn] at this;omega
   have lc:=xT tr.ps hl v2 done z0;have lc0:z0.C.length=0:=rfl;have lk0:z0.k.length=0:=rfl;rw [N6,N2,Py];generalize done.foldl (rst ps H) z0=z at kq L1 lc;have kq2:=DC (H:=H) tr.ps kq x;obtain ⟨r,ob⟩:=L1.ob;have ft:=xH tr ob (nmR c x.1.2);rw [Fr tr zz x.1.2 hin] at ft;obtain ⟨s2,es2⟩:∃ s2,s2=s1++[Cell.lst ((stK ps z.K).map λ x=>D.d (c.s x.1))]:=⟨_,rfl⟩;rw [<- es2] at ft;have lp:=cB ob;have len2:s2.length=s1.length+1:=by rw [es2]; simp
   have k2:∀ i,i < s1.length->s2[i]?=s1[i]?:=λ i hi=>by rw [es2,Nm hi]
   have L2:Lx s2 p ph c ps H m z.K:=⟨⟨r,by rw [k2 p lp]; exact ob⟩,by rw [k2 ph (cB L1.dc)]; exact L1.dc,L1.ne⟩;have g1:mB (fg ay (maC (mV 3) (maC (mP (l2 pIx (eV 20) (eC (.int 1)))) maN))) ⟨rE x0 x1 x2 p x4 x5 x6 x7 x8 x9 x10 x11 x12 y13 x14 x15 x16 c z.C z.k (some (.d (.int (x.2:Int)))) (some (.d (jA c x.1))) y21,s1⟩=some (thr z.K x.1.2,s2) :=
    uf (g7 (ax rfl (ax (aj (ai rfl rfl rfl)) bq)) ft)
   by_cases ht:thr z.K x.1.2=true
   ·rw [ht] at g1;obtain ⟨⟨wd1,o⟩,i⟩:=x;cases o with
    | none=>cases ht
    | some q =>
    have hq:In ps q:=hin q rfl;have hk:z.K q=true:=ht;have lr:=Am tr.ps hl v2 q wd1 z.K;obtain ⟨s3,hc,L3,l3,k3⟩:=Jm L2 tr u so v v2 (by omega) hq hk kq wd1 (by omega);have es:rst ps H z ((wd1,some q),i)=⟨(ran ps H q wd1 z.K).1.1,z.C++(ran ps H q wd1 z.K).1.2,if kpW (ran ps H q wd1 z.K).2=true then z.k++[i] else z.k⟩:=if_pos hk;rw [es] at kq2 ⊢;generalize ran ps H q wd1 z.K=rn at lr hc L3 kq2;have g2:ER [13,21] (fg c7 (maC (mV 3) (maC (mP (l2 pIx (eV 20) (eC (.int 1)))) (maC (mP (l2 pIx (eV 20) (eC (.int 0)))) maN)))) (tgT (aX (tgN 13) (aX (tgN 21) gX))) ⟨rE x0 x1 x2 p x4 x5 x6 x7 x8 x9 x10 x11 x12 y13 x14 x15 x16 c z.C z.k (some (.d (.int (i:Int)))) (some (.d (jA c (wd1,some q)))) y21,s2⟩=some (.nx ⟨rE x0 x1 x2 p x4 x5 x6 x7 x8 x9 x10 x11 x12 (some (.d (.list (rn.1.2.map (rwD c))))) x14 x15 x16 c z.C z.k (some (.d (.int (i:Int)))) (some (.d (jA c (wd1,some q)))) (some (.d (.bool (kpW rn.2)))),s3⟩) :=
     Iz (g7 (ax rfl (ax (aj (ai rfl rfl rfl)) (ax (aj (ai rfl rfl rfl)) bq))) hc) rfl
    refine ⟨⟨rE x0 x1 x2 p x4 x5 x6 x7 x8 x9 x10 x11 x12 y13 x14 x15 x16 c z.C z.k (some (.d (.int (i:Int)))) (some (.d (jA c (wd1,some q)))) y21,s1⟩,⟨rE x0 x1 x2 p x4 x5 x6 x7 x8 x9 x10 x11 x12 (some (.d (.list (rn.1.2.map (rwD c))))) x14 x15 x16 c (z.C++rn.1.2) (if kpW rn.2=true then z.k++[i] else z.k) (some (.d (.int (i:Int)))) (some (.d (jA c (wd1,some q)))) (some (.d (.bool (kpW rn.2)))),s3⟩,rfl,oJ g1 (am g2 (am (w1:=⟨rE x0 x1 x2 p x4 x5 x6 x7 x8 x9 x10 x11 x12 (some (.d (.list (rn.1.2.map (rwD c))))) x14 x15 x16 c (z.C++rn.1.2) z.k (some (.d (.int (i:Int)))) (some (.d (jA c (wd1,some q)))) (some (.d (.bool (kpW rn.2)))),s3⟩) (aO (aj (ai rfl rfl ?_))) (aO (aj (ai rfl (IQ (b:=kpW rn.2) (d:=.int (i:Int)) (eO (ae rfl rfl) (ou (by simp))) (aI (ae rfl rfl) rfl)) ?_))))),s3,_,_,_,_,rfl,kq2,L3,by omega,λ j hj hp=>?_⟩
    ·rw [zw (by rw [Nl,Nl]; omega),N4]
    ·rw [zw (by rw [Nl]; split <;> simp <;> omega)]
     split
     ·rw [N4]; rfl
     ·rw [Oi]
    ·rw [k3 j (by omega) hp,k2 j (by omega)]; exact k1 j hj hp
   ·have ht':thr z.K x.1.2=false:=by simpa using ht
    rw [ht'] at g1;have es:rst ps H z x=z:=by
     unfold rst;cases ho:x.1.2 with
     | none=>rfl
     | some q =>
      rw [ho] at ht';exact if_neg (by rw [show z.K q=false from ht']; decide)
    rw [es];exact ⟨⟨rE x0 x1 x2 p x4 x5 x6 x7 x8 x9 x10 x11 x12 y13 x14 x15 x16 c z.C z.k (some (.d (.int (x.2:Int)))) (some (.d (jA c x.1))) y21,s1⟩,_,rfl,pM g1,s2,_,_,_,_,rfl,kq,L2,by omega,λ j hj hp=>by rw [k2 j (by omega)]; exact k1 j hj hp⟩)
  ⟨s,x13,x19,x20,x21,rfl,λ _ _ _ _ _=>rfl,L0,Np _,λ _ _ _=>rfl⟩
 exact ⟨s',y13,y19,y20,y21,e1,L',l',k'⟩
end
noncomputable abbrev hIt:Wd->Option (List Nh×Sto):=(iPu (λ η=>((aC (l2 pIx (oE (λ η=>((aC (eC (.int 0)) (aC (lA af (aC (eV 0) (aC (eC (.int 100)) (aC (eC (.int 6)) aN)))) aN)) η).bind gL)) (lA xX (aC (l2 pNe (eV 1) (lA (λ ds=>if ds.length<=No then some (.tuple ds) else none) aN)) aN))) aN) η).bind rng1))
noncomputable abbrev hBd:Wd->Option MOut:=(aV (bU 7 (mP (l2 aM (eC (.int 101)) (l2 nv (eC (.int 9)) (eV 6)))))
  (aV (bU 8 (mP (l2 pIx (eV 4) (lA af (aC (eV 0) (aC (eV 7) (aC (lA oI (aC (eV 4) aN)) aN)))))))
  (aV (bU 9 (mP (l2 pIx (oE (λ η=>((aC (eC (.str "move")) (aC (eC (.str "enter")) (aC (eC (.str "leave")) (aC (eC (.str "down")) aN)))) η).bind gL)) (lA af (aC (eV 0) (aC (l2 aM (eV 7) (eC (.int 1))) (aC (eC (.int 4)) aN)))))))
  (aV (bU 10 (mP (l2 pEq (lA af (aC (eV 0) (aC (l2 aM (eV 7) (eC (.int 2))) (aC (eC (.int 2)) aN)))) (eC (.int 0)))))
  (aV (bU 11 (mP (l2 pIx (eV 4) (lA af (aC (eV 0) (aC (l2 aM (eV 7) (eC (.int 4))) (aC (lA oI (aC (eV 4) aN)) aN)))))))
  (aV (bU 12 (mP (oE (λ η=>((aC (lA (λ ds=>if ds.length<=No then some (.tuple ds) else none) aN) (aC (lA (λ ds=>if ds.length<=No then some (.tuple ds) else none) (aC (lA (λ ds=>if ds.length<=No then some (.tuple ds) else none) (aC (eC (.str "keep")) aN)) aN)) (aC (lA (λ ds=>if ds.length<=No then some (.tuple ds) else none) (aC (lA (λ ds=>if ds.length<=No then some (.tuple ds) else none) (aC (eC (.str "stop")) aN)) aN)) (aC (lA (λ ds=>if ds.length<=No then some (.tuple ds) else none) (aC (lA (λ ds=>if ds.length<=No then some (.tuple ds) else none) (aC (eC (.str "cut")) (aC (eV 11) aN))) aN)) (aC (lA (λ ds=>if ds.length<=No then some (.tuple ds) else none) (aC (lA (λ ds=>if ds.length<=No then some (.tuple ds) else none) (aC (eC (.str "keep")) aN)) (aC (lA (λ ds=>if ds.length<=No then some (.tuple ds) else none) (aC (eC (.str "call")) (aC (eV 11) (aC (eC (.str "enter")) aN)))) aN))) aN))))) η).bind gL))))
  (aV (bU 13 (mP (l2 pIx (eV 12) (lA af (aC (eV 0) (aC (l2 aM (eV 7) (eC (.int 3))) (aC (eC (.int 5)) aN)))))))
  (aV (bU 5 (mP (l2 aM (eV 5) (lA xX (aC (l2 pEq (lA oI (aC (eV 13) aN)) (eC (.int 2))) aN)))))
  (aV (bU 13 (mP (vIf (bT (l2 pLt (eV 5) (eC (.int 3)))) (eV 13) (eSl (eV 13) pN (pS (eC (.int 1)))))))
  (aV (iJ (df 3 "hear" bo (mV 2) (maC (mP (eV 8)) (maC (mP (eV 9)) (maC (mP (eV 10)) (maC (mP (eV 13)) (maC (mP (eC (.bool false))) maN)))))))
  (iJ (fg bG (maC (mV 3) (maC (mP (eV 8)) (maC (mP (eV 9)) (maC (mP (eV 10)) (maC (mP (eV 13)) (maC (mP (eC (.bool false))) maN))))))))))))))))))
noncomputable abbrev mBd:Wd->Option MOut:=(aV (bU 16 (mP (l2 wS (lA af (aC (eV 0) (aC (l2 aM (eC (.int 200)) (l2 nv (eC (.int 3)) (eV 6))) (aC (eC (.int 9)) aN)))) (eC (.int 1)))))
  (bU 15 (mOp aM (mP (eV 15)) (df 1 "move" dG (mV 14) (maC (mP (eC (.int 0))) (maC (mP (eV 6)) (maC (mP (eV 16)) (maC (mP (l2 wS (lA af (aC (eV 0) (aC (l2 aM (eC (.int 201)) (l2 nv (eC (.int 3)) (eV 6))) (aC (eC (.int 9)) aN)))) (eC (.int 1)))) maN))))))))
noncomputable abbrev KT:Nat->Bool:=λ _=>true
theorem LD {c:Sc} {ps:List Nat} (tr:Tn c ps):sK c ps KT=c:=by
 unfold sK;rw [show stK ps KT=stF ps from HE,<- tr.st]; rfl
structure Hr (s:Sto) (c:Sc) (ps:List Nat) (H:List He) (k:Nat):Prop where
 hl:Hl s 0 1 (sK c ps KT) H k
 lx:Lx s 2 3 c ps H k KT
 ix:∀ (j:Nat) h,H[j]?=some h->h.i=j
 ln:H.length=k
 v:∀ h∈H,∀ x∈h.a,Val ps x
 v2:∀ h∈H,h.a.length<=2
section
variable {s:Sto} {c:Sc} {ps:List Nat} {H:List He} {k:Nat}
theorem Hr.lt (R:Hr s c ps H k) {h:He} (hh:h∈H):h.i < k:=by
 obtain ⟨j,hj⟩:=OW hh
 have:=R.ix j h hj
 have:=(Nr.mp hj).1
 have:=R.ln
 omega
theorem Hr.un (R:Hr s c ps H k):Un H:=λ x hx y hy e=>by
 obtain ⟨i,hi⟩:=OW hx;obtain ⟨j,hj⟩:=OW hy;have h1:=R.ix i x hi;have h2:=R.ix j y hj
 have:i=j:=by omega
 subst this;rw [hi] at hj;exact Option.some.inj hj
theorem Hr.so (R:Hr s c ps H k):(H.map λ h=>(h.i:Int)).Pairwise (·<=·):=by
 rw [List.pairwise_map,List.pairwise_iff_getElem];intro i j hi hj hij;have h1:=R.ix i _ (NQ hi);have h2:=R.ix j _ (NQ hj);omega
noncomputable def dsL (o:Nat):List (List De):=[[],[.keep],[.stop],[.cut o],[.keep,.call o .v]]
theorem KQ {o:Nat} (ho:In ps o):∀ A∈dsL o,A.length<=2/\∀ x∈A,Val ps x:=by
 intro A hA;simp only [dsL,NO,ON,or_false] at hA;rcases hA with rfl | rfl | rfl | rfl | rfl
 ·exact ⟨by simp,λ x hx=>by cases hx⟩
 ·exact ⟨by simp,λ x hx=>by rw [NF.mp hx]; trivial⟩
 ·exact ⟨by simp,λ x hx=>by rw [NF.mp hx]; trivial⟩
 ·exact ⟨by simp,λ x hx=>by rw [NF.mp hx]; exact ho⟩
 ·refine ⟨by simp,λ x hx=>?_⟩;simp only [NO,ON,or_false] at hx;rcases hx with rfl | rfl
  ·trivial
  ·exact ho
theorem Hr.more (R:Hr s c ps H k) (tr:Tn c ps) (hk:k<=10) {q:Nat} (hq:In ps q) (w:Wo) (d:Bool) {A:List De} (hA:A.length<=2) (vA:∀ x∈A,Val ps x) :
  ∃ s1 s2,bo [.r 0,.d (c.s q),.d (.str (wd w)),.d (.bool d),.d (dsD c A),.d (.bool false)] s=some (.d (.int (k:Int)),s1)/\bG [.r 2,.d (c.s q),.d (.str (wd w)),.d (.bool d),.d (dsD c A),.d (.bool false)] s1=some (.d (.int (k:Int)),s2)/\s1[0]?=some (.obj 3 (hf (sK c ps KT) 1 (k+1)))/\Hr s2 c ps (H++[⟨k,q,w,d,A⟩]) (k+1):=by
 have hi:∀ x∈H,x.i≠k:=λ x hx=>NZ (R.lt hx);have hl:=R.ln;obtain ⟨s1,e1,P1,K1⟩:=Jo R.hl (by omega) hi (p6 (c:=sK c ps KT) (okK tr KT) (FZ tr.ps hq rfl)) w d A;have L1:Lx s1 2 3 c ps H k KT:=by
  obtain ⟨r,ob⟩:=R.lx.ob;exact ⟨⟨r,by rw [K1 2 (by decide) (by decide)]; exact ob⟩,by rw [K1 3 (by decide) (by decide)]; exact R.lx.dc,R.lx.ne⟩
 obtain ⟨s2,e2,L2,l2',K2⟩:=Jl L1 (by omega) hi q w d A;refine ⟨s1,s2,e1,e2,P1.ob,⟨⟨by rw [K2 0 (by decide) (by decide)]; exact P1.ob,by rw [K2 1 (by decide) (by decide)]; exact P1.dc⟩,L2,λ j h hj=>?_,by rw [Nn,hl]; rfl,λ h hh=>?_,λ h hh=>?_⟩⟩
 ·by_cases hjl:j < H.length
  ·rw [Nm hjl] at hj; exact R.ix j h hj
  ·rw [Nt (by omega)] at hj;have hj0:j - H.length=0:=by
    have:=(Nr.mp hj).1
    simp at this;omega
   rw [hj0] at hj;cases hj;show k=j;omega
 ·rcases N1.mp hh with z | z
  ·exact R.v h z
  ·rw [NF.mp z]; exact vA
 ·rcases N1.mp hh with z | z
  ·exact R.v2 h z
  ·rw [NF.mp z]; exact hA
end
noncomputable abbrev hE (ns:List Int) (c:Sc) (ps:List Nat) (cl:Int) (x6 x7 x8 x9 x10 x11 x12 x13:Option D):MEn:=[some (.d (Sd ns)),some (.d c.d),some (.r 0),some (.r 2),some (.d (c.S ((stF ps).map (·.1)))),some (.d (.int cl)),x6,x7,x8,x9,x10,x11,x12,x13,none,none,none,none,none,none,none,none]
theorem JC {c:Sc} {ps:List Nat} {r:Nat} (h:r < ps.length):pIx (c.S ((stF ps).map (·.1))) (.int (r:Int))=some (c.s (r+1)):=by
 show atI (((stF ps).map (·.1)).map c.s) (r:Int)=_;refine qr ?_;unfold stF;rw [Oe,Oe,NG,PB h]; rfl
theorem JS (r:Nat) (h:r < 4):∃ w:Wo,pIx (.list [.str "move", .str "enter", .str "leave", .str "down"]) (.int (r:Int))=some (.str (wd w)):=by
 rcases r with _ | _ | _ | _ | r
 ·exact ⟨.u,rfl⟩
 ·exact ⟨.v,rfl⟩
 ·exact ⟨.w,rfl⟩
 ·exact ⟨.x,rfl⟩
 ·omega
section
variable {ns:List Int} (hn:ns.length<=63) {c:Sc} {ps:List Nat} (tr:Tn c ps)
include hn tr
theorem IL {s:Sto} (R0:Hr s c ps [] 0):∃ s' H k cl y6 y7 y8 y9 y10 y11 y12 y13,k<=5/\tQ [6] hIt (tgN 6) hBd ⟨hE ns c ps 0 none none none none none none none none,s⟩=some (.nx ⟨hE ns c ps cl y6 y7 y8 y9 y10 y11 y12 y13,s'⟩)/\Hr s' c ps H k:=by
 obtain ⟨n0,hn0,d0⟩:=gk hn (k:=100) (m:=6) (by decide) (by decide);obtain ⟨n,hnn,hz,en⟩:∃ n:Nat,n<=5/\(0 < n->0 < ps.length)/\l2 pIx (oE (λ η=>((aC (eC (.int 0)) (aC (lA af (aC (eV 0) (aC (eC (.int 100)) (aC (eC (.int 6)) aN)))) aN)) η).bind gL)) (lA xX (aC (l2 pNe (eV 1) (lA (λ ds=>if ds.length<=No then some (.tuple ds) else none) aN)) aN)) (vw ⟨hE ns c ps 0 none none none none none none none none,s⟩)=some (.int (n:Int)):=by
  have hne:pNe c.d (.tuple [])=some (.bool (decide (0 < ps.length))):=by
   unfold pNe;rw [if_pos ⟨Mn tr.ok,by decide +kernel⟩];unfold Sc.d;rw [tr.st];have hsl:(stF ps).length=ps.length:=by unfold stF; rw [Nl,Ou]
   cases hst:stF ps with
   | nil =>
    rw [hst] at hsl;rw [<- hsl]; rfl
   | cons x l =>
    rw [hst] at hsl;rw [<- hsl];rw [Ny];unfold Oc PyData.eqvAll
    simp
  have e1:oE (λ η=>((aC (eC (.int 0)) (aC (lA af (aC (eV 0) (aC (eC (.int 100)) (aC (eC (.int 6)) aN)))) aN)) η).bind gL) (vw ⟨hE ns c ps 0 none none none none none none none none,s⟩)=some (.list [.int 0,.int (n0:Int)]):=jp (eO (ae rfl (ae (aI (ae rfl (ae rfl (ae rfl rfl))) d0) rfl)) (ou (by simp)));have e2:lA xX (aC (l2 pNe (eV 1) (lA (λ ds=>if ds.length<=No then some (.tuple ds) else none) aN)) aN) (vw ⟨hE ns c ps 0 none none none none none none none none,s⟩)=some (.int (if decide (0 < ps.length) then 1 else 0)):=aI (ae (ai rfl (aI rfl (bR (by simp))) hne) rfl) rfl;by_cases hp:0 < ps.length
  ·refine ⟨n0,by omega,λ _=>hp,ai e1 e2 ?_⟩;rw [decide_eq_true hp]; rfl
  ·refine ⟨0,by omega,λ h=>absurd h (by decide),ai e1 e2 ?_⟩;rw [decide_eq_false hp]; rfl
 obtain ⟨w',g1,s',H,cl,y6,y7,y8,y9,y10,y11,y12,y13,rfl,R'⟩:=l8 (ks:=[6]) (t:=tgN 6) (body:=hBd) (λ (k:Nat)=>NS (0+(k:Int))) (λ done w1=>∃ s1 H cl y6 y7 y8 y9 y10 y11 y12 y13,w1=⟨hE ns c ps cl y6 y7 y8 y9 y10 y11 y12 y13,s1⟩/\Hr s1 c ps H done.length) (List.range n) (w:=⟨hE ns c ps 0 none none none none none none none none,s⟩)
  (λ done k rest w1 e ⟨s1,H,cl,y6,y7,y8,y9,y10,y11,y12,y13,ew,R⟩=>by
   subst ew;have hk:k < n:=OO.mp (by rw [e]; simp);have hdl:done.length < n:=by
    have:=congrArg List.length e
    rw [Nn,NN,Ou] at this;omega
   have hp:=hz (by omega);have h7:=tr.ps.len;obtain ⟨hv,ehv⟩:∃ hv:Int,hv=101+9*(0+(k:Int)):=⟨_,rfl⟩;have hv0:0<=hv:=by omega
   have elen:∀ {x5 x7 x8 x9 x10 x11 x12 x13:Option D} {z:Option D} {st:Sto},lA oI (aC (eV 4) aN) (vw ⟨[some (.d (Sd ns)),some (.d c.d),some (.r 0),some (.r 2),some (.d (c.S ((stF ps).map (·.1)))),x5,z,x7,x8,x9,x10,x11,x12,x13,none,none,none,none,none,none,none,none],st⟩)=some (.int (ps.length:Int)):=aI (ae rfl rfl) (by
    show some (NS ((((stF ps).map (·.1)).map c.s).length:Int))=_;rw [Nl,Nl];unfold stF;rw [Nl,Ou])
   obtain ⟨r1,h1,d1⟩:=gk hn (k:=hv) (m:=(ps.length:Int)) hv0 (by omega);obtain ⟨r2,h2,d2⟩:=gk hn (k:=hv+1) (m:=4) (by omega) (by decide);obtain ⟨r3,h3,d3⟩:=gk hn (k:=hv+2) (m:=2) (by omega) (by decide);obtain ⟨r4,h4,d4⟩:=gk hn (k:=hv+4) (m:=(ps.length:Int)) (by omega) (by omega);obtain ⟨r5,h5,d5⟩:=gk hn (k:=hv+3) (m:=5) (by omega) (by decide);obtain ⟨w,ew⟩:=JS r2 (by omega);obtain ⟨A,hA⟩:∃ A,(dsL (r4+1))[r5]?=some A:=⟨_,NQ (show r5 < (dsL (r4+1)).length by show r5 < 5; omega)⟩;have ho:In ps (r4+1):=⟨by omega,by omega⟩;have hq:In ps (r1+1):=⟨by omega,by omega⟩;obtain ⟨aA,vA⟩:=KQ ho A (OV hA);obtain ⟨cl',ecl⟩:∃ cl':Int,cl'=cl+(if decide (A.length=2) then 1 else 0):=⟨_,rfl⟩;obtain ⟨A',eA'⟩:∃ A',A'=if cl' < 3 then A else A.take 1:=⟨_,rfl⟩;have aA':A'.length<=2:=by
    rw [eA']; split
    ·exact aA
    ·rw [Pg]; omega
   have vA':∀ x∈A',Val ps x:=λ x hx=>by
    rw [eA'] at hx;split at hx
    ·exact vA x hx
    ·exact vA x (List.mem_of_mem_take hx)
   obtain ⟨s2,s3,f1,f2,o2,R2⟩:=R.more tr (by omega) hq w (decide (r3=0)) aA' vA';have o1:s1[0]?=some (.obj 3 (hf (sK c ps KT) 1 done.length)):=R.hl.ob;refine ⟨⟨hE ns c ps cl (some (.d (.int (0+(k:Int))))) y7 y8 y9 y10 y11 y12 y13,s1⟩,⟨hE ns c ps cl' (some (.d (.int (0+(k:Int))))) (some (.d (.int hv))) (some (.d (c.s (r1+1)))) (some (.d (.str (wd w)))) (some (.d (.bool (decide (r3=0))))) (some (.d (c.s (r4+1)))) (some (.d (.list ((dsL (r4+1)).map (dsD c))))) (some (.d (dsD c A'))),s3⟩,rfl,?_,s3,_,_,_,_,_,_,_,_,_,_,rfl,by rw [Nn]; exact R2⟩;refine am (aO (d:=.d (.int hv)) (aj (ai (y:=.int (9*(0+(k:Int)))) rfl (ai rfl rfl (kW (zj (by decide) (by decide)))) (by rw [ehv]; rfl)))) ?_;refine am (aO (aj (ai rfl (aI (ae rfl (ae rfl (ae elen rfl))) d1) (JC (by omega))))) ?_;refine am (aO (aj (ai (jp (eO (ae rfl (ae rfl (ae rfl (ae rfl rfl)))) (ou (by simp)))) (aI (ae rfl (ae (ai rfl rfl rfl) (ae rfl rfl))) d2) ew))) ?_;refine am (aO (d:=.d (.bool (decide (r3=0)))) (aj (ai (aI (ae rfl (ae (ai rfl rfl rfl) (ae rfl rfl))) d3) rfl ?_))) ?_
   ·rw [Ay]
    congr 2
    rw [OH]; simp
   refine am (aO (aj (ai rfl (aI (ae rfl (ae (ai rfl rfl rfl) (ae elen rfl))) d4) (JC (by omega))))) ?_;refine am (aO (d:=.d (.list ((dsL (r4+1)).map (dsD c)))) (aj (jp (eO (x:=(dsL (r4+1)).map (dsD c)) ?_ (ou (by simp [dsL])))))) ?_
   ·exact ae (aI rfl (bR (by simp))) (ae (aI (ae (aI (ae rfl rfl) (bR (by simp))) rfl) (bR (by simp))) (ae (aI (ae (aI (ae rfl rfl) (bR (by simp))) rfl) (bR (by simp))) (ae (aI (ae (aI (ae rfl (ae rfl rfl)) (bR (by simp))) rfl) (bR (by simp))) (ae (aI (ae (aI (ae rfl rfl) (bR (by simp))) (ae (aI (ae rfl (ae rfl (ae rfl rfl))) (bR (by simp))) rfl)) (bR (by simp))) rfl))))
   refine am (aO (d:=.d (dsD c A)) (aj (ai rfl (aI (ae rfl (ae (ai rfl rfl rfl) (ae rfl rfl))) d5) ?_))) ?_
   ·show atI ((dsL (r4+1)).map (dsD c)) (r5:Int)=_;exact qr (by rw [NG,hA]; rfl)
   refine am (aO (d:=.d (.int cl')) (aj (ai (y:=.int (if decide (A.length=2) then 1 else 0)) rfl (aI (ae (ai (z:=.bool (decide (A.length=2))) (aI (ae rfl rfl) rfl) rfl ?_) rfl) rfl) (by rw [ecl]; rfl)))) ?_
   ·show pEq (.int (((A.map (deD c)).length:Nat):Int)) (.int 2)=_;rw [Ay,Nl]
    congr 2
    rw [OH]
    simp
    omega
   refine am (aO (d:=.d (dsD c A')) (aj ?_)) ?_
   ·rw [CA (b:=decide (cl' < 3)) (dr (ai rfl rfl rfl)),eA'];by_cases hc:cl' < 3
    ·rw [if_pos (by simpa using hc),if_pos hc]; rfl
    ·rw [if_neg (by simpa using hc),if_neg hc];refine yE (l:=none) (h:=some ((1:Nat):Int)) (x:=dsD c A) rfl rfl (zK rfl) ?_;unfold dsD pSl;dsimp only;rw [Dd,List.map_take]
   exact am (f8 (dP rfl o1 rfl (ax (aj rfl) (ax (aj rfl) (ax (aj rfl) (ax (aj rfl) (ax (aj rfl) bq))))) f1)) (f8 (g7 (ax rfl (ax (aj rfl) (ax (aj rfl) (ax (aj rfl) (ax (aj rfl) (ax (aj rfl) bq)))))) f2)))
  ⟨s,[],0,none,none,none,none,none,none,none,none,rfl,R0⟩
 rw [Ou] at R';exact ⟨s',H,n,cl,y6,y7,y8,y9,y10,y11,y12,y13,hnn,l9 (sq (eO (ae en rfl) (Ak rfl (by omega)))) g1,R'⟩
end
theorem Bw {s:Sto} {x y z:Cell}:(s++[x]++[y]).set s.length z=s++[z]++[y]:=by
 rw [NP,OB _ _ (Np _),N5,NP]; rfl
theorem Eo {s:Sto} {x y:Cell}:(s++[x]++[y])[s.length]?=some x:=by
 rw [NP,Nt (Np _),N5]; rfl
theorem Lf {c:Sc} {s:Sto}:cw [.r s.length,.d c.d] (s++[.obj 3 []])=some (.d .none,s++[.obj 3 (hf c (s.length+1) 0)]++[.dct []]):=by
 refine rR (w1:=⟨[some (.r s.length),some (.d c.d)],s++[.obj 3 (hf c (s.length+1) 0)]++[.dct []]⟩) rfl ?_;show jx ⟨[some (.r s.length),some (.d c.d)],s++[.obj 3 []]⟩=_;have k1:kJ 3 "scene" (mV 0) (mP (eV 1)) ⟨[some (.r s.length),some (.d c.d)],s++[.obj 3 []]⟩=some (.nx ⟨[some (.r s.length),some (.d c.d)],s++[.obj 3 [("scene", .d c.d)]]⟩):=by
  rw [kX (aj rfl) rfl (lu rfl) (by decide),sZ rfl]; rfl
 have k2:kJ 3 "hearers" (mV 0) yo ⟨[some (.r s.length),some (.d c.d)],s++[.obj 3 [("scene", .d c.d)]]⟩=some (.nx ⟨[some (.r s.length),some (.d c.d)],s++[.obj 3 [("scene", .d c.d),("hearers", .r (s.length+1))]]++[.dct []]⟩):=by
  have e:(s++[Cell.obj 3 [("scene", .d c.d)]]).length=s.length+1:=by simp
  have n1:yo ⟨[some (.r s.length),some (.d c.d)],s++[.obj 3 [("scene", .d c.d)]]⟩=some (.r (s.length+1),s++[.obj 3 [("scene", .d c.d)]]++[.dct []]):=by
   show some (D.r (s++[Cell.obj 3 [("scene", .d c.d)]]).length,_)=_;rw [e]
  rw [kX n1 rfl Eo (by show 1 < 999; decide),Bw]; rfl
 have k3:kJ 3 "made" (mV 0) (mP (eC (.int 0))) ⟨[some (.r s.length),some (.d c.d)],s++[.obj 3 [("scene", .d c.d),("hearers", .r (s.length+1))]]++[.dct []]⟩=some (.nx ⟨[some (.r s.length),some (.d c.d)],s++[.obj 3 (hf c (s.length+1) 0)]++[.dct []]⟩):=by
  rw [kX (aj rfl) rfl Eo (by show 2 < 999; decide),Bw]; rfl
 exact am k1 (am k2 k3)
noncomputable def Hm (ps:List Nat) (h:Hd):Prop:=h.held=none/\∀ x∈h.trail,In ps x
noncomputable def Rok (ps:List Nat) (r:Str×Nat):Prop:=(∃ w:Wo,r.1=wd w)/\In ps r.2
theorem Fg {ps:List Nat} {w:Str} (hw:∃ v:Wo,w=wd v) {l:List Nat} (hl:∀ x∈l,In ps x):∀ r∈wr w l,Rok ps r:=λ r hr=>by
 obtain ⟨x,hx,rfl⟩:=Os.mp hr;exact ⟨hw,hl x hx⟩
theorem LY {ps:List Nat} {h:Hd} {p:List Nat} (hm:Hm ps h) (hp:∀ x∈p,In ps x):(∀ r∈mvR h p,Rok ps r)/\Hm ps (mvH h p):=by
 unfold mvR mvH;rw [if_pos hm.1,if_pos hm.1];refine ⟨λ r hr=>?_,hm.1,hp⟩;rcases N1.mp hr with z | z
 ·rcases N1.mp z with y | y
  ·exact Fg ⟨.w,rfl⟩ (λ x hx=>hm.2 x (Ps (Pk.mp hx))) r y
  ·exact Fg ⟨.v,rfl⟩ (λ x hx=>hp x (Ps hx)) r y
 ·exact Fg ⟨.u,rfl⟩ (λ x hx=>hp x (Ps hx)) r z
theorem Kr {h:Hd} {p:List Nat} (ht:h.trail.length<=7) (hp:p.length<=7):(mvR h p).length<=20:=by
 unfold mvR
 split
 ·have:=BS ht hp
  rw [Nn];unfold wr;rw [Nl,Oj]; omega
 ·have:=Fs h "move"; omega
theorem Mf {c:Sc} {ps:List Nat} (tn:Tn c ps) (x y:Int):∀ z∈hpth ps (yw c.geo ps (CO ps) x y),In ps z:=λ z hz=>by
 have hin:∀ q∈yw c.geo ps (CO ps) x y,In ps q:=λ q hq=>Fq (Dw tn) (NU.mp hq).1;generalize yw c.geo ps (CO ps) x y=l at *;cases l with
 | nil=>cases hz
 | cons q r=>exact P_in' tn.ps q (hin q NJ) hz
theorem DD {ps:List Nat}:∀ (l:List (Str×Nat)),(∀ r∈l,Rok ps r)->∃ R:List Row,(∀ c:Sc,l.map (rD c)=R.map (jA c))/\R.length=l.length/\∀ r∈R,∀ q,r.2=some q->In ps q
 | [],_=>⟨[],λ _=>rfl,rfl,λ r hr=>by cases hr⟩
 | x::r,h=>by
  obtain ⟨R,e,hl,hR⟩:=DD r λ y hy=>h y (NA _ hy);obtain ⟨⟨w,hw⟩,hi⟩:=h x NJ;refine ⟨(w,some x.2)::R,λ c=>?_,by rw [NN,NN,hl],λ y hy q hq=>?_⟩
  ·rw [Ny,Ny,e c]
   congr 1
   unfold rD jA;rw [hw]; rfl
  ·rcases NO.mp hy with rfl | z
   ·cases hq; exact hi
   ·exact hR y z q hq
noncomputable abbrev oE5 (ns:List Int) (c:Sc) (ps:List Nat) (cl:Int) (x6 x7 x8 x9 x10 x11 x12 x13:Option D) (n:Nat) (l:List (Str×Nat)) (x16:Option D):MEn:=[some (.d (Sd ns)),some (.d c.d),some (.r 0),some (.r 2),some (.d (c.S ((stF ps).map (·.1)))),some (.d (.int cl)),x6,x7,x8,x9,x10,x11,x12,x13,some (.r n),some (.d (Rw c l)),x16,none,none,none,none,none]
structure Hs (c:Sc) (ps:List Nat) (s0 s:Sto) (n kd:Nat) (k:Nat) (l:List (Str×Nat)) (kvs:List (Key×D)) (Kh:Int->Hd):Prop where
 ho:HOk c s n kd kvs Kh
 hm:∀ j,Hm ps (Kh j)
 ow:∀ i,Own n kd kvs i->s0.length<=i
 kp:∀ i,i < s0.length->s[i]?=s0[i]?
 ln:s0.length<=s.length
 kl:kvs.length<=k
 rk:∀ r∈l,Rok ps r
 ll:l.length<=20*k
section
variable {c:Sc} {ps:List Nat} {ns:List Int} {cl:Int} {x6 x7 x8 x9 x10 x11 x12 x13:Option D} {n kd:Nat} {s0:Sto}
theorem Gg (tr:Tn c ps) (hn:ns.length<=63) {s:Sto} (H0:Hs c ps s0 s n kd 0 [] [] (λ _=>hd0)) :
  ∃ s' y6 y16 l kvs Kh,tQ [6] (iPu (λ η=>((aC (eC (.int 3)) aN) η).bind rng1)) (tgN 6) mBd ⟨oE5 ns c ps cl x6 x7 x8 x9 x10 x11 x12 x13 n [] none,s⟩=some (.nx ⟨oE5 ns c ps cl y6 x7 x8 x9 x10 x11 x12 x13 n l y16,s'⟩)/\Hs c ps s0 s' n kd 3 l kvs Kh:=by
 obtain ⟨w',e1,s',y6,y16,l,kvs,Kh,rfl,e3⟩:=l8 (ks:=[6]) (t:=tgN 6) (body:=mBd) (λ (k:Nat)=>NS (0+(k:Int))) (λ done w1=>∃ s1 y6 y16 l kvs Kh,w1=⟨oE5 ns c ps cl y6 x7 x8 x9 x10 x11 x12 x13 n l y16,s1⟩/\Hs c ps s0 s1 n kd done.length l kvs Kh) (List.range 3)
  (w:=⟨oE5 ns c ps cl x6 x7 x8 x9 x10 x11 x12 x13 n [] none,s⟩)
  (λ done k rest w1 e ⟨s1,y6,y16,l,kvs,Kh,ew,H⟩=>by
   subst ew;have hd:done.length < 3:=by
    have:=congrArg List.length e
    rw [Nn,NN,Ou] at this;omega
   obtain ⟨r1,_,d1⟩:=gk hn (k:=200+3*(0+(k:Int))) (m:=9) (by omega) (by decide);obtain ⟨r2,_,d2⟩:=gk hn (k:=201+3*(0+(k:Int))) (m:=9) (by omega) (by decide);have hp:=Nb (Dw tr) ((r1:Int) - 1) ((r2:Int) - 1);have hpi:=Mf tr ((r1:Int) - 1) ((r2:Int) - 1);generalize hpth ps (yw c.geo ps (CO ps) ((r1:Int) - 1) ((r2:Int) - 1))=p at hp hpi;have kl:=H.kl;have ll:=H.ll;obtain ⟨s2,kvs2,f1,f2,f3,f4⟩:=Nd tr.ok H.ho (by omega) 0 (mo:=.int (0+(k:Int))) hp.1 hp.2;have hst:=LY (H.hm 0) hpi;have hln:=Kr (H.ho.bd 0).1 hp.2;refine ⟨⟨oE5 ns c ps cl (some (.d (.int (0+(k:Int))))) x7 x8 x9 x10 x11 x12 x13 n l y16,s1⟩,⟨oE5 ns c ps cl (some (.d (.int (0+(k:Int))))) x7 x8 x9 x10 x11 x12 x13 n (l++mvR (Kh 0) p) (some (.d (.int ((r1:Int) - 1)))),s2⟩,rfl,?_,s2,_,_,_,kvs2,upK Kh 0 (mvH (Kh 0) p),rfl,?_⟩
   ·refine am (w1:=⟨oE5 ns c ps cl (some (.d (.int (0+(k:Int))))) x7 x8 x9 x10 x11 x12 x13 n l (some (.d (.int ((r1:Int) - 1)))),s1⟩) (aO (aj (ai (aI (ae rfl (ae (ai rfl (ai rfl rfl (kW (zj (by decide) (by decide)))) rfl) (ae rfl rfl))) d1) rfl rfl))) ?_;refine aO (qg (aj rfl) (dP rfl H.ho.ob rfl (ax (aj rfl) (ax (aj rfl) (ax (aj rfl) (ax (aj (ai (aI (ae rfl (ae (ai rfl (ai rfl rfl (kW (zj (by decide) (by decide)))) rfl) (ae rfl rfl))) d2) rfl rfl)) bq)))) f1) rfl rfl ?_);unfold Rw;rw [zw (by rw [Nl,Nl]; omega),N4]
   ·have ow2:∀ i,Own n kd kvs2 i->s0.length<=i:=λ i hi=>by
     rcases f3.ow i hi with z | z
     ·exact H.ow i z
     ·exact NL H.ln z
    refine ⟨f2,λ j=>?_,ow2,λ i hi=>?_,NL H.ln f3.len,?_,λ r hr=>?_,?_⟩
    ·unfold upK
     split
     ·exact hst.2
     ·exact H.hm j
    ·rw [f3.kp i (NK hi H.ln) λ ho=>by have:=H.ow i ho; omega];exact H.kp i hi
    ·rw [Nn,OF]; omega
    ·rcases N1.mp hr with z | z
     ·exact H.rk r z
     ·exact hst.1 r z
    ·rw [Nn,Nn,OF]; omega)
  ⟨s,x6,none,[],[],λ _=>hd0,rfl,H0⟩
 exact ⟨s',y6,y16,l,kvs,Kh,l9 (sq (eO (ae (d:=.int (3:Nat)) rfl rfl) (Ak rfl (by decide)))) e1,e3⟩
end
theorem Ir (tn:Nat) {ps:List Nat} (h7:ps.length<=7):∀ q,In ps q->nmT tn q ≠ "zz" := λ q hq e=>by
 obtain ⟨j,rfl⟩:∃ j,q=j+1:=⟨q - 1,by have:=hq.1; omega⟩;rw [v8 (by have:=hq.2; omega)] at e;have h1:(⟨#[let8.getD ((j+tn) % 8) 0]⟩:Str).length=("zz" : Str).length:=by rw [e]
 have h2:("zz" : Str).length=2:=by decide +kernel
 rw [h2] at h1;cases h1
end K25.HL
namespace K25
open PySem L2 L2.PU HL
set_option maxHeartbeats 2000000 in
theorem main:∀ ns:List Int,ns.length<=63->∃ s',sV [.d (.list (ns.map NS))] []=some (.d (.bool true),s'):=λ ns hn=>by
 obtain ⟨d,tn,hd,hnm,hlen,es⟩:=FA hn (a0:=0) (by decide);obtain ⟨okc,okp⟩:=Dr.tr hd hlen;have tr:Tn d.sc d.ps:=⟨okc,rfl,okp⟩;have zz:Zz d.sc d.ps:=⟨λ q hq=>by
  show d.nm q≠_;rw [hnm]; exact Ir tn hlen q hq⟩
 rw [<- Dr.sc_d d] at es;generalize d.sc=c at *;generalize d.ps=ps at *;obtain ⟨s0,es0⟩:∃ s0:Sto,s0=[.obj 3 (HL.hf c 1 0),.dct [],.dct (yx c.d 2),.dct [],.lst []]:=⟨_,rfl⟩;have R0:Hr s0 c ps [] 0:=by
  rw [es0];refine ⟨⟨?_,rfl⟩,⟨⟨.r 4,?_⟩,rfl,by decide⟩,λ j h hj=>(by simp at hj),rfl,λ h hh=>(by cases hh),λ h hh=>(by cases hh)⟩
  ·rw [LD tr]; rfl
  ·rw [LD tr]; rfl
 obtain ⟨s1,H,k,cl,y6,y7,y8,y9,y10,y11,y12,y13,hk5,g1,R1⟩:=IL hn tr R0;have hl5:H.length<=5:=by rw [R1.ln]; exact hk5
 have l0:=cB R1.hl.ob;have l1:=cB R1.hl.dc;obtain ⟨rr,ob2⟩:=R1.lx.ob;have l2':=cB ob2;have l3:=cB R1.lx.dc;have H0:Hs c ps s1 (s1++[.obj 1 (nf c (s1.length+1)),.dct []]) s1.length (s1.length+1) 0 [] [] (λ _=>hd0):=by
  refine ⟨⟨?_,?_,λ _ _=>rfl,λ j d h=>(by cases h),λ j j' m h=>(by cases h),λ _=>⟨by simp [hd0],λ q e=>(by cases e)⟩,⟨[],rfl,List.nodup_nil⟩⟩,λ _=>⟨rfl,λ x hx=>(by cases hx)⟩,λ i hi=>?_,λ i hi=>Nm hi,by rw [Nn]; omega,by simp,λ r hr=>(by cases hr),by simp⟩
  ·rw [Nt (Np _),N5]; rfl
  ·rw [Nt (by omega),Nat.add_sub_cancel_left]; rfl
  ·rcases hi with rfl | rfl | ⟨j,hj⟩
   ·exact Np _
   ·omega
   ·cases hj
 obtain ⟨s2,z6,z16,l,kvs,Kh,g2,H2⟩:=Gg (cl:=cl) (x6:=y6) (x7:=y7) (x8:=y8) (x9:=y9) (x10:=y10) (x11:=y11) (x12:=y12) (x13:=y13) tr hn H0;obtain ⟨R',eR',lR',hR'⟩:=DD l H2.rk;obtain ⟨R,eR⟩:∃ R:List HL.Row,R=R'++[((Wo.u,none):HL.Row)]:=⟨R'++[((Wo.u,none):HL.Row)],rfl⟩;have hR:∀ r∈R,∀ q,r.2=some q->In ps q:=λ r hr q hq=>by
  rw [eR] at hr;rcases N1.mp hr with z | z
  ·exact hR' r z q hq
  ·rw [NF.mp z] at hq; cases hq
 have lR:R.length<=200:=by
  have:=H2.ll
  rw [eR,Nn,lR',OF]; omega
 have A1:Hl s2 0 1 (sK c ps KT) H k:=⟨by rw [H2.kp 0 (by omega)]; exact R1.hl.ob,by rw [H2.kp 1 (by omega)]; exact R1.hl.dc⟩;have A2:Lx s2 2 3 c ps H k KT:=⟨⟨rr,by rw [H2.kp 2 (by omega)]; exact ob2⟩,by rw [H2.kp 3 (by omega)]; exact R1.lx.dc,R1.lx.ne⟩;obtain ⟨s3,w13,w19,w20,w21,g3,L3,ln3,k3⟩:=HQ (x0:=some (.d (Sd ns))) (x1:=some (.d c.d)) (x2:=some (.r 0)) (x4:=some (.d (c.S ((stF ps).map (·.1))))) (x5:=some (.d (.int cl))) (x6:=z6) (x7:=y7) (x8:=y8) (x9:=y9) (x10:=y10) (x11:=y11) (x12:=y12) (x13:=y13) (x14:=some (.r s1.length)) (x15:=some (.d (.list (R.map (jA c))))) (x16:=z16) (x19:=none) (x20:=none) (x21:=none) A2 tr zz R1.un R1.so R1.v R1.v2 hl5 R hR lR;have la1:=cB A1.ob;have la2:=cB A1.dc;have A3:Hl s3 0 1 (sK c ps KT) H k:=⟨by rw [k3 0 la1 (by decide)]; exact A1.ob,by rw [k3 1 la2 (by decide)]; exact A1.dc⟩;obtain ⟨s4,g4,A4,ln4,k4⟩:=Fd A3 tr zz R1.un R1.v R1.v2 hl5 R hR lR;obtain ⟨r3,ob3⟩:=L3.ob;have lp3:=cB ob3;have ob4:s4[2]?=some (.dct (lkv (sK c ps (R.zipIdx.foldl (rst ps H) z0).K).d 3 k 0 r3)):=by rw [k4 2 lp3 (by decide)]; exact ob3
 generalize R.zipIdx.foldl (rst ps H) z0=z at g3 L3 g4 A4 ob3 ob4;refine ⟨s4,fQ rfl (show yA dh cw hG af bo bG cK dG ay c7 bp kI ⟨[some (.d (Sd ns)),none,none,none,none,none,none,none,none,none,none,none,none,none,none,none,none,none,none,none,none,none],[]⟩=_ from ?_)⟩;refine am (aO (aj (aI (ae rfl (ae rfl rfl)) es))) ?_;refine am (aO (rS (k:=3) (fn:=cw) (fs:=maC (mP (eV 1)) maN) (ax (s1:=[]) (aj rfl) bq) (Lf (c:=c) (s:=[])))) ?_;refine am (w1:=⟨[some (.d (Sd ns)),some (.d c.d),some (.r 0),some (.r 2),none,none,none,none,none,none,none,none,none,none,none,none,none,none,none,none,none,none],s0⟩) (aO (d:=.r 2) (g7 (ax (aj rfl) bq) ?_)) ?_
 ·rw [es0]; rfl
 refine am (w1:=⟨[some (.d (Sd ns)),some (.d c.d),some (.r 0),some (.r 2),some (.d (c.S ((stF ps).map (·.1)))),none,none,none,none,none,none,none,none,none,none,none,none,none,none,none,none,none],s0⟩) ?_ ?_
 ·have ec:bH [none] (lI nH (eV 1)) (tgN 0) cS (l2 pIx (eV 0) (eC (.int 0))) (vw ⟨[some (.d (Sd ns)),some (.d c.d),some (.r 0),some (.r 2),none,none,none,none,none,none,none,none,none,none,none,none,none,none,none,none,none,none],s0⟩)=some (((stF ps).map (·.1)).map c.s):=by
   refine ie (ds:=c.st.map c.box) (n4 rfl rfl) (by rw [Nl]; have:=okc.len; omega) ?_;rw [Oe,tr.st];exact lq (η:=[.un]) c.box (λ x=>c.s x.1) (stF ps) λ x _=>⟨[.val (c.box x)],rfl,ai rfl rfl rfl⟩
  refine aO (d:=.d (c.S ((stF ps).map (·.1)))) ?_;unfold mC;rw [ec]; rfl
 refine am (aO (aj rfl)) ?_;refine am g1 ?_;refine am (aO (rS (ax (s1:=s1) (aj rfl) bq) (Jj c s1))) ?_;refine am (w1:=⟨oE5 ns c ps cl y6 y7 y8 y9 y10 y11 y12 y13 s1.length [] none,s1++[.obj 1 (nf c (s1.length+1)),.dct []]⟩) (aO (aj (jp (eO rfl (ou (by simp)))))) ?_;refine am g2 ?_;refine am (w1:=⟨[some (.d (Sd ns)),some (.d c.d),some (.r 0),some (.r 2),some (.d (c.S ((stF ps).map (·.1)))),some (.d (.int cl)),z6,y7,y8,y9,y10,y11,y12,y13,some (.r s1.length),some (.d (.list (R.map (jA c)))),z16,none,none,none,none,none],s2⟩) (aO (d:=.d (.list (R.map (jA c)))) (aj (ai (x:=.list (R'.map (jA c))) (y:=.list [jA c (.u,none)]) ?_ (jp (eO (ae (aI (ae rfl (ae rfl rfl)) (bR (by simp))) rfl) (ou (by simp)))) ?_))) ?_
 ·show some (Rw c l)=_;unfold Rw;rw [eR' c]
 ·rw [zw (by rw [Nl,lR']; have:=H2.ll; simp; omega),eR,N4]; rfl
 refine am (aO (aj (jp (eO rfl (ou (by simp)))))) ?_;refine am (aO (aj (jp (eO rfl (ou (by simp)))))) ?_;refine am (l9 (s:=s2) (xs:=R.zipIdx.map (eRw c)) (sq ?_) g3) (cM ?_)
 ·show some (mM (R.map (jA c)) 0)=_;rw [AY]
 have c1:mG pEq (fg kI (maC (mV 2) (maC (mP (eV 15)) maN))) (mP (lA (λ ds=>if ds.length<=No then some (.tuple ds) else none) (aC (eV 17) (aC (eV 18) aN)))) ⟨rE (some (.d (Sd ns))) (some (.d c.d)) (some (.r 0)) 2 (some (.d (c.S ((stF ps).map (·.1))))) (some (.d (.int cl))) z6 y7 y8 y9 y10 y11 y12 w13 (some (.r s1.length)) (some (.d (.list (R.map (jA c))))) z16 c z.C z.k w19 w20 w21,s3⟩=some (.d (.bool true),s4) :=
  qh (g7 (ax rfl (ax (aj rfl) bq)) g4) (aj (aI (ae rfl (ae rfl rfl)) (bR (by simp)))) rfl rfl (BI (LC okc z.C z.k)) rfl
 have c2:mG pEq (df 3 "boxes" bp (mV 2) maN) (de (mV 3) (mP (eC (.str "scene")))) ⟨rE (some (.d (Sd ns))) (some (.d c.d)) (some (.r 0)) 2 (some (.d (c.S ((stF ps).map (·.1))))) (some (.d (.int cl))) z6 y7 y8 y9 y10 y11 y12 w13 (some (.r s1.length)) (some (.d (.list (R.map (jA c))))) z16 c z.C z.k w19 w20 w21,s4⟩=some (.d (.bool true),s4) :=
  qh (dP rfl A4.ob rfl bq (Eu A4)) (dH rfl (aj rfl) rfl ob4 zO) rfl rfl (BI (Mn (okK tr z.K))) rfl
 unfold Kw;rw [c1,Nk];exact c2
end K25
open PySem L2 L2.PU
theorem PySem.Challenge.cw_touchtree_k25_sent_holds : PySem.Challenge.rw_touchtree_k25_sent.Holds := by
  obtain ⟨K, hY, tx⟩ := K25.tx
  exact Mg K25.hk K25.hlA K25.hlB (Ht (n := 63) (k := 63) (x := "_law_script") (CX := λ _ => CX0) (sp := λ w => spL (K w.params)) rfl (by decide) K25.hk.dd ⟨rfl, by decide, by decide⟩ hY (λ w mg fa h KX G hm => by
    obtain ⟨t, tx⟩ := tx w.params mg h KX G
    rw [K25.hk.dn] at hm
    exact Kx hm tx.Gk tx.sV (λ _ => (K25.Hg tx).imp (HG K25.main)) λ _ _ _ _ _ _ _ => rfl) (λ _ _ a ns hl _ hS => ⟨a, ns, rfl, hS, hl, λ _ => rfl⟩) λ _ _ _ _ _ z => z)
#print axioms PySem.Challenge.cw_touchtree_k25_sent_holds
