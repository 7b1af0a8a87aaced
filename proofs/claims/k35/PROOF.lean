import PyProof.Rows.All
import Wide.All
import OpenK.AllK
import Wide.FinOn
import Lean
import PyProof.EqAt
import PyProof.EqKinds
import PyProof.TupleCall
import KE.KTryMore
import PyProof.NsDelKeeps
import PySem.Challenge.RW_lampway_k35_who_waits
set_option compiler.extract_closed false
set_option Elab.async false
set_option linter.all false
set_option autoImplicit true
set_option maxRecDepth 100000
local macro_rules | `(tactic| ac_nf)=>`(tactic| decide +kernel)
open Array renaming append_assoc→ac3,find?_toList→aeJ,getElem?_eq_getElem→acP,getElem?_eq_none→Xk,getElem?_eq_some_iff→Gj,getElem?_toList→Vl,length_toList→nt,toList→acU,toList_append→lX,toList_inj→RQ
open Bool renaming and_eq_true→iE,and_false→afM,eq_iff_iff→j',false_and→mu,false_eq_true→Eg,false_ne_true→fK,false_or→lN,not_true→aaV,or_eq_false_iff→Ct,or_eq_true→w3,or_false→OX,or_true→CT,true_and→lK,true_or→su
open Char renaming toNat→yi
open Except renaming ok→ql
open False renaming elim→hP
open ForInStep renaming yield→vo
open Int renaming emod_eq_of_lt→GI,emod_lt_of_pos→yN,emod_nonneg→DF,le_refl→aa3,mul_lt_mul'→aa5,mul_nonneg→agk,toNat_natCast→qp,toNat_of_nonneg→pT,zero_add→ro
open List renaming all_cons→aiG,all_eq_true→nX,any_cons→xC,any_eq_false→J0,any_eq_true→qV,any_map→ajr,append_assoc→pG,append_nil→ur,cons_append→yD,contains_cons→zi,drop_eq_getElem_cons→rM,drop_length→xv,drop_zero→Yi,exists_cons_of_ne_nil→tO,ext_getElem→afX,filterMap_cons→O8,filter_congr→T2,filter_cons→Zv,filter_cons_of_neg→abS,filter_cons_of_pos→Ym,filter_eq_nil_iff→MK,find?→ahW,find?_cons→qy,find?_eq_none→Sr,findIdx?_eq_some_iff_getElem→Ny,findSome?_cons→DR,findSome?_eq_none_iff→Ex,flatMap_append→CG,flatMap_cons→wb,flatMap_nil→Yb,flatten_append→aeN,flatten_cons→vd,foldl_append→PR,getD→Cd,getD_eq_getElem?_getD→iF,getElem?_append_left→tP,getElem?_append_right→sf,getElem?_cons_succ→x',getElem?_eq_getElem→bc,getElem?_eq_none→VV,getElem?_eq_none_iff→KA,getElem?_eq_some_iff→cv,getElem?_map→da,getElem?_of_mem→iN,getElem?_set_ne→yg,getElem?_set_self→AQ,getElem?_take_of_lt→uS,getElem_inj→J',getElem_map→vQ,getElem_mem→jq,getElem_of_mem→Ga,head?_eq_none_iff→ajE,length→qH,length_append→ec,length_cons→hi,length_drop→sl,length_filter_le→B8,length_map→a0,length_nil→x4,length_pos_iff→Va,length_pos_of_mem→ajt,length_range→tC,length_set→XR,length_singleton→J6,length_take→hE,lookup→nQ,lookup_cons→j5,map→qh,map_append→fS,map_congr_left→SU,map_cons→eN,map_drop→ahu,map_map→k_,map_nil→p',map_take→UJ,mem_append→hI,mem_append_left→yJ,mem_append_right→ko,mem_cons→fi,mem_cons_of_mem→hS,mem_cons_self→lp,mem_filter→kV,mem_filterMap→ag1,mem_flatten→U1,mem_iff_getElem→XK,mem_map→b1,mem_of_getElem?→cH,mem_of_mem_drop→ajn,mem_of_mem_take→ua,mem_or_eq_of_mem_set→MA,mem_range→n_,mem_singleton→gg,nil_append→Gy,nodup_append→DK,nodup_cons→qj,nodup_nil→Kx,not_mem_nil→rt,of_mem_zip→RN,pairwise_iff_getElem→Zs,pairwise_map→Wy,perm_append_comm→X4,perm_middle→ai',range→fF,range_succ→xm,replicate→Et,reverse_cons→Zp,set_cons_succ→ly,set_cons_zero→k',size_toArray→el,sublist_flatten_of_mem→YW,sum_cons→UT,take_add_one→pz,take_append_drop→Wc,take_length→ig,take_of_length_le→Jy,take_zero→r5
open List.Pairwise renaming imp_of_mem→anb,nil→apm
open List.Perm renaming append_left→alV
open List.cons renaming inj→wM
open Nat renaming le_of_eq→AV,le_of_lt→l3,le_of_not_lt→X_,le_refl→bW,le_succ→v_,le_trans→cP,log2_lt→aeZ,lt_irrefl→kA,lt_of_le_of_lt→gQ,lt_of_lt_of_le→hp,lt_of_not_le→Hz,lt_or_ge→EM,lt_succ_self→Lg,lt_trans→Ve,lt_trichotomy→abb,min_eq_left→ahv,ne_of_gt→te,ne_of_lt→fR,not_lt→RJ,reduceAdd→aih,reduceSub→abE,succ_mul→Xt,toDigits→tc,zero_add→agE,zero_le→fC
open Ne renaming symm→dg
open Option renaming bind_some→rA,getD_none→ae2,isSome_iff_exists→Z7,isSome_map→UI,map_eq_some_iff→vf,map_some→C0,none→tp,toList→zW
open Option.some renaming inj→dU
open Or renaming inl→oj,inr→m3
open Prod.mk renaming inj→Ux
open PyProof.Rows renaming callWith_builtin1→W6,callWith_type1→MI,iadd_int→aok,slot_tuple_getitem→Nw,split_weight→X2
open PySem renaming Within→Cw,call→ahh,frameOf→Ih,mem_of_lookup→u6
open PySem.Around renaming frames_deeper→alH,under→QI,under_plainId→S5
open PySem.Builtin.Builtins renaming bindParams→Yl
open PySem.Builtin.Dict renaming dictSlotNone→aoQ,showsAll→al'
open PySem.Builtin.Dict_items renaming ownsTuple→afh
open PySem.Builtin.List renaming listTooLong→NS
open PySem.Builtin.Range renaming rangeSize→apD
open PySem.Builtin.Slice renaming sliceAdjust→Pr,sliceApplied→ZE,sliceFields→anE,slicePartIndex→apg,slicePlaces→G3
open PySem.Builtin.Str renaming occurrences→sC,partsBetween→afe,strKind→ahL,tooLong→VY
open PySem.Builtin.Tuple renaming tupleExact→EI,tupleItemsOf→anu
open PySem.Calls renaming Constant_str→akT,Name_function_global→akD,callWith_builtin→Nu,evalArgs_plain→YR,spliced_cons→Rd,spliced_nil→Y'
open PySem.CmpOp renaming NotIn→Y_
open PySem.Code renaming frames→aa8,isFrame→Nr,quiet_builtin→XJ
open PySem.Data renaming cell→SF,fields→U_
open PySem.EntryCells renaming newEntry→ais
open PySem.EqMixed renaming eq_bool_str→anJ,eq_int_str→anO,eq_str_bool→anF,eq_str_int→anD,ne_bool_str→anc,ne_int_str→aol,ne_str_bool→apo,ne_str_int→aos
open PySem.EqNone renaming eq_bool_none→aoj,eq_int_none→apf,eq_none_bool→an2,eq_none_int→anQ,eq_none_none→ane,eq_none_str→an6,eq_str_none→ao7,ne_bool_none→anV,ne_int_none→ape,ne_none_bool→anm,ne_none_int→an1,ne_none_none→apq,ne_none_str→anP,ne_str_none→anM
open PySem.F renaming args_dict_keyiterator_next_1→acR,args_dict_pop_3→aek,args_str_split_2→RI,entry_dict_keyiterator_next→Zg,entry_dict_pop→Zf,entry_min_loop→RA,entry_str_split→Nf,excBase_ValueError→Xc,plainAttrs_dict→E7,plainAttrs_list→ie,plainAttrs_str→sH,plain_min_loop→uv,slot_dict_getitem→acF,slot_dict_items→FD,slot_dict_iter→X5,slot_dict_keyiterator_next→CY,slot_dict_pop→Ua,slot_list_append→lE,slot_list_clear→aah,slot_list_extend→Gk,slot_list_insert→zw,slot_str_join→Dk,slot_str_split→B4,type_dict_items→Rk,type_list_append→mK,type_list_extend→Wl,type_list_insert→IJ,type_str_join→Ak,type_str_split→abp
open PySem.Heap renaming MadeExcOf→adE,SameBut→t_,get?_none_of_le→Pq,get?_push_of_some→dE,get?_push_size→hc,get?_update_other→k4,get?_update_self→rL,lt_size→dJ,size_push→R3,size_update→YJ
open PySem.Heap.IsSliceOf renaming new→ao9
open PySem.Heap.Ns1 renaming of_empty→afm
open PySem.Heap.SameBut renaming update→ak9
open PySem.NameKind renaming cell→PE,free→qL
open PySem.NumText renaming digitsVal→OQ
open PySem.Obj renaming data_mapFields→y6,isFreed_of_fields→Om,mapFields→oC,mapSeq→vv
open PySem.Paired renaming length→FI,snoc→VZ
open PySem.PassesOwn renaming never→gi
open PySem.SeqAt renaming EqAt→I2,RcAt→IK
open PySem.SeqAt.EqAt renaming int_str→ajD,of_refs→R_,same→VH,str_int→Xi
open PySem.SeqAt.RcNeAt renaming lists→anC,lists_lengths→aof,tuples→amP
open PySem.Str renaming cps_append→k3,ext'→alQ,join→d4,length→tD,ofString→ae
open PySem.StrLaws renaming glued_eq_join→yv,reprText_len→anG,sliceText→uk
open PySem.Txt renaming join→pB,slice→lP,slice_le→tS,split→ij,upper→tb
open PySem.Value renaming bool→jz,builtin→uj,bytes→JW,float→Gn,int→mN,isInt→acx,isStrOf→afj,none→ic,ref→dz,str→qe,type→GX
open PySem.W renaming CodeHd→mS,Frag→a_,InitBack→alP,InstAt→Ig,Looks→Kk,any_some→Bg,bind_fn→aa6,callWith_K→vG,callWith_K0→Yg,cellsFrom_some→agP,clsIn→abt,cls_value→akk,codeHdIn→aa1,codeIn→VQ,emptyDict→j1,envX→Gb,exmOne→JF,findCls→agK,findIn→dm,fnOf→we,handedIn→aez,hasDictIn→Aq,instObj→q8,isFn→GY,keepIn→qr,kla_fn→ahp,kla_obj→vB,lookIn→Dx,looks_clsIn→SK,looks_findIn→Dj,looks_mroIn→ahM,makesIn→aaW,methodCall_KW→yk,methodObj→T8,method_cls→ae1,mroIn→w8,noTabs→alI,nsIn→Wv,plainGet→L4,plainGet_of→U7,plainOver→akP,readsIn→YT,set_plain→aaQ,specialIn→sP,tabObj→S_,takerIn→NW,takesIn→F9,typeIn→Vv
open PySem.W.KIN renaming signs_num→aff
open PySem.W.KOpn renaming upper_app→aot,upper_one→ao8
open PySem.W.Looks renaming here→aef,ld→anR
open PySem.W.WData renaming int→aeo
open PySem.W.WShape renaming has→ah3
open PySem.Walks renaming list→zG
open PySem.Within renaming cons→ahZ
open Sum renaming inl→qE,inr→bT
open Sum.inr renaming inj→n2
open True renaming intro→iu
namespace L2
open PySem PySem.Spec PyProof.Rows
noncomputable abbrev Key:=Sum Int Str
noncomputable def sV:Key->Value->Bool
 | .inl k,v=>acx k v
 | .inr x,v=>afj x v
noncomputable def ah4 (w:World):Key->Int
 | .inl k=>hashInt k
 | .inr x=>hashStr w x
theorem nD:∀ {k:Key} {v:Value},sV k v=true->(∃ i t,k=qE i/\v=mN i t)\/(∃ x t,k=bT x/\v=qe x t)
 | .inl i,v,h=>by
  obtain ⟨t,e⟩:=Value.isInt_shape (k:=i) (v:=v) h;exact .inl ⟨i,t,rfl,e⟩
 | .inr x,v,h=>by
  obtain ⟨t,e⟩:=Value.isStrOf_shape (x:=x) (v:=v) h;exact .inr ⟨x,t,rfl,e⟩
theorem W9 (i:Int) (t:Tok):sV (.inl i) (.int i t)=true:=by simp [sV,acx]
theorem ajz (x:Str) (t:Tok):sV (.inr x) (.str x t)=true:=by simp [sV,afj]
theorem aj8 (a b:Int):decide ((qE a:Key)=qE b)=(a == b):=by
 by_cases e:a=b
 .subst e;simp
 .have h:¬ (qE a:Key)=qE b:=fun q=>e (Sum.inl.inj q)
  rw [decide_eq_false h];exact (beq_eq_false_iff_ne.mpr e).symm
theorem abJ (a b:Str):decide ((bT a:Key)=bT b)=decide (a=b):=by
 by_cases e:a=b
 .subst e;simp
 .have h:¬ (bT a:Key)=bT b:=fun q=>e (n2 q)
  rw [decide_eq_false h,decide_eq_false e]
theorem ad2 (a:Int) (b:Str):decide ((qE a:Key)=bT b)=false:=decide_eq_false (fun q=>nomatch q)
theorem aeu (a:Str) (b:Int):decide ((bT a:Key)=qE b)=false:=decide_eq_false (fun q=>nomatch q)
noncomputable def gM (prog:Program) (w:World):PySem.KeyKind prog w Key where
 is:=sV
 hash:=ah4 w
 inj:=fun v a b aO ab=>by
  rcases nD aO with ⟨i,t,rfl,rfl⟩ | ⟨x,t,rfl,rfl⟩
  .rcases nD ab with ⟨j,u,rfl,e⟩ | ⟨y,u,rfl,e⟩
   .injection e with aq _;rw [aq]
   .exact nomatch e
  .rcases nD ab with ⟨j,u,rfl,e⟩ | ⟨y,u,rfl,e⟩
   .exact nomatch e
   .injection e with aq _;rw [aq]
 byValue:=fun k v h=>by
  rcases nD h with ⟨i,t,rfl,rfl⟩ | ⟨x,t,rfl,rfl⟩ <;> rfl
 pyHash:=fun aF h=>by
  rcases nD aF with ⟨i,t,rfl,rfl⟩ | ⟨x,t,rfl,rfl⟩
  .exact wpAny_pyHash_int h
  .exact wpAny_pyHash_str h
 eqBool:=fun br aF h=>by
  rcases nD br with ⟨i,t,rfl,rfl⟩ | ⟨x,t,rfl,rfl⟩
  .rcases nD aF with ⟨j,u,rfl,rfl⟩ | ⟨y,u,rfl,rfl⟩
   .rw [aj8] at h;exact wpAny_eqBool_int h
   .rw [ad2] at h;exact ajD i t y u _ _ _ _ h
  .rcases nD aF with ⟨j,u,rfl,rfl⟩ | ⟨y,u,rfl,rfl⟩
   .rw [aeu] at h;exact Xi x t j u _ _ _ _ h
   .rw [abJ] at h;exact wpAny_eqBool_str h
 «strs»:=fun k x t v h=>by
  rcases nD h with ⟨i,u,rfl,e⟩ | ⟨y,u,rfl,e⟩
  .exact nomatch e
  .injection e with aq _;subst aq;cases v <;> rfl
theorem ZF (prog:Program) (w:World) (i:Int) (t:Tok):(gM prog w).is (.inl i) (.int i t)=true:=W9 i t
theorem AC (prog:Program) (w:World) (x:Str) (t:Tok):(gM prog w).is (.inr x) (.str x t)=true:=ajz x t
inductive V where
 | bO | bo (b:Bool) | int (i:Int) | str (x:Str) | k6 (b:Array UInt8) | sQ (b:UInt64) | ref (a:Addr) | ty (n:String)
 deriving DecidableEq
noncomputable def bD:V->Value->Prop
 | .bO,u=>u=ic
 | .bo b,u=>u=jz b
 | .int i,u=>∃ t,u=mN i t
 | .str x,u=>∃ t,u=qe x t
 | .k6 b,u=>∃ t,u=JW b t
 | .sQ b,u=>∃ t,u=Gn b t
 | .ref a,u=>u=dz a
 | .ty n,u=>u=GX n
noncomputable abbrev bU:List V->List Value->Prop:=Paired bD
theorem bU.length (r:bU xs us):xs.length=us.length:=FI r
theorem bU.get:∀ {xs:List V} {us:List Value} {i:Nat} {x:V},bU xs us->xs[i]? = some x->∃ u,us[i]? = some u/\bD x u
 | _,_,_,_,.nil,e=>by simp at e
 | _,_,0,_,.cons r _,e=>by simp at e;subst e;exact ⟨_,rfl,r⟩
 | _,_,i + 1,x,.cons _ t,e=>by
  obtain ⟨u,af,aj⟩:=bU.get (i:=i) (x:=x) t (by simpa using e);exact ⟨u,by simpa using af,aj⟩
theorem bU.set {x:V} (r:bD x u):∀ {xs:List V} {us:List Value} (i:Nat),bU xs us->bU (xs.set i x) (us.set i u)
 | _,_,_,.nil=>.nil
 | _,_,0,.cons _ t=>.cons r t
 | _,_,i + 1,.cons q t=>.cons q (bU.set r i t)
theorem bU.append:∀ {xs ys:List V} {us ws:List Value},bU xs us->bU ys ws->bU (xs ++ ys) (us ++ ws)
 | _,_,_,_,.nil,s=>s
 | _,_,_,_,.cons r t,s=>.cons r (bU.append t s)
theorem bU.take:∀ {xs:List V} {us:List Value} (n:Nat),bU xs us->bU (xs.take n) (us.take n)
 | _,_,0,_=>.nil
 | _,_,_ + 1,.nil=>.nil
 | _,_,n + 1,.cons r t=>.cons r (bU.take n t)
theorem bU.drop:∀ {xs:List V} {us:List Value} (n:Nat),bU xs us->bU (xs.drop n) (us.drop n)
 | _,_,0,r=>r
 | _,_,_ + 1,.nil=>.nil
 | _,_,n + 1,.cons _ t=>bU.drop n t
theorem bU.none_of:∀ {xs:List V} {us:List Value} {i:Nat},bU xs us->xs[i]? = none->us[i]? = none:=fun {xs us i} r e=>by
 have af:=r.length;have aj:xs.length <= i:=KA.mp e;exact KA.mpr (by omega)
noncomputable def hr:Option V->Option Value->Prop
 | some v,some u=>bD v u
 | none,none=>True
 | _,_=>False
noncomputable def ee {ey:Type}:List (ey × V)->List (ey × Value)->Prop:=Paired fun (p:ey × V) (q:ey × Value)=>p.1=q.1/\bD p.2 q.2
noncomputable def cM:Key->V
 | .inl i=>.int i
 | .inr x=>.str x
inductive e2 where
  | lst (xs:List V)
  | tup (xs:List V)
  | bx (kvs:List (Key × V)) | f9 (kvs:List (List Key × V))
  | set (S:Int->Bool) (n:Nat)
  | ins (C ao:Addr) (aK:List (Str × V))
  | own (x:Addr)
  | yW (aK:List (Str × V))
  | met (f x:Addr)
  | zQ (lo ah:Int)
  | d6 (o:Obj) (u:e2)
  | gF (ps:Array Value)
  | ext (u9:Heap->Prop)
noncomputable abbrev au:=Addr->Option e2
noncomputable def upd (H:au) (a:Addr) (o:e2):au:=fun b=>if b=a then some o else H b
theorem aX:upd H a o a=some o:=by unfold upd;rw [if_pos rfl]
theorem aH (h:b ≠ a):upd H a o b=H b:=by unfold upd;rw [if_neg h]
theorem No:upd (upd H a o) a u=upd H a u:=by
 funext b;unfold upd;split <;> rfl
theorem b0 {H:au} {a b:Addr} {o u:e2} (h:H a=some o) (h':H b=some u) (d:o ≠ u):a ≠ b:=by
 intro e;subst e;rw [h] at h';exact d (dU h')
theorem dj {H:au} {a b:Addr} {o:e2} (h:H a=some o) (h':H b=none):a ≠ b:=by
 intro e;subst e;rw [h] at h';cases h'
section
variable (P:Program) (w:World)
noncomputable def dy (H:au) (h:Heap) (a:Addr):e2->Prop
 | .lst xs=>xs.length <= sizeLine/\∃ (a9:List Value) (n:Nat),bU xs a9/\h.get? a=some { cls:=.type "list",data:=.seq a9.toArray n }
 | .tup xs=>xs.length <= sizeLine/\∃ a9:List Value,bU xs a9/\IsTup h a a9.toArray
 | .bx kvs=>kvs.length <= sizeLine/\(a == sysModules)=false/\∃ vs,ee kvs vs/\h.DictOf (gM P w) a vs
 | .f9 kvs=>kvs.length <= sizeLine/\(a == sysModules)=false/\∃ xs:List (List Key × Addr × Value),
   Paired (fun (p:List Key × V) (q:List Key × Addr × Value)=>p.1=q.1/\H q.2.1=some (.tup (p.1.map cM))/\bD p.2 q.2.2) kvs xs /\
   ∃ o aV ep,h.get? a=some o/\o.ExactDict/\o.data=.dict aV ep/\aV.toList=xs.map (entryOfKey (tupleKind (gM P w)))/\(xs.map (·.1)).Nodup
 | .set S n=>h.SetOf (intKind P w) a S n
 | .ins C ao aK=>H ao=some (.own a)/\aK.length <= 1000/\ao ≠ a/\h.get? a=some (q8 C ao) /\
   ∃ dR,h.Ns1 ao dR/\(∀ f,hr (aK.lookup f) (dR f))/\Cw dR (aK.map (·.1))
 | .own _=>∃ o,h.get? a=some o
 | .yW aK=>∃ dR,h.Ns1 a dR/\∀ f,hr (aK.lookup f) (dR f)
 | .zQ lo ah=>∃ t u v,h.get? a=some { cls:=.type "range",data:=.fields #[.int lo t,.int ah u,.int 1 v] }
 | .d6 o u=>h.get? a=some o/\dy H h a u
 | .gF ps=>h.get? a=some { cls:=.none,data:=.fields ps }
 | .met f x=>h.get? a=some (T8 (.ref f) (.ref x))
 | .ext u9=>u9 h/\(∃ o,h.get? a=some o)/\∀ af aj:Heap,u9 af->(∀ o,af.get? a=some o->aj.get? a=some o)->u9 aj
def eh (H:au) (h:Heap):Prop:=∀ a o,H a=some o->dy P w H h a o
end
section
variable {P:Program} {w:World} {H I:au} {h h':Heap} {a:Addr} {o:e2}
theorem dy.lt (x:dy P w H h a o):a < h.objs.size:=by
 cases o with
 | lst xs=>obtain ⟨_,_,_,_,e⟩:=x;exact dJ e
 | tup xs=>obtain ⟨_,_,_,p⟩:=x;exact p.lt
 | bx kvs=>obtain ⟨_,_,_,_,o,_,_,e,_⟩:=x;exact dJ e
 | f9 kvs=>obtain ⟨_,_,_,_,o,_,_,e,_⟩:=x;exact dJ e
 | set S n=>obtain ⟨o,_,_,_,e,_⟩:=x;exact dJ e
 | ins C ao aK=>obtain ⟨_,_,_,e,_⟩:=x;exact dJ e
 | own y=>obtain ⟨_,e⟩:=x;exact dJ e
 | yW aK=>obtain ⟨_,⟨_,_,_,e,_⟩,_⟩:=x;exact dJ e
 | zQ lo ah=>obtain ⟨_,_,_,e⟩:=x;exact dJ e
 | d6 bV u=>obtain ⟨e,_⟩:=x;exact dJ e
 | gF ps=>exact dJ (show h.get? a=some _ from x)
 | met f y=>exact dJ (show h.get? a=some _ from x)
 | ext u9=>obtain ⟨_,⟨_,e⟩,_⟩:=x;exact dJ e
theorem Paired.p7:∀ {l₁:List α} {l₂:List β},Paired F l₁ l₂->(∀ a b,F a b->G a b)->Paired G l₁ l₂
 | _,_,.nil,_=>.nil
 | _,_,.cons r t,f=>.cons (f _ _ r) (Paired.p7 t f)
theorem dy.mF (x:dy P w H h a o) (k:∀ b u,(b=a\/H b=some (.own a))->h.get? b=some u->h'.get? b=some u)
  (aQ:∀ b,H b=some (.own a)->I b=some (.own a)) (cK:∀ b xs,H b=some (.tup xs)->I b=some (.tup xs)):dy P w I h' a o:=by
 induction o with
 | lst xs=>obtain ⟨z,a9,n,r,e⟩:=x;exact ⟨z,a9,n,r,k _ _ (.inl rfl) e⟩
 | tup xs=>obtain ⟨z,a9,r,bV,e,c⟩:=x;exact ⟨z,a9,r,bV,k _ _ (.inl rfl) e,c⟩
 | bx kvs=>obtain ⟨z,y,vs,r,bV,aV,ep,e,c⟩:=x;exact ⟨z,y,vs,r,bV,aV,ep,k _ _ (.inl rfl) e,c⟩
 | f9 kvs=>
  obtain ⟨z,y,xs,r,bV,aV,ep,e,c⟩:=x;exact ⟨z,y,xs,Paired.p7 r fun p q z=>⟨z.1,cK _ _ z.2.1,z.2.2⟩,bV,aV,ep,k _ _ (.inl rfl) e,c⟩
 | set S n=>obtain ⟨bV,aV,ep,t,e,c⟩:=x;exact ⟨bV,aV,ep,t,k _ _ (.inl rfl) e,c⟩
 | ins C ao aK=>
  obtain ⟨d,z,ne,e,dR,⟨bk,aV,ep,aD,c⟩,r⟩:=x;exact ⟨aQ _ d,z,ne,k _ _ (.inl rfl) e,dR,⟨bk,aV,ep,k _ _ (.inr d) aD,c⟩,r⟩
 | own y=>obtain ⟨bV,e⟩:=x;exact ⟨bV,k _ _ (.inl rfl) e⟩
 | yW aK=>obtain ⟨dR,⟨bk,aV,ep,e,c⟩,r⟩:=x;exact ⟨dR,⟨bk,aV,ep,k _ _ (.inl rfl) e,c⟩,r⟩
 | zQ lo ah=>obtain ⟨t,u,v,e⟩:=x;exact ⟨t,u,v,k _ _ (.inl rfl) e⟩
 | d6 bV u b'=>obtain ⟨e,q⟩:=x;exact ⟨k _ _ (.inl rfl) e,b' q⟩
 | gF ps=>
  have e:h.get? a=some { cls:=.none,data:=.fields ps }:=x;show h'.get? a=some { cls:=.none,data:=.fields ps };exact k a _ (.inl rfl) e
 | met f y=>
  have e:h.get? a=some (T8 (.ref f) (.ref y)):=x;show h'.get? a=some (T8 (.ref f) (.ref y));exact k a _ (.inl rfl) e
 | ext u9=>obtain ⟨p,⟨o,e⟩,st⟩:=x;exact ⟨st _ _ p fun o q=>k _ _ (.inl rfl) q,⟨o,k _ _ (.inl rfl) e⟩,st⟩
theorem eh.lt (x:eh P w H h) (e:H a=some o):a < h.objs.size:=(x a o e).lt
theorem eh.fresh (x:eh P w H h) (e:h.objs.size <= a):H a=none:=by
 cases q:H a with
 | none=>rfl
 | some u=>exact absurd (hp (x.lt q) e) (kA _)
theorem eh.kept (x:eh P w H h) (k:∀ b u,h.get? b=some u->h'.get? b=some u):eh P w H h':=fun a o e=>
 (x a o e).mF (fun b u _ q=>k b u q) (fun _ q=>q) fun _ _ q=>q
theorem eh.laid (x:eh P w H h) (k:∀ b u,h.get? b=some u->h'.get? b=some u) (ar:h.objs.size <= a) (new:dy P w (upd H a o) h' a o):eh P w (upd H a o) h':=fun b u e=>by
 have aY:=x.fresh ar;by_cases ab:b=a
 .subst ab;rw [aX] at e;cases e;exact new
 .rw [aH ab] at e;exact (x b u e).mF (fun c v _ q=>k c v q) (fun c q=>by rw [aH (dj q aY)];exact q) fun c xs q=>by rw [aH (dj q aY)];exact q
end
def jv (H:au) (a:Addr) (u:e2):Prop:=H a=some u\/∃ o,H a=some (.d6 o u)
theorem jv.of (h:H a=some u):jv H a u:=.inl h
theorem jv.ok {w:World} {h:Heap} (r:jv H a u) (x:eh P w H h):dy P w H h a u:=by
 rcases r with r | ⟨o,r⟩
 .exact x a u r
 .obtain ⟨_,q⟩:=x a _ r;exact q
noncomputable def l8:Option e2->Prop
 | some (.lst _)=>True
 | some (.bx _)=>True
 | some (.f9 _)=>True
 | some (.set _ _)=>True
 | some (.ins _ _ _)=>True
 | some (.ext _)=>True
 | _=>False
section
variable {P:Program} {w:World} {H:au} {h h':Heap} {x e:Addr} {dx:e2}
theorem eh.write (ok:eh P w H h) (fe:l8 (H x)) (he:e=x\/H e=some (.own x)) (k:∀ b u,b ≠ e->h.get? b=some u->h'.get? b=some u) (uW:∃ u,h'.get? e=some u)
  (new:dy P w (upd H x dx) h' x dx):eh P w (upd H x dx) h':=fun b u q=>by
 have wi:∀ c y,H c=some (.own y)->c ≠ x:=fun c y r z=>by subst z;rw [r] at fe;exact fe
 have K':∀ c xs,H c=some (.tup xs)->c ≠ x:=fun c xs r z=>by subst z;rw [r] at fe;exact fe
 by_cases ab:b=x
 .subst ab;rw [aX] at q;cases q;exact new
 .rw [aH ab] at q;by_cases sE:b=e
  .have cW:H b=some (.own x):=by
    rcases he with z | z
    .exact absurd (sE.trans z) ab
    .rw [sE];exact z
   rw [q] at cW;cases cW;obtain ⟨v,aF⟩:=uW;exact ⟨v,by rw [sE];exact aF⟩
  .refine (ok b u q).mF (fun c v av r=>k c v ?_ r) (fun c r=>by rw [aH (wi c b r)];exact r) fun c xs r=>by rw [aH (K' c xs r)];exact r
   rcases av with rfl | av
   .exact sE
   .rintro rfl;rcases he with z | z
    .exact wi c b av z
    .rw [av] at z;cases z;exact ab rfl
end
structure eJ (aK ex:List Addr) (H I:au) (h h':Heap):Prop where
 keep:∀ b o,h.get? b=some o->H b=none->b ∉ aK->b ∉ ex->h'.get? b=some o
 slot:∀ b o,h.get? b=some o->H b=none->b ∈ aK->b ∉ ex->∃ bt,h'.get? b=some { o with slots:=bt }
 free:∀ b o,h.get? b=some o->H b=none->b ∉ ex->I b=none
 there:∀ b o,h.get? b=some o->b ∉ ex->∃ dx,h'.get? b=some dx
 kF:∀ b xs,H b=some (.tup xs)->I b=some (.tup xs)
 jo:∀ b o u,H b=some (.d6 o u)->I b=some (.d6 o u)
 jU:∀ b ps,H b=some (.gF ps)->∃ more,I b=some (.gF (ps ++ more))
section
variable {aK l1 ex VM:List Addr} {H H1 aw:au} {h af aj h':Heap} {a x e:Addr} {o:e2}
theorem eJ.any (u:eJ aK ex H H1 h af) (q:h.get? b=some bV) (n:H b=none) (ag:b ∉ ex):∃ bt,af.get? b=some { bV with slots:=bt }:=by
 by_cases ab:b ∈ aK
 .exact u.slot b bV q n ab ag
 .exact ⟨bV.slots,u.keep b bV q n ab ag⟩
theorem eJ.trans (a:eJ aK ex H H1 h af) (b:eJ aK ex H1 aw af aj):eJ aK ex H aw h aj where
 keep:=fun c bV q n av ag=>b.keep c bV (a.keep c bV q n av ag) (a.free c bV q n ag) av ag
 slot:=fun c bV q n av ag=>by
  obtain ⟨bt,aq⟩:=a.slot c bV q n av ag;obtain ⟨uo,aD⟩:=b.slot c _ aq (a.free c bV q n ag) av ag;exact ⟨uo,aD⟩
 free:=fun c bV q n ag=>by
  obtain ⟨dx,aq⟩:=a.there c bV q ag;exact b.free c dx aq (a.free c bV q n ag) ag
 there:=fun c bV q ag=>by
  obtain ⟨dx,aq⟩:=a.there c bV q ag;exact b.there c dx aq ag
 kF:=fun c xs q=>b.kF c xs (a.kF c xs q)
 jo:=fun c bV xs q=>b.jo c bV xs (a.jo c bV xs q)
 jU:=fun c ps q=>by
  obtain ⟨jD,aq⟩:=a.jU c ps q;obtain ⟨iZ,aD⟩:=b.jU c _ aq;exact ⟨jD ++ iZ,by rw [aD,ac3]⟩
theorem eJ.kept (k:∀ b u,h.get? b=some u->h'.get? b=some u):eJ aK ex H H h h':=
 ⟨fun b bV q _ _ _=>k b bV q,fun b bV q _ _ _=>⟨bV.slots,k b bV q⟩,fun _ _ _ n _=>n,fun b bV q _=>⟨bV,k b bV q⟩,fun _ _ q=>q,fun _ _ _ q=>q,fun _ ps q=>⟨#[],by rw [q];simp⟩⟩
theorem eJ.refl:eJ aK ex H H h h:=eJ.kept fun _ _ q=>q
theorem eJ.laid (k:∀ b u,h.get? b=some u->h'.get? b=some u) (ar:h.objs.size <= a) (aY:H a=none):eJ aK ex H (upd H a o) h h' where
 keep:=fun b u q _ _ _=>k b u q
 slot:=fun b u q _ _ _=>⟨u.slots,k b u q⟩
 free:=fun b u q n _=>by rw [aH (fR (hp (dJ q) ar))];exact n
 there:=fun b u q _=>⟨u,k b u q⟩
 kF:=fun b xs q=>by rw [aH (dj q aY)];exact q
 jo:=fun b u xs q=>by rw [aH (dj q aY)];exact q
 jU:=fun b ps q=>⟨#[],by rw [aH (dj q aY),q];simp⟩
theorem eJ.write (fe:l8 (H x)) (he:e=x\/H e=some (.own x)) (k:∀ b u,b ≠ e->h.get? b=some u->h'.get? b=some u) (uW:∃ u,h'.get? e=some u):eJ aK ex H (upd H x o) h h':=by
 have ag:∀ b,H b=none->b ≠ x:=fun b n z=>by subst z;rw [n] at fe;exact fe
 have ab:∀ b,H b=none->b ≠ e:=fun b n z=>by
  subst z;rcases he with r | r
  .exact ag b n r
  .rw [n] at r;cases r
 have hm:∀ b u,H b=some u->¬ l8 (some u)->b ≠ x:=fun b u q nm z=>by subst z;rw [q] at fe;exact nm fe
 refine ⟨fun b u q n _ _=>k b u (ab b n) q,fun b u q n _ _=>⟨u.slots,k b u (ab b n) q⟩,fun b u q n _=>by rw [aH (ag b n)];exact n,fun b u q _=>?_,
  fun b xs q=>by rw [aH (hm b _ q fun z=>z)];exact q,fun b u xs q=>by rw [aH (hm b _ q fun z=>z)];exact q,fun b ps q=>⟨#[],by rw [aH (hm b _ q fun z=>z),q];simp⟩⟩
 by_cases sE:b=e
 .subst sE;exact uW
 .exact ⟨u,k b u sE q⟩
theorem eJ.mono (u:eJ aK ex H H1 h af) (ay:∀ b ∈ aK,b ∈ l1) (ag:∀ b ∈ ex,b ∈ VM):eJ l1 VM H H1 h af:=
 ⟨fun b bV q n ab he=>u.keep b bV q n (fun z=>ab (ay b z)) fun z=>he (ag b z),fun _ _ q n _ he=>u.any q n fun z=>he (ag _ z),fun b bV q n he=>u.free b bV q n fun z=>he (ag b z),fun b bV q he=>u.there b bV q fun z=>he (ag b z),u.kF,u.jo,u.jU⟩
end
noncomputable def Bv (h:Heap) (H:au):List Addr:=(fF h.objs.size).filter fun a=>(H a).isSome
noncomputable def nL (h:Heap) (H:au):Heap:=PySem.W.hideAll h (Bv h H)
theorem aay (h:Heap) (H:au):(nL h H).objs.size=h.objs.size:=PySem.W.hideAll_size _ _
theorem Jg {h:Heap} (e:h.get? b=some o) (n:H b=none):(nL h H).get? b=some o:=
 PySem.W.hideAll_get _ e fun hm=>by
  have q:(H b).isSome=true:=(kV.mp hm).2;rw [n] at q;simp at q
theorem ajQ {h:Heap} (e:(nL h H).get? b=some o):h.get? b=some o/\H b=none:=by
 have bQ:h.get? b=some o:=PySem.W.of_hideAll (Bv h H) e;refine ⟨bQ,?_⟩;cases q:H b with
 | none=>rfl
 | some x=>
  have hm:b ∈ Bv h H:=kV.mpr ⟨n_.mpr (dJ bQ),by simp [q]⟩;have z:(nL h H).get? b=none:=PySem.W.hideAll_none (Bv h H) hm;rw [z] at e;cases e
noncomputable def akS (g h:Heap) (L:Addr):List (Addr × Obj):=(fF h.objs.size).filterMap fun a=>if a=L\/(g.get? a).isSome=true then none else (h.get? a).map fun o=>(a,o)
noncomputable def rest (g h:Heap) (L d:Addr):List (Addr × Obj):=(akS g h L).filter fun p=>decide (p.1 ≠ d)
structure Mod (K:a_) (mg:Str->Option Value) (base:Heap):Prop where
 qA:K.In base
 glob:base.Ns mainGlobals mg
 blt:∃ mx,base.Ns builtinsNs mx/\∀ x:Str,x ≠ "__name__" -> mx x=bootBuiltins x
 nolimit:base.NoLimit
structure a3 where
 prog:Program
 w:World
 K:a_
 mg:Str->Option Value
 base:Heap
 A:Around
 N:List Str
 fv:Shared
 q5:au
 env:Env
 outer:List Env
 stack:List Env
 ex:List Addr
 fn:Str->Bool
 calm:Bool
 dN:List (Addr × Obj)
 du:Value->Shared->Prop
noncomputable def h_ (l:List Env):List Addr:=l.filterMap (·.frame)
noncomputable abbrev a3.aK (X:a3):List Addr:=h_ X.outer
def Cs (sc:Scope) (x:Str):Prop:=sc.names.lookup x=some .local\/sc.names.lookup x=some .cell\/sc.names.lookup x=some .free
def Loc (sc:Scope) (x:Str):Prop:=sc.names.lookup x=some .local\/sc.names.lookup x=some .cell
def agx (env:Env) (h:Heap) (m:Str->Option Value) (x:Str) (u:Value):Prop:=
 (env.kindOf x=some .local/\m x=some u)\/((env.kindOf x=some .cell\/env.kindOf x=some .free)/\∃ c,env.cells.lookup x=some c/\h.IsCell c (some u))
structure a3.Ok (X:a3):Prop where
 mod:Mod X.K X.mg X.base
 kind:X.env.scope.kind=.function
 glob:X.env.globals=mainGlobals
 blt:X.env.builtins=builtinsNs
 above:X.fv.heap.objs.size <= X.env.locals
 inj:∀ x y c,X.env.cells.lookup x=some c->X.env.cells.lookup y=some c->x=y
 has:∀ x,(X.env.kindOf x=some .cell\/X.env.kindOf x=some .free)->∃ c,X.env.cells.lookup x=some c
 pQ:∀ x c,X.fn x=true->X.env.cells.lookup x=some c->X.fv.heap.objs.size <= c
 hd:X.calm=true->X.A.handled=none
 frames:X.A.frames=some X.stack
 q6:X.stack=X.outer\/(X.stack=X.env :: X.outer/\X.env.frame=some X.env.locals)
 tE:∀ b ∈ X.ex,b ≠ X.env.locals/\∀ x c,X.env.cells.lookup x=some c->c ≠ b
 bs:∀ b o,X.base.get? b=some o->X.fv.heap.get? b=some o/\X.q5 b=none
 jP:X.base.objs.size <= X.fv.heap.objs.size
 oY:∀ b o,X.base.get? b=some o->b ∉ X.ex
 o_:∀ b ∈ X.ex,b ∉ X.aK
 jL:X.fv.heap.FunFrames X.base X.outer
 l7:∀ b ∈ X.aK,X.q5 b=none
structure Inv (X:a3) (aa:List (Addr × Obj)) (σ:List (Option V)) (H:au) (s:Shared):Prop where
 ok:X.Ok
 os:s.os=X.fv.os
 bare:AllBare s.gens
 base:eJ X.aK X.ex X.q5 H X.fv.heap s.heap
 loc:∃ m,s.heap.Ns X.env.locals m/\∀ (i:Nat) (x:Str) (v:V),X.N[i]? = some x->σ[i]? = some (some v)->Cs X.env.scope x->∃ u,bD v u/\agx X.env s.heap m x u
 cell:∀ x c,X.env.cells.lookup x=some c->∃ v,s.heap.IsCell c v
 free:H X.env.locals=none
 h3:∀ x c,X.env.cells.lookup x=some c->H c=none
 pin:∀ p ∈ X.dN ++ aa,s.heap.get? p.1=some p.2/\H p.1=none/\p.1 ≠ X.env.locals/\p.1 ∉ X.aK/\∀ v,p.2.data ≠ .cell v
 a4:eh X.prog X.w H s.heap
 len:σ.length=X.N.length
section
variable {X:a3} {aa:List (Addr × Obj)} {σ:List (Option V)} {H I:au} {s:Shared} {h':Heap}
theorem a3.Ok.vN (ok:X.Ok) (e:X.base.get? b=some o):b ∉ X.aK:=fun ab=>by
 have:=(ok.jL.mem ab).1;rw [e] at this;cases this
theorem Inv.bs (J:Inv X aa σ H s):∀ b o,X.base.get? b=some o->s.heap.get? b=some o/\H b=none:=fun b o e=>
 ⟨J.base.keep b o (J.ok.bs b o e).1 (J.ok.bs b o e).2 (J.ok.vN e) (J.ok.oY b o e),J.base.free b o (J.ok.bs b o e).1 (J.ok.bs b o e).2 (J.ok.oY b o e)⟩
theorem Inv.cA (J:Inv X aa σ H s):∀ b o,X.base.get? b=some o->s.heap.get? b=some o:=fun b o e=>(J.bs b o e).1
theorem Inv.mod (J:Inv X aa σ H s):Mod X.K X.mg X.base:=J.ok.mod
theorem Inv.fz (J:Inv X aa σ H s):X.K.In s.heap:=J.ok.mod.qA.keeps J.cA
theorem Inv.nolimit (J:Inv X aa σ H s):s.heap.NoLimit:=J.ok.mod.nolimit.keeps J.cA
theorem Inv.fr (J:Inv X aa σ H s):∃ m,Fr X.base X.env.locals s.heap m:=
 let ⟨m,aY,_⟩:=J.loc
 ⟨m,aY,J.cA,cP J.ok.jP J.ok.above⟩
theorem Inv.lt (J:Inv X aa σ H s):X.env.locals < s.heap.objs.size:=let ⟨_,aY,_⟩:=J.loc;aY.lt
theorem Inv.kO (J:Inv X aa σ H s):X.fv.heap.objs.size <= s.heap.objs.size:=cP J.ok.above (l3 J.lt)
theorem Inv.Em (J:Inv X aa σ H s) (h:s.heap.objs.size <= a):a ∉ X.aK:=fun ab=>by
 obtain ⟨_,o,aQ,_⟩:=J.ok.jL.mem ab;exact absurd (hp (dJ aQ) (cP J.kO h)) (kA _)
theorem Inv.oX (J:Inv X aa σ H s):∀ x c,X.env.cells.lookup x=some c->c ≠ X.env.locals:=fun x c e z=>by
 obtain ⟨v,o,aQ,hd⟩:=J.cell x c e;obtain ⟨m,⟨dx,aV,ep,pX,rT,_⟩,_⟩:=J.loc;rw [z,pX] at aQ;cases aQ;rw [rT] at hd;cases hd
theorem Inv.jL (J:Inv X aa σ H s):s.heap.FunFrames X.base X.outer:=by
 have all:∀ (l:List Env),(∀ b ∈ h_ l,b ∈ X.aK)->X.fv.heap.FunFrames X.base l->s.heap.FunFrames X.base l:=by
  intro l
  induction l with
  | nil=>intro _ _;trivial
  | cons env r b'=>
   intro ay aA;obtain ⟨aC,⟨L,o,hf,aY,aQ,hd⟩,ak⟩:=aA;have e4:L ∈ X.aK:=ay L (by unfold h_;rw [O8,hf];exact lp);obtain ⟨bt,e⟩:=J.base.slot L o aQ (J.ok.l7 L e4) e4 fun z=>J.ok.o_ L z e4
   exact ⟨aC,⟨L,_,hf,aY,e,hd⟩,b' (fun b ab=>ay b (by unfold h_;rw [O8,hf];exact hS _ ab)) ak⟩
 exact all X.outer (fun _ ab=>ab) J.ok.jL
theorem Inv.stack (J:Inv X aa σ H s):s.heap.FunFrames X.base X.stack:=by
 rcases J.ok.q6 with e | ⟨e,hf⟩
 .rw [e];exact J.jL
 .rw [e];obtain ⟨m,aY,_⟩:=J.loc;refine .cons (by rw [J.ok.kind];decide) hf aY ?_ J.jL;exact Pq (cP J.ok.jP J.ok.above)
theorem Inv.Ds (J:Inv X aa σ H s):∀ b ∈ h_ X.stack,b ∈ X.env.locals :: X.aK:=fun b ab=>by
 rcases J.ok.q6 with e | ⟨e,hf⟩
 .rw [e] at ab;exact hS _ ab
 .rw [e] at ab;unfold h_ at ab;rw [O8,hf] at ab;exact ab
theorem Inv.xt (J:Inv X aa σ H s):∀ b ∈ h_ X.stack,H b=none:=fun b ab=>by
 rcases fi.mp (J.Ds b ab) with e | ab
 .rw [e];exact J.free
 .obtain ⟨_,o,aQ,_⟩:=J.ok.jL.mem ab;exact J.base.free b o aQ (J.ok.l7 b ab) fun z=>J.ok.o_ b z ab
theorem Inv.step {g':Array GenState} {t':Nat} {d':Drawn} {ch:List Addr} (J:Inv X aa σ H s)
  (hD:∀ b ∈ ch,(b ∈ X.ex\/X.fv.heap.objs.size <= b)/\b ≠ X.env.locals/\(∀ x c,X.env.cells.lookup x=some c->c ≠ b)/\∀ p ∈ X.dN ++ aa,p.1 ≠ b)
  (keep:∀ b o,b ≠ X.env.locals->b ∉ X.aK->b ∉ ch->s.heap.get? b=some o->H b=none->h'.get? b=some o)
  (slot:∀ b o,b ≠ X.env.locals->b ∈ X.aK->b ∉ ch->s.heap.get? b=some o->H b=none->∃ bt,h'.get? b=some { o with slots:=bt }) (free:∀ b o,b ∉ ch->s.heap.get? b=some o->H b=none->I b=none)
  (there:∀ b o,b ∉ ch->s.heap.get? b=some o->∃ dx,h'.get? b=some dx)
  (kF:∀ b xs,H b=some (.tup xs)->I b=some (.tup xs)) (jo:∀ b o u,H b=some (.d6 o u)->I b=some (.d6 o u)) (jU:∀ b ps,H b=some (.gF ps)->∃ more,I b=some (.gF (ps ++ more)))
  (ns:∀ m,s.heap.Ns X.env.locals m->h'.Ns X.env.locals m) (a4:eh X.prog X.w I h') (a5:AllBare g') :
  Inv X aa σ I { s with heap:=h',gens:=g',drawn:=d',toks:=t' }:=by
 have uF:∀ b o,X.fv.heap.get? b=some o->b ≠ X.env.locals:=fun b o e=>fR (hp (dJ e) J.ok.above)
 have Cm:∀ b o,X.fv.heap.get? b=some o->b ∉ X.ex->b ∉ ch:=fun b o e ag ab=>by
  rcases (hD b ab).1 with z | z
  .exact ag z
  .exact absurd (hp (dJ e) z) (kA _)
 have cellK:∀ x c,X.env.cells.lookup x=some c->∀ v,s.heap.IsCell c v->h'.IsCell c v:=fun x c e v ⟨o,aQ,hd⟩=>by
  have yB:c ∉ ch:=fun z=>(hD c z).2.2.1 x c e rfl
  by_cases av:c ∈ X.aK
  .obtain ⟨bt,q⟩:=slot c o (J.oX x c e) av yB aQ (J.h3 x c e);exact ⟨_,q,hd⟩
  .exact ⟨o,keep c o (J.oX x c e) av yB aQ (J.h3 x c e),hd⟩
 refine ⟨J.ok,J.os,a5,⟨fun b o e n ab ag=>?_,fun b o e n ab ag=>?_,fun b o e n ag=>?_,fun b o e ag=>?_,fun b xs e=>kF b xs (J.base.kF b xs e),fun b o xs e=>jo b o xs (J.base.jo b o xs e),fun b ps e=>?_⟩,?_,fun x c e=>?_,?_,fun x c e=>?_,fun p ar=>?_,a4,J.len⟩
 .exact keep b o (uF b o e) ab (Cm b o e ag) (J.base.keep b o e n ab ag) (J.base.free b o e n ag)
 .obtain ⟨bt,aq⟩:=J.base.slot b o e n ab ag;obtain ⟨uo,aD⟩:=slot b _ (uF b o e) ab (Cm b o e ag) aq (J.base.free b o e n ag);exact ⟨uo,aD⟩
 .obtain ⟨dx,aq⟩:=J.base.there b o e ag;exact free b dx (Cm b o e ag) aq (J.base.free b o e n ag)
 .obtain ⟨dx,aq⟩:=J.base.there b o e ag;exact there b dx (Cm b o e ag) aq
 .obtain ⟨jD,aq⟩:=J.base.jU b ps e;obtain ⟨iZ,aD⟩:=jU b _ aq;exact ⟨jD ++ iZ,by rw [aD,ac3]⟩
 .obtain ⟨m,aY,aA⟩:=J.loc;refine ⟨m,ns m aY,fun i x v aq aD bL=>?_⟩;obtain ⟨u,r,l⟩:=aA i x v aq aD bL;refine ⟨u,r,?_⟩;rcases l with l | ⟨k,c,e,z⟩
  .exact .inl l
  .exact .inr ⟨k,c,e,cellK x c e _ z⟩
 .obtain ⟨v,z⟩:=J.cell x c e;exact ⟨v,cellK x c e v z⟩
 .obtain ⟨m,⟨o,_,_,aQ,_⟩,_⟩:=J.loc;exact free _ o (fun z=>(hD _ z).2.1 rfl) aQ J.free
 .obtain ⟨v,o,aQ,hd⟩:=J.cell x c e;exact free c o (fun z=>(hD c z).2.2.1 x c e rfl) aQ (J.h3 x c e)
 .obtain ⟨e,n,ne,f6,d⟩:=J.pin p ar;have yB:p.1 ∉ ch:=fun z=>(hD p.1 z).2.2.2 p ar rfl
  exact ⟨keep p.1 p.2 ne f6 yB e n,free p.1 p.2 yB e n,ne,f6,d⟩
theorem Inv.un {t':Nat} (J:Inv X aa σ H s) (u:eJ X.aK [] H I s.heap h') (a4:eh X.prog X.w I h'):Inv X aa σ I { s with heap:=h',toks:=t' }:=by
 obtain ⟨m,⟨o,aV,ep,aQ,r⟩,_⟩:=id J.loc;obtain ⟨bt,e4⟩:=u.any aQ J.free (by simp);exact J.step (g':=s.gens) (d':=s.drawn) (ch:=[]) (fun _ z=>nomatch z) (fun b o _ ab _ e n=>u.keep b o e n ab (by simp)) (fun b o _ ab _ e n=>u.slot b o e n ab (by simp)) (fun b o _ e n=>u.free b o e n (by simp)) (fun b o _ e=>u.there b o e (by simp)) u.kF u.jo u.jU (fun dt hm=>by
  obtain ⟨dx,wa,ET,pX,cV⟩:=hm;rw [aQ] at pX;cases pX;exact ⟨_,wa,ET,e4,cV⟩) a4 J.bare
theorem Inv.call {g':Array GenState} {t':Nat} {d':Drawn} {ch:List Addr} (J:Inv X aa σ H s) (u:eJ (h_ X.stack) ch H I s.heap h') (a4:eh X.prog X.w I h') (a5:AllBare g')
  (hD:∀ b ∈ ch,(b ∈ X.ex\/X.fv.heap.objs.size <= b)/\b ≠ X.env.locals/\(∀ x c,X.env.cells.lookup x=some c->c ≠ b)/\∀ p ∈ X.dN ++ aa,p.1 ≠ b) :
  Inv X aa σ I { s with heap:=h',gens:=g',drawn:=d',toks:=t' }:=by
 obtain ⟨m,⟨o,aV,ep,aQ,r⟩,_⟩:=id J.loc;obtain ⟨bt,e4⟩:=u.any aQ J.free fun z=>(hD _ z).2.1 rfl
 exact J.step (ch:=ch) hD (fun b o e4 ab av e n=>u.keep b o e n (fun z=>(fi.mp (J.Ds b z)).elim e4 ab) av) (fun b o _ _ av e n=>u.any e n av) (fun b o av e n=>u.free b o e n av) (fun b o av e=>u.there b o e av) u.kF u.jo u.jU (fun dt hm=>by
  obtain ⟨dx,wa,ET,pX,cV⟩:=hm;rw [aQ] at pX;cases pX;exact ⟨_,wa,ET,e4,cV⟩) a4 a5
theorem Inv.turned {t':Nat} {it:Addr} (J:Inv X aa σ H s) (k:∀ b o,b ≠ it->s.heap.get? b=some o->h'.get? b=some o) (aY:H it=none) (e4:it ≠ X.env.locals)
  (af:it ∈ X.ex\/X.fv.heap.objs.size <= it) (aj:∀ x c,X.env.cells.lookup x=some c->c ≠ it) (a':∀ p ∈ X.dN ++ aa,p.1 ≠ it):Inv X aa σ H { s with heap:=h',toks:=t' }:=by
 have nit:∀ b u,H b=some u->b ≠ it:=fun b u e z=>by rw [z,aY] at e;cases e
 refine J.step (g':=s.gens) (d':=s.drawn) (ch:=[it]) (fun b ab=>?_) (fun b o _ _ av e _=>k b o (fun z=>av (by simp [z])) e) (fun b o _ _ av e _=>⟨o.slots,k b o (fun z=>av (by simp [z])) e⟩) (fun _ _ _ _ n=>n)
  (fun b o av e=>⟨o,k b o (fun z=>av (by simp [z])) e⟩) (fun _ _ e=>e) (fun _ _ _ e=>e) (fun b ps e=>⟨#[],by rw [e];simp⟩) (fun m hm=>?_) (fun b u e=>?_) J.bare
 .have e:b=it:=by simpa using ab
  subst e;exact ⟨af,e4,aj,a'⟩
 .obtain ⟨o,aV,ep,aQ,r⟩:=hm;exact ⟨o,aV,ep,k _ o (dg e4) aQ,r⟩
 .refine (J.a4 b u e).mF (fun c v av q=>k c v ?_ q) (fun _ q=>q) fun _ _ q=>q
  rcases av with z | z
  .rw [z];exact nit b u e
  .exact nit c _ z
theorem Inv.tok (J:Inv X aa σ H s) (t:Nat):Inv X aa σ H { s with toks:=t }:=J.un (h':=s.heap) (t':=t) eJ.refl J.a4
theorem Inv.kept (J:Inv X aa σ H s) (k:∀ b u,s.heap.get? b=some u->h'.get? b=some u):Inv X aa σ H { s with heap:=h',toks:=t' }:=J.un (eJ.kept k) (J.a4.kept k)
theorem Inv.laid (J:Inv X aa σ H s) (k:∀ b u,s.heap.get? b=some u->h'.get? b=some u) (ar:s.heap.objs.size <= a) (new:dy X.prog X.w (upd H a o) h' a o) :
  Inv X aa σ (upd H a o) { s with heap:=h',toks:=t' }:=J.un (eJ.laid k ar (J.a4.fresh ar)) (J.a4.laid k ar new)
theorem Inv.write {x e:Addr} {o:e2} {t':Nat} (J:Inv X aa σ H s) (fe:l8 (H x)) (he:e=x\/H e=some (.own x)) (k:∀ b u,b ≠ e->s.heap.get? b=some u->h'.get? b=some u) (uW:∃ u,h'.get? e=some u)
  (new:dy X.prog X.w (upd H x o) h' x o):Inv X aa σ (upd H x o) { s with heap:=h',toks:=t' }:=J.un (eJ.write fe he k uW) (J.a4.write fe he k uW new)
theorem Inv.weak (J:Inv X aa σ H s) (aA:ax.length=σ.length) (w:∀ (i:Nat) v,ax[i]? = some (some v)->σ[i]? = some (some v)):Inv X aa ax H s:=
 ⟨J.ok,J.os,J.bare,J.base,let ⟨m,aY,CL⟩:=J.loc;⟨m,aY,fun i x v aq aD bL=>CL i x v aq (w i v aD) bL⟩,J.cell,J.free,J.h3,J.pin,J.a4,aA.trans J.len⟩
theorem Inv.rp (J:Inv X aa σ H s) (h:∀ p ∈ xe,s.heap.get? p.1=some p.2/\H p.1=none/\p.1 ≠ X.env.locals/\p.1 ∉ X.aK/\∀ v,p.2.data ≠ .cell v):Inv X xe σ H s:=
 ⟨J.ok,J.os,J.bare,J.base,J.loc,J.cell,J.free,J.h3,fun p ar=>(hI.mp ar).elim (fun z=>J.pin p (yJ _ z)) (h p),J.a4,J.len⟩
theorem G2 {N:List Str} (bf:N.Nodup) {i j:Nat} {x:Str} (a:N[i]? = some x) (b:N[j]? = some x):i=j:=by
 obtain ⟨af,aq⟩:=cv.mp a;obtain ⟨aj,aD⟩:=cv.mp b;exact (J' bf).mp (aq.trans aD.symm)
theorem NK {M:Model} {A:Around} {E:Value->Shared->Prop} {i:Nat} {x:Str} {v:V} {u:Value} {Q:Unit->Shared->Prop} (J:Inv X aa σ H s) (bf:X.N.Nodup) (ah:X.N[i]? = some x) (ag:Loc X.env.scope x) (r:bD v u)
  (h:∀ s',Inv X aa (σ.set i (some v)) H s'->(∃ a,t_ a s.heap s'.heap/\(a=X.env.locals\/X.env.cells.lookup x=some a))->Q () s') (hf:X.fn x=true\/X.env.scope.names.lookup x=some .local:=by first | exact .inl rfl | exact .inr rfl | assumption):wpAny M A (storeName X.env x u) Q E s:=by
 obtain ⟨m,aY,aA⟩:=id J.loc;have aia:(X.env.scope.kind == .class || (X.env.scope.kind == .module && X.env.locals != X.env.globals))=false:=by rw [J.ok.kind];rfl
 have wA:i < σ.length:=by rw [J.len];exact (cv.mp ah).1
 have oX:=J.oX;have tracked:∀ {a:Addr} {h':Heap},(∃ o,s.heap.get? a=some o/\H a=none)->t_ a s.heap h'->eh X.prog X.w H h':=fun {a h'} aO ay b bV e=>by
  obtain ⟨_,_,N7⟩:=aO;refine (J.a4 b bV e).mF (fun c d8 av q=>(ay.2 c ?_).trans q) (fun _ q=>q) fun _ _ q=>q
  rintro rfl;rcases av with rfl | av
  .rw [N7] at e;cases e
  .rw [N7] at av;cases av
 rcases ag with aC | aC
 .refine wpAny_storeName_local aC aY (fun h' Zl ay=>?_) aia;obtain ⟨ahr,_,_,WO,_⟩:=id aY;refine h _ ⟨J.ok,J.os,J.bare,⟨fun b o e n ab ag=>?_,fun b o e n ab ag=>?_,J.base.free,fun b o e ag=>?_,J.base.kF,J.base.jo,J.base.jU⟩,⟨_,Zl,fun j y JH aq aD bL=>?_⟩,fun y c e=>?_,J.free,J.h3,fun p ar=>?_,tracked ⟨ahr,WO,J.free⟩ ay,by simpa using J.len⟩ ⟨_,ay,.inl rfl⟩
  .exact (ay.2 b (fR (hp (dJ e) J.ok.above))).trans (J.base.keep b o e n ab ag)
  .obtain ⟨bt,aq⟩:=J.base.slot b o e n ab ag;exact ⟨bt,(ay.2 b (fR (hp (dJ e) J.ok.above))).trans aq⟩
  .obtain ⟨dx,aq⟩:=J.base.there b o e ag;exact ⟨dx,(ay.2 b (fR (hp (dJ e) J.ok.above))).trans aq⟩
  .by_cases aM:j=i
   .subst aM;rw [ah] at aq;cases aq;rw [AQ wA] at aD;cases aD;exact ⟨u,r,.inl ⟨aC,by simp⟩⟩
   .rw [yg (dg aM)] at aD;obtain ⟨oa,cV,q⟩:=aA j y JH aq aD bL;refine ⟨oa,cV,?_⟩;rcases q with ⟨k,e⟩ | ⟨k,c,e,z⟩
    .refine .inl ⟨k,?_⟩;have:y ≠ x:=fun e=>aM (G2 bf aq (e ▸ ah))
     simp [this,e]
    .exact .inr ⟨k,c,e,z.sameBut ay (oX y c e)⟩
  .obtain ⟨d8,z⟩:=J.cell y c e;exact ⟨d8,z.sameBut ay (oX y c e)⟩
  .obtain ⟨e,n,ne,f6,d⟩:=J.pin p ar;exact ⟨(ay.2 p.1 ne).trans e,n,ne,f6,d⟩
 .have DX:X.fn x=true:=by
   rcases hf with z | z
   .exact z
   .rw [z] at aC;cases aC
  obtain ⟨c,av⟩:=J.ok.has x (.inl aC);obtain ⟨d8,z⟩:=J.cell x c av;refine wpAny_storeName_cell J.ok.kind aC av z (fun h' rh ay=>?_);obtain ⟨md,q',agz⟩:=id z;refine h { s with heap:=h' } ⟨J.ok,J.os,J.bare,⟨fun b o e n ab ag=>?_,fun b o e n ab ag=>?_,J.base.free,fun b o e ag=>?_,J.base.kF,J.base.jo,J.base.jU⟩,⟨m,aY.sameBut ay (dg (oX x c av)),fun j y JH aq aD bL=>?_⟩,fun y c' e=>?_,J.free,J.h3,fun p ar=>?_,tracked ⟨md,q',J.h3 x c av⟩ ay,by simpa using J.len⟩ ⟨c,ay,.inr av⟩
  .exact (ay.2 b (fR (hp (dJ e) (J.ok.pQ x c DX av)))).trans (J.base.keep b o e n ab ag)
  .obtain ⟨bt,aq⟩:=J.base.slot b o e n ab ag;exact ⟨bt,(ay.2 b (fR (hp (dJ e) (J.ok.pQ x c DX av)))).trans aq⟩
  .obtain ⟨dx,aq⟩:=J.base.there b o e ag;exact ⟨dx,(ay.2 b (fR (hp (dJ e) (J.ok.pQ x c DX av)))).trans aq⟩
  .by_cases aM:j=i
   .subst aM;rw [ah] at aq;cases aq;rw [AQ wA] at aD;cases aD;exact ⟨u,r,.inr ⟨.inl aC,c,av,rh⟩⟩
   .rw [yg (dg aM)] at aD;obtain ⟨oa,cV,q⟩:=aA j y JH aq aD bL;refine ⟨oa,cV,?_⟩;rcases q with q | ⟨k,c',e,hv⟩
    .exact .inl q
    .refine .inr ⟨k,c',e,hv.sameBut ay ?_⟩;rintro rfl;exact aM (G2 bf aq (J.ok.inj _ _ _ e av ▸ ah))
  .by_cases sr:c'=c
   .subst sr;exact ⟨_,rh⟩
   .obtain ⟨dH,d9⟩:=J.cell y c' e;exact ⟨dH,d9.sameBut ay sr⟩
  .obtain ⟨e,n,ne,f6,d⟩:=J.pin p ar;refine ⟨(ay.2 p.1 ?_).trans e,n,ne,f6,d⟩;intro q;rw [q,q'] at e;have cW:md=p.2:=dU e;exact d d8 (by rw [<- cW];exact agz)
theorem At {A:Around} {x:Str} (J:Inv X aa σ H s) (bf:X.N.Nodup) (ah:X.N[i]? = some x) (ag:Loc X.env.scope x) (r:bD v u)
  (h:∀ s',Inv X aa (σ.set i (some v)) H s'->Q () s') (hf:X.fn x=true\/X.env.scope.names.lookup x=some .local:=by first | exact .inl rfl | exact .inr rfl | assumption):wpAny M A (storeName X.env x u) Q E s:=
 NK J bf ah ag r (fun s' gT _=>h s' gT) hf
theorem Inv.xi (J:Inv X aa σ H s) (aQ:s'.os=s.os) (u:eJ (h_ X.stack) ch H I s.heap s'.heap) (a4:eh X.prog X.w I s'.heap) (a5:AllBare s'.gens)
  (hD:∀ b ∈ ch,(b ∈ X.ex\/X.fv.heap.objs.size <= b)/\b ≠ X.env.locals/\(∀ x c,X.env.cells.lookup x=some c->c ≠ b)/\∀ p ∈ X.dN ++ aa,p.1 ≠ b):Inv X aa σ I s':=by
 obtain ⟨h',g',d',t',dx⟩:=s';have e:dx=s.os:=aQ;subst e;exact J.call (g':=g') (t':=t') (d':=d') u a4 a5 hD
end
noncomputable abbrev dZ:=Value->Option Addr->au->Prop
noncomputable abbrev St:=List (Option V)
noncomputable abbrev cJ:=V->au->Prop
noncomputable abbrev TE:=St->au->cJ->Prop
noncomputable abbrev TT:=St->au->(Bool->au->Prop)->Prop
noncomputable abbrev e_:=St->au->(List V->au->Prop)->Prop
structure gO where
 b2:St->au->Prop
 ku:cJ
 cA:St->au->Prop:=fun _ _=>False
 eH:St->au->Prop:=fun _ _=>False
noncomputable abbrev dF:=gO->St->au->Prop
def f7 (X:a3) (aa:List (Addr × Obj)) (σ:St) (Q:cJ) (u:Value) (s':Shared):Prop:=∃ v I,Inv X aa σ I s'/\bD v u/\Q v I
theorem ea {X:a3} {aa:List (Addr × Obj)} {σ:St} {Q:cJ} {u:Value} {s':Shared} {C:Prop} (h:f7 X aa σ Q u s') (k:∀ v I,Inv X aa σ I s'->bD v u->Q v I->C):C:=by
 obtain ⟨v,I,J,r,q⟩:=h;exact k v I J r q
def zO (X:a3) (aa:List (Addr × Obj)) (σ:St) (Q:Bool->au->Prop) (b:Bool) (s':Shared):Prop:=∃ I,Inv X aa σ I s'/\Q b I
def ajd (X:a3) (aa:List (Addr × Obj)) (σ:St) (Q:List V->au->Prop) (us:List Value) (s':Shared):Prop:=∃ vs I,Inv X aa σ I s'/\bU vs us/\Q vs I
def oA (X:a3) (aa:List (Addr × Obj)) (D:gO) (f:Flow) (s':Shared):Prop:=
 match f with
 | .next=>∃ ax I,Inv X aa ax I s'/\D.b2 ax I
 | .brk=>∃ ax I,Inv X aa ax I s'/\D.cA ax I
 | .cont=>∃ ax I,Inv X aa ax I s'/\D.eH ax I
 | .ret u=>∃ v ax I,Inv X aa ax I s'/\bD v u/\D.ku v I
def bp (X:a3) (e:Expr) (t:TE):Prop:=
 ∀ (aa:List (Addr × Obj)) (s:Shared) (σ:St) (H:au) (Q:cJ),Inv X aa σ H s->t σ H Q->wpAny (model X.prog X.w) X.A (eval e X.env) (f7 X aa σ Q) X.du s
def ja (X:a3) (e:Expr) (t:TT):Prop:=
 ∀ (aa:List (Addr × Obj)) (s:Shared) (σ:St) (H:au) (Q:Bool->au->Prop),Inv X aa σ H s->t σ H Q->wpAny (model X.prog X.w) X.A (isTrue e X.env (eval e X.env)) (zO X aa σ Q) X.du s
def hH (X:a3) (e:Expr) (t:TT):Prop:=
 ∀ (whole:Sem Value) (aa:List (Addr × Obj)) (s:Shared) (σ:St) (H:au) (Q:Bool->au->Prop),Inv X aa σ H s->t σ H Q->wpAny (model X.prog X.w) X.A (isTrue e X.env whole) (zO X aa σ Q) X.du s
theorem hH.pt {e:Expr} {t:TT} (h:hH X e t):ja X e t:=h _
def iY (X:a3) (aV:List Expr) (t:e_):Prop:=
 ∀ (pos:Pos) (aa:List (Addr × Obj)) (s:Shared) (σ:St) (H:au) (Q:List V->au->Prop),Inv X aa σ H s->t σ H Q->wpAny (model X.prog X.w) X.A (spliced (backTo pos (starEach aV X.env))) (ajd X aa σ Q) X.du s
def gJ (X:a3) (st:Stmt) (t:dF):Prop:=
 ∀ (aa:List (Addr × Obj)) (s:Shared) (σ:St) (H:au) (D:gO),Inv X aa σ H s->t D σ H->wpAny (model X.prog X.w) X.A (exec st X.env) (oA X aa D) X.du s
def iR (X:a3) (st:List Stmt) (t:dF):Prop:=
 ∀ (aa:List (Addr × Obj)) (s:Shared) (σ:St) (H:au) (D:gO),Inv X aa σ H s->t D σ H->wpAny (model X.prog X.w) X.A (execs st X.env) (oA X aa D) X.du s
theorem bA {t:Sem α} {A:Around} (h:wpAny M A t Q E s) (a8:∀ a s,Q a s->jf a s):wpAny M A t jf E s:=wpAny_mono h a8 fun _ _ x=>x
section
variable {X:a3}
noncomputable def r3 (H:au) (Q:cJ):Option (Option V)->Prop
 | some (some v)=>Q v H
 | _=>False
theorem Un (H:au) (Q:cJ) (v:V):r3 H Q (some (some v))=Q v H:=rfl
theorem r3.out:∀ {o:Option (Option V)},r3 H Q o->∃ v,o=some (some v)/\Q v H
 | some (some v),h=>⟨v,rfl,h⟩
 | some none,h=>h.elim
 | none,h=>h.elim
theorem Ye (H:au) (Q:cJ) (o:Option (Option V)):r3 H Q o = ∃ v,o=some (some v)/\Q v H:=propext ⟨r3.out,fun ⟨_,e,h⟩=>e ▸ h⟩
def gK (x:V) (k:Int->Prop):Prop:=match x with
 | .int i=>k i
 | _=>False
theorem Sl (i:Int) (k:Int->Prop):gK (.int i) k=k i:=rfl
theorem gK.out {x:V} {k:Int->Prop} (h:gK x k):∃ i,x=.int i/\k i:=by
 cases x with
 | int i=>exact ⟨i,rfl,h⟩
 | _=>exact h.elim
theorem ajw (x:V) (k:Int->Prop):gK x k = ∃ i,x=.int i/\k i:=propext ⟨gK.out,fun ⟨_,e,h⟩=>e ▸ h⟩
def jY (x:V) (k:Bool->Prop):Prop:=match x with
 | .bo i=>k i
 | _=>False
theorem S6 (i:Bool) (k:Bool->Prop):jY (.bo i) k=k i:=rfl
theorem jY.out {x:V} {k:Bool->Prop} (h:jY x k):∃ i,x=.bo i/\k i:=by
 cases x with
 | bo i=>exact ⟨i,rfl,h⟩
 | _=>exact h.elim
theorem ajL (x:V) (k:Bool->Prop):jY x k = ∃ i,x=.bo i/\k i:=propext ⟨jY.out,fun ⟨_,e,h⟩=>e ▸ h⟩
def fa (x:V) (k:Addr->Prop):Prop:=match x with
 | .ref i=>k i
 | _=>False
theorem VA (i:Addr) (k:Addr->Prop):fa (.ref i) k=k i:=rfl
theorem fa.out {x:V} {k:Addr->Prop} (h:fa x k):∃ i,x=.ref i/\k i:=by
 cases x with
 | ref i=>exact ⟨i,rfl,h⟩
 | _=>exact h.elim
theorem amc (x:V) (k:Addr->Prop):fa x k = ∃ i,x=.ref i/\k i:=propext ⟨fa.out,fun ⟨_,e,h⟩=>e ▸ h⟩
def mD (xs:List V) (k:V->Prop):Prop:=match xs with
 | [y]=>k y
 | _=>False
theorem PN (y:V) (k:V->Prop):mD [y] k=k y:=rfl
theorem mD.out:∀ {xs:List V} {k:V->Prop},mD xs k->∃ y,xs=[y]/\k y
 | [y],_,h=>⟨y,rfl,h⟩
 | [],_,h=>h.elim
 | _ :: _ :: _,_,h=>h.elim
theorem abK (xs:List V) (k:V->Prop):mD xs k = ∃ y,xs=[y]/\k y:=propext ⟨mD.out,fun ⟨_,e,h⟩=>e ▸ h⟩
noncomputable def BS (i:Nat):TE:=fun σ H Q=>r3 H Q σ[i]?
noncomputable def rb (v:V):TE:=fun _ H Q=>Q v H
theorem aie {x:Str} (bf:X.N[i]? = some x) (aF:Cs X.env.scope x) (hd:(x == ("__debug__" : Str))=false:=by decide) (jG:(x == ("__classdict__" : Str))=false:=by decide):bp X (.Name x pos) (BS i):=by
 intro aa s σ H Q J h;obtain ⟨v,e,h⟩:=r3.out h;obtain ⟨m,aY,aA⟩:=J.loc;obtain ⟨u,r,l⟩:=aA i x v bf e aF;have fin:f7 X aa σ Q u s:=⟨v,H,J,r,h⟩;rcases l with ⟨aC,hm⟩ | ⟨aC,c,av,Cv⟩
 .exact wpAny_Name (wpAny_loadName_local J.ok.kind aC aY hm fin) hd
 .rcases aC with aC | aC
  .exact wpAny_Name (wpAny_loadName_cell J.ok.kind aC av Cv fin) hd
  .exact wpAny_Name (wpAny_loadName_free J.ok.kind aC av Cv fin jG) hd
theorem aR {i j pos}:bp X (.Constant (.int i) j pos) (rb (.int i)):=fun _ _ _ H _ J h=>wpAny_Constant_int ⟨.int i,H,J.tok _,⟨_,rfl⟩,h⟩
theorem am {b j pos}:bp X (.Constant (.bool b) j pos) (rb (.bo b)):=fun _ _ _ H _ J h=>Constant_bool ⟨.bo b,H,J,rfl,h⟩
theorem qb {j pos}:bp X (.Constant .none j pos) (rb .bO):=fun _ _ _ H _ J h=>Constant_none ⟨.bO,H,J,rfl,h⟩
theorem cX {x j pos}:bp X (.Constant (.str x) j pos) (rb (.str x)):=fun _ _ _ H _ J h=>akT ⟨.str x,H,J.tok _,⟨_,rfl⟩,h⟩
def j7 (X:a3) (x:Str):Prop:=X.env.kindOf x=some .globalImplicit
theorem sa {x:Str} (J:Inv X aa σ H s) (a5:j7 X x) (hm:X.mg x=some u) (h:Q u s)
  (hd:(x == ("__debug__" : Str))=false:=by decide):wpAny (model X.prog X.w) X.A (eval (.Name x pos) X.env) Q E s:=
 akD J.ok.kind a5 (Calls.loadGlobal_global (by rw [J.ok.glob];exact J.mod.glob.keeps J.cA) hm h) hd
theorem wH {x:Str} (J:Inv X aa σ H s) (a5:j7 X x) (hm:X.mg x=none) (aF:bootBuiltins x=some u) (h:Q u s)
  (aY:x ≠ "__name__" := by decide) (hd:(x == ("__debug__" : Str))=false:=by decide):wpAny (model X.prog X.w) X.A (eval (.Name x pos) X.env) Q E s:=by
 obtain ⟨mx,af,aj⟩:=J.mod.blt;exact akD J.ok.kind a5 (Calls.loadGlobal_builtin (by rw [J.ok.glob];exact J.mod.glob.keeps J.cA) hm (by rw [J.ok.blt];exact af.keeps J.cA) ((aj x aY).trans aF) h) hd
theorem lQ {x:Str} (a5:j7 X x) (hm:X.mg x=some u) (r:bD v u) (hd:(x == ("__debug__" : Str))=false:=by decide):bp X (.Name x pos) (rb v):=
 fun _ _ _ H _ J h=>sa J a5 hm ⟨v,H,J,r,h⟩ hd
variable {a b:Expr} {a7 bK:TE} {pos:Pos}
def Ew (X:a3) (op:CmpOp) (a b:Expr) (t:TE):Prop:=
 ∀ (aa:List (Addr × Obj)) (s:Shared) (σ:St) (H:au) (Q:cJ),Inv X aa σ H s->t σ H Q ->
  wpAny (model X.prog X.w) X.A (eval a X.env) (fun v dd=>wpAny (model X.prog X.w) X.A (eval b X.env) (fun u dV=>wpAny (model X.prog X.w) X.A (compareOp op v u) (f7 X aa σ Q) X.du dV) X.du dd) X.du s
theorem ajq (b:Expr) (h:op ≠ .In) (aj:op ≠ .NotIn):behindInMarks op b=false:=by
 have aq:(op == CmpOp.In)=false:=by cases op <;> first | rfl | exact absurd rfl h
 have aD:(op == Y_)=false:=by cases op <;> first | rfl | exact absurd rfl aj
 cases b <;> simp [behindInMarks,aq,aD]
noncomputable def zf (t:TE):TT:=fun σ H Q=>t σ H fun x H1=>jY x fun c=>Q c H1
theorem yC {t:TE} (h:Ew X op a b t) (af:behindInMarks op b=false:=by first | exact ajq _ (by decide) (by decide) | rfl):ja X (.Compare a [op] [b] pos) (zf t):=by
 intro aa s σ H Q J hw;refine wpAny_isTrue_Compare1 (bA (h aa s σ H _ J hw) fun v s1 af=>bA af fun u s2 aj=>bA aj fun c s3 b4=>ea b4 fun x H1 aN cE bS=>?_) af;obtain ⟨d,rfl,q⟩:=jY.out bS;cases cE;exact wpAny_truthy_bool ⟨H1,aN,q⟩
theorem oJ {e:Expr} {t:TE} (h:bp X e t) (he:∀ whole,isTrue e X.env whole=(do let v <- whole;standAt e.pos;holding [v] (truthy v)):=by intro _;rfl):ja X e (zf t):=by
 intro aa s σ H Q J hw;refine isTrue_plain (bA (h aa s σ H _ J hw) fun v s1 b4=>ea b4 fun x H1 aN cE bS=>?_) (he _);obtain ⟨d,rfl,q⟩:=jY.out bS;cases cE;exact wpAny_truthy_bool ⟨H1,aN,q⟩
variable {mf B6:TT} {rest:List Expr}
noncomputable def wS (t u:TT):TT:=fun σ H Q=>t σ H fun c H1=>if c=true then u σ H1 Q else Q false H1
noncomputable def EO (t u:TT):TT:=fun σ H Q=>t σ H fun c H1=>if c=true then Q true H1 else u σ H1 Q
noncomputable def Gh (t:TT):TT:=fun σ H Q=>t σ H fun c H1=>Q (!c) H1
theorem pC (aO:ja X a mf):hH X (.BoolOp .And [a] pos) mf:=by
 intro wk aa s σ H Q J h;refine isTrue_and (bA (aO aa s σ H Q J h) fun c s1 e=>?_);cases c with
 | true=>exact isTrue_and_nil e
 | false=>exact e
theorem tg (aO:ja X a mf):hH X (.BoolOp .Or [a] pos) mf:=by
 intro wk aa s σ H Q J h;refine isTrue_or (bA (aO aa s σ H Q J h) fun c s1 e=>?_);cases c with
 | false=>exact isTrue_or_nil e
 | true=>exact e
theorem pO (aO:ja X a mf) (ab:hH X (.BoolOp .And (b :: rest) pos) B6):hH X (.BoolOp .And (a :: b :: rest) pos) (wS mf B6):=by
 intro wk aa s σ H Q J h;refine isTrue_and (bA (aO aa s σ H _ J h) fun c s1 cF=>?_);obtain ⟨H1,aN,bS⟩:=cF;cases c with
 | true=>exact ab wk aa s1 σ H1 Q aN bS
 | false=>exact ⟨H1,aN,bS⟩
theorem qw (aO:ja X a mf) (ab:hH X (.BoolOp .Or (b :: rest) pos) B6):hH X (.BoolOp .Or (a :: b :: rest) pos) (EO mf B6):=by
 intro wk aa s σ H Q J h;refine isTrue_or (bA (aO aa s σ H _ J h) fun c s1 cF=>?_);obtain ⟨H1,aN,bS⟩:=cF;cases c with
 | true=>exact ⟨H1,aN,bS⟩
 | false=>exact ab wk aa s1 σ H1 Q aN bS
theorem tH (aO:ja X a mf):ja X (.UnaryOp .Not a pos) (Gh mf):=by
 intro aa s σ H Q J h;exact isTrue_not (aO aa s σ H (fun c H1=>Q (!c) H1) J h)
noncomputable def GP (a7 bK:TE):TE:=fun σ H Q=>a7 σ H fun x H1=>jY x fun c=>if c=true then bK σ H1 Q else Q (.bo false) H1
noncomputable def Ej (a7 bK:TE):TE:=fun σ H Q=>a7 σ H fun x H1=>jY x fun c=>if c=true then Q (.bo true) H1 else bK σ H1 Q
noncomputable def Jz (a7:TE):TE:=fun σ H Q=>a7 σ H fun x H1=>jY x fun c=>Q (.bo (!c)) H1
theorem u7 {op} {t:TE} (h:bp X a t):bp X (.BoolOp op [a] pos) t:=fun aa s σ H Q J hw=>BoolOp_one (h aa s σ H Q J hw)
theorem xB (aO:bp X a a7) (ab:bp X (.BoolOp .And (b :: rest) pos) bK):bp X (.BoolOp .And (a :: b :: rest) pos) (GP a7 bK):=by
 intro aa s σ H Q J h;refine BoolOp_and (bA (aO aa s σ H _ J h) fun v s1 b4=>ea b4 fun x H1 aN cE bS=>?_);obtain ⟨c,rfl,gv⟩:=jY.out bS;cases cE;refine wpAny_truthy_bool ?_;cases c with
 | true=>exact ab aa s1 σ H1 Q aN gv
 | false=>exact ⟨.bo false,H1,aN,rfl,gv⟩
theorem Nn (aO:bp X a a7) (ab:bp X (.BoolOp .Or (b :: rest) pos) bK):bp X (.BoolOp .Or (a :: b :: rest) pos) (Ej a7 bK):=by
 intro aa s σ H Q J h;refine BoolOp_or (bA (aO aa s σ H _ J h) fun v s1 b4=>ea b4 fun x H1 aN cE bS=>?_);obtain ⟨c,rfl,gv⟩:=jY.out bS;cases cE;refine wpAny_truthy_bool ?_;cases c with
 | false=>exact ab aa s1 σ H1 Q aN gv
 | true=>exact ⟨.bo true,H1,aN,rfl,gv⟩
theorem S7 (aO:bp X a a7):bp X (.UnaryOp .Not a pos) (Jz a7):=by
 intro aa s σ H Q J h;refine UnaryOp_ (bA (aO aa s σ H _ J h) fun v s1 b4=>ea b4 fun x H1 aN cE bS=>?_);obtain ⟨c,rfl,gv⟩:=jY.out bS;cases cE;exact not_of (wpAny_truthy_bool ⟨.bo (!c),H1,aN,rfl,gv⟩)
noncomputable def G' (t:TT) (a7 bK:TE):TE:=fun σ H Q=>t σ H fun c H1=>if c=true then a7 σ H1 Q else bK σ H1 Q
theorem ud (av:ja X c mf) (aO:bp X a a7) (ab:bp X b bK):bp X (.IfExp c a b pos) (G' mf a7 bK):=by
 intro aa s σ H Q J h;refine wpAny_IfExp (bA (av aa s σ H _ J h) fun d s1 cF=>?_);obtain ⟨H1,aN,bS⟩:=cF;cases d with
 | true=>exact aO aa s1 σ H1 Q aN bS
 | false=>exact ab aa s1 σ H1 Q aN bS
end
def aB (K:a_) (H:au) (a:Addr) (xs:List V):Prop:=
 jv H a (.lst xs) \/
  ∃ (o:Obj) (a9:Array Value) (n:Nat),K.lookup a=some o/\o.cls=.type "list" /\ o.dict=none/\o.data=.seq a9 n/\a9.size <= sizeLine/\bU xs a9.toList
def c0 (K:a_) (H:au) (a:Addr) (xs:List V):Prop:=
 jv H a (.tup xs) \/
  ∃ (o:Obj) (a9:Array Value) (n:Nat),K.lookup a=some o/\o.cls=.type "tuple" /\ o.data=.seq a9 n/\a9.size <= sizeLine/\bU xs a9.toList
noncomputable def acN:Value->Option V
 | .none=>some .bO
 | .bool b=>some (.bo b)
 | .int i _=>some (.int i)
 | .str x _=>some (.str x)
 | .bytes b _=>some (.k6 b)
 | .float b _=>some (.sQ b)
 | .ref a=>some (.ref a)
 | .type n=>some (.ty n)
 | _=>none
theorem bD.abs {x:V} (r:bD x u):acN u=some x:=by
 cases x with
 | bO=>cases r;rfl
 | bo _=>cases r;rfl
 | int _=>obtain ⟨t,rfl⟩:=r;rfl
 | str _=>obtain ⟨t,rfl⟩:=r;rfl
 | k6 _=>obtain ⟨t,rfl⟩:=r;rfl
 | sQ _=>obtain ⟨t,rfl⟩:=r;rfl
 | ref _=>cases r;rfl
 | ty _=>cases r;rfl
theorem bD.inj {x y:V} (r:bD x u) (q:bD y u):x=y:=dU (r.abs.symm.trans q.abs)
theorem bU.inj:∀ {xs ys:List V} {us:List Value},bU xs us->bU ys us->xs=ys
 | _,_,_,.nil,.nil=>rfl
 | _,_,_,.cons r t,.cons cV t'=>by rw [r.inj cV,bU.inj t t']
section
variable {X:a3} {aa:List (Addr × Obj)} {σ:St} {H:au} {s:Shared} {a:Addr} {xs ys:List V}
theorem aB.of {K:a_} (h:H a=some (.lst xs)):aB K H a xs:=.inl (.inl h)
theorem c0.of {K:a_} (h:H a=some (.tup xs)):c0 K H a xs:=.inl (.inl h)
theorem Inv.list (J:Inv X aa σ H s) (h:aB X.K H a xs):∃ a9:List Value,bU xs a9/\PlainL s.heap a a9.toArray/\xs.length <= sizeLine:=by
 rcases h with h | ⟨o,a9,n,aC,av,hd,ay,aJ,r⟩
 .obtain ⟨z,a9,n,r,e⟩:=h.ok J.a4;exact ⟨a9,r,⟨_,n,e,rfl,rfl,rfl⟩,z⟩
 .refine ⟨a9.toList,r,⟨o,n,J.fz a o aC,av,hd,by simpa using ay⟩,?_⟩;have e:=r.length;simp only [nt] at e;omega
theorem Inv.tuple (J:Inv X aa σ H s) (h:c0 X.K H a xs):∃ a9:List Value,bU xs a9/\IsTup s.heap a a9.toArray/\xs.length <= sizeLine:=by
 rcases h with h | ⟨o,a9,n,aC,av,ay,aJ,r⟩
 .obtain ⟨z,a9,r,p⟩:=h.ok J.a4;exact ⟨a9,r,p,z⟩
 .refine ⟨a9.toList,r,⟨o,J.fz a o aC,av,n,by simpa using ay⟩,?_⟩;have e:=r.length;simp only [nt] at e;omega
theorem Inv.wg (J:Inv X aa σ H s) (h:aB X.K H a xs) (h':aB X.K H a ys):xs=ys:=by
 obtain ⟨a9,r,⟨o,n,e,_,_,d⟩,_⟩:=J.list h;obtain ⟨its',cV,⟨dx,ih,bQ,_,_,d'⟩,_⟩:=J.list h';rw [e] at bQ;cases bQ;rw [d] at d';injection d' with ew _;have:a9=its':=by simpa using congrArg acU ew
 subst this;exact r.inj cV
theorem Inv.MV (J:Inv X aa σ H s) (h:c0 X.K H a xs) (h':c0 X.K H a ys):xs=ys:=by
 obtain ⟨a9,r,⟨o,e,_,n,d⟩,_⟩:=J.tuple h;obtain ⟨its',cV,⟨dx,bQ,_,ih,d'⟩,_⟩:=J.tuple h';rw [e] at bQ;cases bQ;rw [d] at d';injection d' with ew _;have:a9=its':=by simpa using congrArg acU ew
 subst this;exact r.inj cV
end
noncomputable abbrev a3.gU (X:a3) (E:Value->Shared->Prop):a3:={ X with du:=E }
noncomputable abbrev a3.lD (X:a3):a3:=X.gU fun _ _=>False
theorem a3.Ok.gU {X:a3} (ok:X.Ok) (E:Value->Shared->Prop):(X.gU E).Ok:=
 ⟨ok.mod,ok.kind,ok.glob,ok.blt,ok.above,ok.inj,ok.has,ok.pQ,ok.hd,ok.frames,ok.q6,ok.tE,ok.bs,ok.jP,ok.oY,ok.o_,ok.jL,ok.l7⟩
theorem a3.Ok.kQ {X:a3} {E:Value->Shared->Prop} (ok:(X.gU E).Ok):X.Ok:=
 ⟨ok.mod,ok.kind,ok.glob,ok.blt,ok.above,ok.inj,ok.has,ok.pQ,ok.hd,ok.frames,ok.q6,ok.tE,ok.bs,ok.jP,ok.oY,ok.o_,ok.jL,ok.l7⟩
section
variable {X:a3} {aa:List (Addr × Obj)} {σ:St} {H:au} {s:Shared} {E:Value->Shared->Prop}
theorem Inv.gU (J:Inv X aa σ H s) (E:Value->Shared->Prop):Inv (X.gU E) aa σ H s:=⟨J.ok.gU E,J.os,J.bare,J.base,J.loc,J.cell,J.free,J.h3,J.pin,J.a4,J.len⟩
theorem Inv.kQ (J:Inv (X.gU E) aa σ H s):Inv X aa σ H s:=⟨J.ok.kQ,J.os,J.bare,J.base,J.loc,J.cell,J.free,J.h3,J.pin,J.a4,J.len⟩
theorem oA.kQ (h:oA (X.gU E) aa D f s'):oA X aa D f s':=by
 cases f with
 | next=>obtain ⟨ax,I,J,q⟩:=h;exact ⟨ax,I,J.kQ,q⟩
 | brk=>obtain ⟨ax,I,J,q⟩:=h;exact ⟨ax,I,J.kQ,q⟩
 | cont=>obtain ⟨ax,I,J,q⟩:=h;exact ⟨ax,I,J.kQ,q⟩
 | ret u=>obtain ⟨v,ax,I,J,r,q⟩:=h;exact ⟨v,ax,I,J.kQ,r,q⟩
theorem bp.lD {e:Expr} {t:TE} (h:bp X.lD e t):bp X e t:=fun aa s σ H Q J hw=>
 wpAny_mono (h aa s σ H Q (J.gU _) hw) (fun _ _ b4=>ea b4 fun v I gT r q=>⟨v,I,gT.kQ,r,q⟩) fun _ _ z=>hP z
theorem ja.lD {e:Expr} {t:TT} (h:ja X.lD e t):ja X e t:=fun aa s σ H Q J hw=>
 wpAny_mono (h aa s σ H Q (J.gU _) hw) (fun _ _ ⟨I,gT,q⟩=>⟨I,gT.kQ,q⟩) fun _ _ z=>hP z
theorem iR.lD {st:List Stmt} {t:dF} (h:iR X.lD st t):iR X st t:=fun aa s σ H D J hw=>
 wpAny_mono (h aa s σ H D (J.gU _) hw) (fun _ _ q=>q.kQ) fun _ _ z=>hP z
end
section
variable {X:a3} {st:Stmt} {rest:List Stmt} {t u:dF} {e:Expr} {bJ:TE} {pos:Pos}
noncomputable def iy:dF:=fun D σ H=>D.b2 σ H
noncomputable def aiR:Nat:=0
noncomputable def CE:Nat:=aiR
noncomputable def Te:Nat:=CE
noncomputable def zd:Nat:=Te
noncomputable def YK:Nat:=zd
noncomputable def ZS:Nat:=YK
noncomputable def aet:Nat:=ZS
noncomputable def Yt:Nat:=aet
noncomputable def ajH:Nat:=Yt
noncomputable def Xr:Nat:=ajH
noncomputable def ah':Nat:=Xr
noncomputable def ad':Nat:=ah'
noncomputable def amz:Nat:=ad'
noncomputable def JX (t u:dF):dF:=fun D σ H=>(fun _:Nat=>t { D with b2:=u D } σ H) amz
theorem eu:iR X [] iy:=fun _ _ σ H _ J h=>wpAny_execs_nil ⟨σ,H,J,h⟩
theorem aW (af:gJ X st t) (aj:iR X rest u):iR X (st :: rest) (JX t u):=by
 intro aa s σ H D J h;refine wpAny_execs_cons (bA (af aa s σ H { D with b2:=u D } J h) fun f s1 q=>?_);cases f with
 | next=>
  obtain ⟨ax,I,gT,q⟩:=q;exact aj aa s1 ax I D gT q
 | ret v=>exact q
 | brk=>exact q
 | cont=>exact q
theorem a6 (af:gJ X st t):iR X [st] t:=by
 intro aa s σ H D J h;refine wpAny_execs_cons (bA (af aa s σ H D J h) fun f s1 q=>?_);cases f with
 | next=>exact wpAny_execs_nil q
 | ret v=>exact q
 | brk=>exact q
 | cont=>exact q
theorem Inv.quiet (J:Inv X aa σ H s):interactive X.env=false:=by simp [interactive,J.ok.kind]
noncomputable def Kf (bJ:TE):dF:=fun D σ H=>bJ σ H fun _ H1=>D.b2 σ H1
theorem dS (he:bp X e bJ) (ay:swapsWith e none pos.line X.env=pure false:=by rfl):gJ X (.Expr e pos) (Kf bJ):=by
 intro aa s σ H D J h;exact wpAny_Expr_any (bA (he aa s σ H _ J h) fun v s1 b4=>ea b4 fun x H1 aN cE bS=>⟨σ,H1,aN,bS⟩) J.quiet ay
noncomputable def yR (bJ:TE):dF:=fun D σ H=>bJ σ H D.ku
theorem cg (he:bp X e bJ):gJ X (.Return (some e) pos) (yR bJ):=by
 intro aa s σ H D J h;exact wpAny_Return_some (bA (he aa s σ H _ J h) fun v s1 b4=>ea b4 fun x H1 aN cE bS=>⟨x,σ,H1,aN,cE,bS⟩)
noncomputable def GC:dF:=fun D _ H=>D.ku .bO H
theorem abY:gJ X (.Return none pos) GC:=fun _ _ σ H _ J h=>wpAny_Return_none ⟨.bO,σ,H,J,rfl,h⟩
noncomputable def IP (c:TT) (t u:dF):dF:=fun D σ H=>c σ H fun b H1=>if b=true then t D σ H1 else u D σ H1
theorem dK (av:ja X c dk) (aO:iR X a t) (ab:iR X b u):gJ X (.If c a b pos) (IP dk t u):=by
 intro aa s σ H D J h;refine wpAny_If (bA (av aa s σ H _ J h) fun d s1 cF=>?_);obtain ⟨H1,aN,bS⟩:=cF;cases d with
 | true=>exact aO aa s1 σ H1 D aN bS
 | false=>exact ab aa s1 σ H1 D aN bS
noncomputable def FR:dF:=fun _ _ _=>False
theorem n1:gJ X st FR:=fun _ _ _ _ _ _ h=>h.elim
end
noncomputable abbrev gH:=V->St->au->(St->au->Prop)->Prop
noncomputable abbrev rP:=List V->St->au->(St->au->Prop)->Prop
def mT (X:a3) (xb:Expr) (t:gH):Prop:=
 ∀ (aa:List (Addr × Obj)) (s:Shared) (σ:St) (H:au) (v:V) (u:Value) (Q:St->au->Prop),Inv X aa σ H s->bD v u->t v σ H Q ->
  wpAny (model X.prog X.w) X.A (assign xb X.env u) (fun _ s'=>∃ ax I,Inv X aa ax I s'/\Q ax I) X.du s
def xl (X:a3) (iv:List Expr) (t:rP):Prop:=
 ∀ (aa:List (Addr × Obj)) (s:Shared) (σ:St) (H:au) (vs:List V) (us:List Value) (Q:St->au->Prop),Inv X aa σ H s->bU vs us->t vs σ H Q ->
  wpAny (model X.prog X.w) X.A (assignInOrder ((assignEach iv X.env).map (·.2)) us) (fun _ s'=>∃ ax I,Inv X aa ax I s'/\Q ax I) X.du s
section
variable {X:a3} {pos:Pos}
noncomputable def ht (i:Nat):gH:=fun v σ H Q=>Q (σ.set i (some v)) H
theorem SH {x:Str} (bf:X.N.Nodup) (ah:X.N[i]? = some x) (ag:Loc X.env.scope x) (hf:X.fn x=true\/X.env.scope.names.lookup x=some .local:=by first | exact .inl rfl | exact .inr rfl | assumption):mT X (.Name x pos) (ht i):=by
 intro aa s σ H v u Q J r h;exact wpAny_assign_Name (At J bf ah ag r (fun s' gT=>⟨_,H,gT,h⟩) hf)
noncomputable def w2:rP:=fun vs σ H Q=>vs=[]/\Q σ H
noncomputable def rv (t:gH) (u:rP):rP:=fun vs σ H Q=>∃ v r,vs=v :: r/\t v σ H fun ax I=>u r ax I Q
theorem lS:xl X [] w2:=by
 intro aa s σ H vs us Q J r h;obtain ⟨e,h⟩:=h;subst e;cases r;exact assignInOrder_nil ⟨σ,H,J,h⟩
theorem ft {e:Expr} {t:gH} (af:mT X e t) (aj:xl X aV u)
  (ay:(assignEach (e :: aV) X.env).map (·.2)=assign e X.env :: (assignEach aV X.env).map (·.2):=by rfl):xl X (e :: aV) (rv t u):=by
 intro aa s σ H vs us Q J r h;obtain ⟨v,amX,aq,h⟩:=h;subst aq;cases r with
 | cons r sk=>
  rw [ay];refine assignInOrder_cons (bA (af aa s σ H _ _ _ J r h) fun _ s1 cF=>?_);obtain ⟨f_,H1,aN,bS⟩:=cF;exact aj aa s1 f_ H1 _ _ Q aN sk bS
noncomputable def t2 (K:a_) (n:Nat) (t:rP):gH:=fun v σ H Q=>∃ a xs,v=.ref a/\c0 K H a xs/\xs.length=n/\t xs σ H Q
theorem ai0 {k:Nat} {t:rP} (av:X.calm=true) (h:xl X aV t)
  (aY:(assignEach aV X.env).length=n:=by rfl) (fO:(assignEach aV X.env).findIdx? (·.1)=none:=by rfl):mT X (.Tuple aV k pos) (t2 X.K n t):=by
 intro aa s σ H v u Q J r hw;obtain ⟨a,xs,aq,aI,aA,hw⟩:=hw;subst aq;cases r;obtain ⟨a9,cG,cK,aJ⟩:=J.tuple aI;refine assign_Tuple_tuple (J.ok.hd av) cK (by simp [aY,<- aA,cG.length]) fO fun h' ag=>?_
 have aN:Inv X aa σ H { s with heap:=h' }:=J.kept (t':=s.toks) fun b o e=>ag b o (fR (dJ e)) e
 exact h aa _ σ H xs _ Q aN (by simpa using cG) hw
noncomputable def uz (bJ:TE) (g:gH):dF:=fun D σ H=>bJ σ H fun x H1=>g x σ H1 D.b2
theorem alC {df e:Expr} (he:bp X e bJ) (a5:mT X df g) (ay:swapsWithSole [df] e pos.line X.env=pure false:=by rfl) (hw:swappedStores [df] e X.env=pure none:=by rfl)
  (af:(assignEach [df] X.env).map (·.2)=[assign df X.env]:=by rfl):gJ X (.Assign [df] e pos) (uz bJ g):=by
 intro aa s σ H D J h;refine wpAny_Assign_stores (bA (he aa s σ H _ J h) fun v s1 b4=>ea b4 fun x H1 aN cE bS=>?_) ay hw;rw [af];exact bA (a5 aa s1 σ H1 x v _ aN cE bS) fun _ s2 q=>q
theorem oT {x:Str} {e:Expr} (bf:X.N.Nodup) (ah:X.N[i]? = some x) (ag:Loc X.env.scope x) (he:bp X e bJ) (ay:swapsWith e (some (.Name x pos')) pos.line X.env=pure false:=by rfl) (hf:X.fn x=true\/X.env.scope.names.lookup x=some .local:=by first | exact .inl rfl | exact .inr rfl | assumption) :
  gJ X (.Assign [.Name x pos'] e pos) (uz bJ (ht i)):=by
 intro aa s σ H D J h;refine wpAny_Assign_Name (bA (he aa s σ H _ J h) fun v s1 b4=>ea b4 fun y H1 aN cE bS=>?_) ay;exact At aN bf ah ag cE (fun s2 bu=>⟨_,H1,bu,bS⟩) hf
noncomputable def M3 (c:TT) (bK:dF):dF:=fun D σ H=>∃ W:Nat->St->au->Prop,(∃ m,W m σ H)/\∀ m σ H,W m σ H ->
 c σ H fun b H1=>if b=true then ∃ N:St->au->Prop,(∀ ax I,N ax I->∃ dt,dt < m/\W dt ax I)/\bK { D with b2:=N,eH:=N,cA:=D.b2 } σ H1 else D.b2 σ H1
theorem akW (ar:PassesOwn (model X.prog X.w) X.A X.env X.du) (av:ja X c dk) (ab:iR X body bK):gJ X (.While c body [] pos) (M3 dk bK):=by
 intro aa s σ H D J h;obtain ⟨W,⟨m0,m1⟩,turn⟩:=h;refine wpAny_While (codeAny_whileLoop (fun n s'=>∃ ax I,Inv X aa ax I s'/\W n ax I) ?_ m0 ⟨σ,H,J,m1⟩);rintro n s1 ⟨f_,H1,aN,c9⟩;refine wpAny_passesOwn ar (bA (av aa s1 f_ H1 _ aN (turn n f_ H1 c9)) fun b s2 cF=>?_);obtain ⟨aw,bu,dn⟩:=cF;cases b with
 | true=>
  obtain ⟨N,bf,dn⟩:=dn;rw [if_pos rfl];refine wpAny_passesOwn ar (bA (ab aa s2 f_ aw _ bu dn) fun f s3 fJ=>?_);cases f with
  | next=>
   obtain ⟨gb,bw,ed,dA⟩:=fJ;obtain ⟨dt,hm,hx⟩:=bf gb bw dA;exact ⟨dt,hm,gb,bw,ed,hx⟩
  | cont=>
   obtain ⟨gb,bw,ed,dA⟩:=fJ;obtain ⟨dt,hm,hx⟩:=bf gb bw dA;exact ⟨dt,hm,gb,bw,ed,hx⟩
  | brk=>exact fJ
  | ret v=>exact fJ
 | false=>
  rw [if_neg fK];exact wpAny_execs_nil ⟨f_,aw,bu,dn⟩
end
structure jm where
 go:Nat->au->Prop
 ph:Nat->au->V->au->Prop
 stop:Nat->au->Prop
def je (X:a3) (aa:List (Addr × Obj)) (H:au) (b:Addr):Prop:=
 H b=none/\b ≠ X.env.locals/\b ∉ X.aK/\(b ∈ X.ex\/X.fv.heap.objs.size <= b)/\(∀ x c,X.env.cells.lookup x=some c->c ≠ b)/\∀ p ∈ X.dN ++ aa,p.1 ≠ b
theorem Inv.nH (J:Inv X aa σ H s) (ab:s.heap.objs.size <= b) (aY:I b=none):je X aa I b:=by
 refine ⟨aY,te (hp J.lt ab),J.Em ab,.inr (cP J.kO ab),fun x c e z=>?_,fun p ar z=>?_⟩
 .obtain ⟨v,q⟩:=J.cell x c e;exact absurd (hp q.lt (by rw [z];exact ab)) (kA _)
 .exact absurd (hp (dJ (J.pin p ar).1) (by rw [z];exact ab)) (kA _)
structure oR (P:Program) (w:World) (K:a_) (df:Expr) (bE:jm) (bI:List Addr) (it:Addr) (hY:Nat->Heap->Prop):Prop where
 mem:it ∈ bI
 obj:∀ i h,hY i h->∀ b ∈ bI,∃ o,h.get? b=some o/\∀ v,o.data ≠ .cell v
 keep:∀ i h h',hY i h->(∀ b ∈ bI,∀ o,h.get? b=some o->h'.get? b=some o)->hY i h'
 item:∀ (X:a3),X.prog=P->X.w=w->X.K=K->X.calm=true->∀ (i:Nat) (aa:List (Addr × Obj)) (s:Shared) (σ:St) (H:au) (E:Value->Shared->Prop),Inv X aa σ H s->(∀ b ∈ bI,je X aa H b)->hY i s.heap->bE.go i H ->
  wpAny (model P w) X.A (pyNext (.ref it)) (fun r s1=>∃ u,r=some u /\
   wpAny (model P w) X.A (letOwnedTupleGo df (.ref it) u) (fun _ s2=>∃ x I,Inv X aa σ I s2/\bD x u/\bE.ph i H x I/\hY (i + 1) s2.heap/\∀ b ∈ bI,I b=none) E s1) E s
 done:∀ (X:a3),X.prog=P->X.w=w->X.K=K->X.calm=true->∀ (i:Nat) (aa:List (Addr × Obj)) (s:Shared) (σ:St) (H:au) (E:Value->Shared->Prop),Inv X aa σ H s->(∀ b ∈ bI,je X aa H b)->hY i s.heap->bE.stop i H ->
  wpAny (model P w) X.A (pyNext (.ref it)) (fun r s1=>r=none/\Inv X aa σ H s1) E s
 self:∀ (A:Around) (i:Nat) (s:Shared) (Q:Value->Shared->Prop) (E:Value->Shared->Prop),hY i s.heap->Q (.ref it) s->wpAny (model P w) A (pyIter (.ref it)) Q E s
noncomputable abbrev TI:=St->au->(jm->au->Prop)->Prop
def Wb (X:a3) (aa:List (Addr × Obj)) (σ:St) (df:Expr) (R:jm->au->Prop) (zD:Value) (s2:Shared):Prop:=
 ∃ (it:Addr) (bI:List Addr) (hY:Nat->Heap->Prop) (bE:jm) (I:au),zD=.ref it/\Inv X aa σ I s2/\oR X.prog X.w X.K df bE bI it hY/\hY 0 s2.heap/\(∀ b ∈ bI,je X aa I b)/\R bE I
def oF (X:a3) (df iter:Expr) (gC:TI):Prop:=
 ∀ (aa:List (Addr × Obj)) (s:Shared) (σ:St) (H:au) (R:jm->au->Prop),Inv X aa σ H s->gC σ H R ->
  wpAny (model X.prog X.w) X.A (eval iter X.env) (fun v s1=>wpAny (model X.prog X.w) X.A (pyIter v) (Wb X aa σ df R) X.du s1) X.du s
theorem vY {A:Around} {it:Addr} (aQ:s.heap.get? it=some o) (av:o.cls=.type n) (hd:o.data=.fields vs)
    (aY:["enumerate","zip","dict_itemiterator","dict_reverseitemiterator","odict_iterator","itertools.zip_longest","itertools.pairwise"].contains n=false) (a8:Q () s):wpAny M A (letOwnedTupleGo df (.ref it) u) Q E s:=by
  unfold letOwnedTupleGo;cases df <;> first
    | exact wpAny_pure a8
    | (cases u <;> first
        | exact wpAny_pure a8
        | (refine wpAny_bind (wpAny_load aQ ?_)
           rw [av,hd];show wpAny M A (if (["enumerate","zip","dict_itemiterator","dict_reverseitemiterator","odict_iterator","itertools.zip_longest","itertools.pairwise"].contains n && vs[0]? == some (rawInt _))=true then _ else _) Q E s;rw [if_neg (by intro h;rw [aY,mu] at h;cases h)];exact wpAny_pure a8))
noncomputable def m' (K:a_) (a:Addr):jm:=
 ⟨fun i H=>∃ xs x,aB K H a xs/\xs[i]? = some x,fun i H x I=>I=H/\∀ xs,aB K H a xs->xs[i]? = some x,fun i H=>∃ xs,aB K H a xs/\xs.length <= i⟩
noncomputable def CN (K:a_) (a:Addr):jm:=
 ⟨fun i H=>∃ xs x,c0 K H a xs/\xs[i]? = some x,fun i H x I=>I=H/\∀ xs,c0 K H a xs->xs[i]? = some x,fun i H=>∃ xs,c0 K H a xs/\xs.length <= i⟩
noncomputable def nM (lo:Int) (n:Nat):jm:=⟨fun i _=>i < n,fun i H x I=>I=H/\x=.int (lo + i),fun i _=>n <= i⟩
theorem amr {w:World} {K:a_} (a it:Addr):oR P w K df (m' K a) [it] it (fun i h=>h.IsListIter it a i) where
 mem:=by simp
 obj:=fun i h st b ab=>by
  have e:b=it:=by simpa using ab
  subst e;obtain ⟨o,e,c,d⟩:=st;exact ⟨o,e,fun v z=>by rw [d] at z;cases z⟩
 keep:=fun i h h' st k=>st.at fun o e=>k it (by simp) o e
 item:=by
  intro X ct hw fl av i aa s σ H E J hf st a5;subst ct hw fl;obtain ⟨xs,x,aI,ag⟩:=a5;obtain ⟨a9,cG,p,aJ⟩:=J.list aI;obtain ⟨u,br,eo⟩:=cG.get ag;obtain ⟨f0,f1,f2,en,f4,eW⟩:=hf it (by simp);refine wpAny_pyNext_list_item st p.isList (x:=u) (by simpa using br) fun h' kZ oh=>?_
  have aN:Inv X aa σ H { s with heap:=h' }:=J.turned (t':=s.toks) (fun b o ab e=>(oh.2 b ab).trans e) f0 f1 en f4 eW;obtain ⟨o,e,c,d⟩:=id kZ;exact ⟨u,rfl,vY (s:={ s with heap:=h' }) e c d (by decide) ⟨x,H,aN,eo,⟨rfl,fun ys bh=>by rw [J.wg bh aI];exact ag⟩,kZ,fun b ab=>(hf b ab).1⟩⟩
 done:=by
  intro X ct hw fl av i aa s σ H E J hf st a5;subst ct hw fl;obtain ⟨xs,aI,ag⟩:=a5;obtain ⟨a9,cG,p,aJ⟩:=J.list aI;obtain ⟨f0,f1,f2,en,f4,eW⟩:=hf it (by simp);have aA:=cG.length;exact wpAny_pyNext_list_end (J.ok.hd av) st p.isList (by simp;omega) fun h' eO=>⟨rfl,J.turned (t':=s.toks) (fun b o ab e=>eO b o ab e) f0 f1 en f4 eW⟩
 self:=fun _ _ _ _ _ st h=>wpAny_pyIter_listiter st h
theorem WF {w:World} {K:a_} (a it:Addr):oR P w K df (CN K a) [it] it (fun i h=>h.IsTupleIter it a i) where
 mem:=by simp
 obj:=fun i h st b ab=>by
  have e:b=it:=by simpa using ab
  subst e;obtain ⟨o,e,c,d⟩:=st;exact ⟨o,e,fun v z=>by rw [d] at z;cases z⟩
 keep:=fun i h h' st k=>st.at fun o e=>k it (by simp) o e
 item:=by
  intro X ct hw fl av i aa s σ H E J hf st a5;subst ct hw fl;obtain ⟨xs,x,aI,ag⟩:=a5;obtain ⟨a9,cG,p,aJ⟩:=J.tuple aI;obtain ⟨u,br,eo⟩:=cG.get ag;obtain ⟨f0,f1,f2,en,f4,eW⟩:=hf it (by simp);refine wpAny_pyNext_tuple_item st (show s.heap.IsTuple a a9.toArray from p) (x:=u) (by simpa using br) fun h' kZ oh=>?_
  have aN:Inv X aa σ H { s with heap:=h' }:=J.turned (t':=s.toks) (fun b o ab e=>(oh.2 b ab).trans e) f0 f1 en f4 eW;obtain ⟨o,e,c,d⟩:=id kZ;exact ⟨u,rfl,vY (s:={ s with heap:=h' }) e c d (by decide) ⟨x,H,aN,eo,⟨rfl,fun ys bh=>by rw [J.MV bh aI];exact ag⟩,kZ,fun b ab=>(hf b ab).1⟩⟩
 done:=by
  intro X ct hw fl av i aa s σ H E J hf st a5;subst ct hw fl;obtain ⟨xs,aI,ag⟩:=a5;obtain ⟨a9,cG,p,aJ⟩:=J.tuple aI;obtain ⟨f0,f1,f2,en,f4,eW⟩:=hf it (by simp);have aA:=cG.length;exact wpAny_pyNext_tuple_end (J.ok.hd av) st (show s.heap.IsTuple a a9.toArray from p) (by simp;omega) fun h' eO=>⟨rfl,J.turned (t':=s.toks) (fun b o ab e=>eO b o ab e) f0 f1 en f4 eW⟩
 self:=fun _ _ _ _ _ st h=>wpAny_pyIter_tupleiter st h
theorem aiU {w:World} {K:a_} (it:Addr) (lo:Int) (n:Nat):oR P w K df (nM lo n) [it] it (fun i h=>IsRangeIter h it (lo + (i:Nat) * 1) ((n:Int) - (i:Nat)) 1) where
 mem:=by simp
 obj:=fun i h st b ab=>by
  have e:b=it:=by simpa using ab
  subst e;exact ⟨_,st,fun v z=>by
   have hv:U_ _=SF v:=z;cases hv⟩
 keep:=fun i h h' st k=>k it (by simp) _ st
 item:=by
  intro X ct hw fl av i aa s σ H E J hf st a5;subst ct hw fl;obtain ⟨f0,f1,f2,en,f4,eW⟩:=hf it (by simp);have W:=Walks.range (prog:=X.prog) (w:=X.w) (J.ok.hd av) it lo 1 n;refine W.item i s _ _ a5 st fun v h' tk aF kZ jw=>?_
  obtain ⟨t,rfl⟩:=aF;have aN:Inv X aa σ H { s with heap:=h',toks:=tk }:=J.turned (fun b o ab e=>jw b o (by simpa using ab) e) f0 f1 en f4 eW;refine ⟨_,rfl,vY (s:={ s with heap:=h',toks:=tk }) (n := "range_iterator") kZ rfl rfl (by decide) ⟨.int (lo + i),H,aN,⟨t,?_⟩,⟨rfl,rfl⟩,kZ,fun b ab=>(hf b ab).1⟩⟩;rw [Int.mul_one]
 done:=by
  intro X ct hw fl av i aa s σ H E J hf st a5;subst ct hw fl;obtain ⟨f0,f1,f2,en,f4,eW⟩:=hf it (by simp);exact wpAny_pyNext_range_end (J.ok.hd av) st (by have:n <= i:=a5;omega) fun h' eO=>⟨rfl,J.turned (t':=s.toks) (fun b o ab e=>eO b o ab e) f0 f1 en f4 eW⟩
 self:=fun _ _ _ _ _ st h=>wpAny_pyIter_rangeiter st h
section
variable {X:a3} {df:Expr}
noncomputable def JI (K:a_) (cZ:TE):TI:=fun σ H R=>cZ σ H fun x H1=>fa x fun a=>(∃ xs,aB K H1 a xs)/\R (m' K a) H1
noncomputable def Hy (K:a_) (cZ:TE):TI:=fun σ H R=>cZ σ H fun x H1=>fa x fun a=>(∃ xs,c0 K H1 a xs)/\R (CN K a) H1
theorem eA (aA:bp X l cZ):oF X df l (JI X.K cZ):=by
 intro aa s σ H R J h;refine bA (aA aa s σ H _ J h) fun v s1 b4=>ea b4 fun x H1 aN cE bS=>?_
 obtain ⟨a,e,⟨xs,aI⟩,q⟩:=fa.out bS;subst e;cases cE;obtain ⟨a9,cG,p,aJ⟩:=aN.list aI;refine wpAny_pyIter_list p.isList ?_;refine ⟨s1.heap.objs.size,[s1.heap.objs.size],_,_,H1,rfl,aN.kept (t':=s1.toks) fun b o e=>dE _ e,amr a _,⟨_,hc _ rfl,rfl,rfl⟩,fun b ab=>?_,q⟩;have e:b=s1.heap.objs.size:=by simpa using ab
 subst e;exact aN.nH (bW _) (aN.a4.fresh (bW _))
theorem W3 (aA:bp X l cZ):oF X df l (Hy X.K cZ):=by
 intro aa s σ H R J h;refine bA (aA aa s σ H _ J h) fun v s1 b4=>ea b4 fun x H1 aN cE bS=>?_
 obtain ⟨a,e,⟨xs,aI⟩,q⟩:=fa.out bS;subst e;cases cE;obtain ⟨a9,cG,p,aJ⟩:=aN.tuple aI;refine wpAny_pyIter_tuple (show s1.heap.IsTuple a a9.toArray from p) ?_;refine ⟨s1.heap.objs.size,[s1.heap.objs.size],_,_,H1,rfl,aN.kept (t':=s1.toks) fun b o e=>dE _ e,WF a _,⟨_,hc _ rfl,rfl,rfl⟩,fun b ab=>?_,q⟩;have e:b=s1.heap.objs.size:=by simpa using ab
 subst e;exact aN.nH (bW _) (aN.a4.fresh (bW _))
theorem akx {aa:List (Addr × Obj)} {σ:St} {H:au} {s:Shared} {R:jm->au->Prop} {E:Value->Shared->Prop} {lo ah:Int} {t u v:Tok} {tk:Nat} (J:Inv X aa σ H s) (af:-(2 ^ 62) <= lo) (aj:lo < 2 ^ 62) (a':-(2 ^ 62) <= ah) (c7:ah < 2 ^ 62)
  (q:R (nM lo (ah - lo).toNat) H):wpAny (model X.prog X.w) X.A (pyIter (.ref s.heap.objs.size)) (Wb X aa σ df R) E { s with heap:=s.heap.push { cls:=.type "range",data:=.fields #[.int lo t,.int ah u,.int 1 v] },toks:=tk }:=by
 refine wpAny_pyIter_range (IsRange.new ..) (small_one af aj a' c7) ?_;have aN:Inv X aa σ H { s with heap:=s.heap.push { cls:=.type "range",data:=.fields #[.int lo t,.int ah u,.int 1 v] },toks:=tk }:=J.kept fun b o e=>dE _ e
 refine ⟨(s.heap.push { cls:=.type "range",data:=.fields #[.int lo t,.int ah u,.int 1 v] }).objs.size,[(s.heap.push { cls:=.type "range",data:=.fields #[.int lo t,.int ah u,.int 1 v] }).objs.size],_,_,H,rfl,
  aN.kept (t':=tk) fun b o e=>dE _ e,aiU _ lo (ah - lo).toNat,?_,fun b ab=>?_,q⟩
 .have aq:lo + ((0:Nat):Int) * 1=lo:=by simp
  have aD:(((ah - lo).toNat:Nat):Int) - ((0:Nat):Int)=apD lo ah 1:=by rw [rangeSize_one];split <;> omega
  show IsRangeIter _ _ (lo + ((0:Nat):Int) * 1) ((((ah - lo).toNat:Nat):Int) - ((0:Nat):Int)) 1;rw [aq,aD];exact hc _ rfl
 .have e:b=(s.heap.push { cls:=.type "range",data:=.fields #[.int lo t,.int ah u,.int 1 v] }).objs.size:=by simpa using ab
  subst e;exact aN.nH (bW _) (aN.a4.fresh (bW _))
noncomputable def S3 (a7:e_):TI:=fun σ H R=>a7 σ H fun vs H1=>mD vs fun x=>gK x fun j=>-(2 ^ 62) <= j/\j < 2 ^ 62/\R (nM 0 j.toNat) H1
theorem nY {a:Expr} {a7:e_} {p pos:Pos} (a5:j7 X "range") (hm:X.mg "range"=none) (aO:iY X [a] a7) (ay:starEach [a] X.env=[(false,eval a X.env)]:=by rfl):oF X df (.Call (.Name "range" p) [a] [] pos) (S3 a7):=by
 intro aa s σ H R J h;refine Call_ (wH J a5 hm boot_range (MI (bA (aO pos aa s σ H _ J h) fun us s1 cF=>?_) ay rfl));obtain ⟨vs,H1,aN,cE,bS⟩:=cF;obtain ⟨agg,agM,gv⟩:=mD.out bS;obtain ⟨j,KC,Yk,dn,q⟩:=gK.out gv;have e:=agM.trans (congrArg (fun z=>[z]) KC);subst e;cases cE with
 | cons r sk=>
  cases sk;obtain ⟨t,rfl⟩:=r;exact call_range_1 (akx aN (by omega) (by omega) Yk dn (by simpa using q))
noncomputable def P0 (gC:TI) (g:gH) (bK:dF):dF:=fun D σ H=>gC σ H fun bE H1=>∃ W:Nat->Nat->St->au->Prop,(∃ m,W 0 m σ H1)/\∀ i m σ H,W i m σ H ->
 (bE.stop i H/\D.b2 σ H)\/(bE.go i H/\∃ N:St->au->Prop,(∀ ax I,N ax I->∃ dt,dt < m/\W (i + 1) dt ax I)/\∀ x I,bE.ph i H x I->g x σ I fun cz aw=>bK { D with b2:=N,eH:=N,cA:=D.b2 } cz aw)
noncomputable def vC (bI:List Addr) (h:Heap):List (Addr × Obj):=bI.filterMap fun b=>(h.get? b).map fun o=>(b,o)
theorem Am {h:Heap} (ab:b ∈ bI) (e:h.get? b=some o):(b,o) ∈ vC bI h:=ag1.mpr ⟨b,ab,by rw [e];rfl⟩
theorem Xq {h:Heap} {p:Addr × Obj} (ar:p ∈ vC bI h):p.1 ∈ bI/\h.get? p.1=some p.2:=by
 obtain ⟨b,ab,e⟩:=ag1.mp ar;cases q:h.get? b with
 | none=>rw [q] at e;cases e
 | some o=>
  rw [q] at e;have bQ:(b,o)=p:=dU e;subst bQ;exact ⟨ab,q⟩
theorem Inv.pinned (J:Inv X aa σ H s) (hf:∀ b ∈ bI,je X aa H b) (aQ:∀ b ∈ bI,∃ o,s.heap.get? b=some o/\∀ v,o.data ≠ .cell v):Inv X (aa ++ vC bI s.heap) σ H s:=
 J.rp fun p ar=>(hI.mp ar).elim (fun z=>J.pin p (ko _ z)) fun z=>by
  obtain ⟨ab,e⟩:=Xq z;obtain ⟨f0,f1,f2,_⟩:=hf p.1 ab;obtain ⟨o,bQ,d⟩:=aQ p.1 ab;rw [e] at bQ;cases bQ;exact ⟨e,f0,f1,f2,d⟩
theorem Inv.Bn (J:Inv X (aa ++ pl) σ H s):Inv X aa σ H s:=J.rp fun p ar=>J.pin p (ko _ (yJ _ ar))
theorem fU (ar:PassesOwn (model X.prog X.w) X.A X.env X.du) (av:X.calm=true) (ah:oF X df iter gC) (a5:mT X df g) (ab:iR X body bK)
  (ay:∀ x,foldedSetIterable iter X.env x=pure x:=by intro _;rfl):gJ X (.For df iter body [] pos) (P0 gC g bK):=by
 intro aa s σ H D J h;refine wpAny_For (bA (ah aa s σ H _ J h) fun v s1 af=>bA af fun zD s2 aj=>?_) ay;obtain ⟨it,bI,hY,bE,aw,e,bu,T,p6,f2,W,⟨m0,m1⟩,turn⟩:=aj;subst e;have stat:∀ {I:au},(∀ b ∈ bI,I b=none)->∀ b ∈ bI,je X aa I b:=fun aY b ab=>⟨aY b ab,(f2 b ab).2⟩
 refine codeAny_forLoop_any (fun n s'=>∃ i ax I,Inv X aa ax I s'/\hY i s'.heap/\(∀ b ∈ bI,I b=none)/\W i n ax I) ?_ m0 ⟨0,σ,aw,bu,p6,fun b ab=>(f2 b ab).1,m1⟩;rintro n s3 ⟨i,gb,bw,ed,TX,Ph,hx⟩;rcases turn i n gb bw hx with ⟨stop,yy⟩ | ⟨go,N,bf,step⟩
 .refine wpAny_passesOwn ar (bA (T.done X rfl rfl rfl av i aa s3 gb bw X.du ed (stat Ph) TX stop) fun r s4 cF=>?_);obtain ⟨ak,hB⟩:=cF;subst ak;exact wpAny_execs_nil ⟨gb,bw,hB,yy⟩
 .refine wpAny_passesOwn ar (bA (T.item X rfl rfl rfl av i aa s3 gb bw X.du ed (stat Ph) TX go) fun r s4 cF=>?_);obtain ⟨u,ak,c7⟩:=cF;subst ak;refine wpAny_passesOwn ar (bA c7 fun _ s5 cF=>?_);obtain ⟨x,d1,wY,LF,uf,r8,Ea⟩:=cF;have Hq:=wY.pinned (stat Ea) (T.obj _ _ r8);refine wpAny_passesOwn ar (bA (a5 _ s5 gb d1 x u _ Hq LF (step x d1 uf)) fun _ h2 cF=>?_);obtain ⟨mX,fL,mY,K_⟩:=cF;refine wpAny_passesOwn ar (bA (ab _ h2 mX fL _ mY K_) fun f mP nB=>?_);have again:∀ {kn:St} {g9:au},Inv X (aa ++ vC bI s5.heap) kn g9 mP->N kn g9->∃ m,m < n/\∃ i ax I,Inv X aa ax I mP/\hY i mP.heap/\(∀ b ∈ bI,I b=none)/\W i m ax I:=fun {kn g9} kp lL=>by
   obtain ⟨dt,hm,m7⟩:=bf kn g9 lL;refine ⟨dt,hm,i + 1,kn,g9,kp.Bn,T.keep _ _ _ r8 fun b ab o e=>(kp.pin (b,o) (ko _ (ko _ (Am ab e)))).1,fun b ab=>?_,m7⟩;obtain ⟨o,e,d⟩:=T.obj _ _ r8 b ab;exact (kp.pin (b,o) (ko _ (ko _ (Am ab e)))).2.1
  cases f with
  | next=>obtain ⟨kn,g9,kp,lL⟩:=nB;exact again kp lL
  | cont=>obtain ⟨kn,g9,kp,lL⟩:=nB;exact again kp lL
  | brk=>obtain ⟨kn,g9,kp,nB⟩:=nB;exact ⟨kn,g9,kp.Bn,nB⟩
  | ret v=>obtain ⟨d2,kn,g9,kp,ab6,nB⟩:=nB;exact ⟨d2,kn,g9,kp.Bn,ab6,nB⟩
end
theorem afS {K:a_} {a:Addr} {xs:List V} {g:gH} {bK:dF} {D:gO} {σ:St} {H:au} (Pv:Nat->St->au->Prop) (h0:Pv 0 σ H) (aA:∀ i σ H,i <= xs.length->Pv i σ H->aB K H a xs)
  (ay:∀ i x σ H,xs[i]? = some x->Pv i σ H->g x σ H fun cz aw=>bK { D with b2:=Pv (i + 1),eH:=Pv (i + 1),cA:=D.b2 } cz aw) (hd:∀ σ H,Pv xs.length σ H->D.b2 σ H) :
  ∃ W:Nat->Nat->St->au->Prop,(∃ m,W 0 m σ H)/\∀ i m σ H,W i m σ H ->
   ((m' K a).stop i H/\D.b2 σ H)\/((m' K a).go i H/\∃ N:St->au->Prop,(∀ ax I,N ax I->∃ dt,dt < m/\W (i + 1) dt ax I)/\∀ x I,(m' K a).ph i H x I->g x σ I fun cz aw=>bK { D with b2:=N,eH:=N,cA:=D.b2 } cz aw):=by
 refine ⟨fun i m σ H=>m=xs.length - i/\i <= xs.length/\Pv i σ H,⟨xs.length,by simp,fC _,h0⟩,?_⟩;rintro i m σ H ⟨rfl,ah,p⟩;have q:=aA i σ H ah p;by_cases dD:i < xs.length
 .refine .inr ⟨⟨xs,xs[i],q,by simp [dD]⟩,Pv (i + 1),fun ax I ju=>⟨xs.length - (i + 1),by omega,rfl,dD,ju⟩,fun x I y=>?_⟩;obtain ⟨e,y⟩:=y;subst e;exact ay i x σ _ (y xs q) p
 .have e:i=xs.length:=by omega
  subst e;exact .inl ⟨⟨xs,q,bW _⟩,hd σ H p⟩
theorem af2 {lo:Int} {n:Nat} {g:gH} {bK:dF} {D:gO} {σ:St} {H:au} (Pv:Nat->St->au->Prop) (h0:Pv 0 σ H)
  (ay:∀ i σ H,i < n->Pv i σ H->g (.int (lo + i)) σ H fun cz aw=>bK { D with b2:=Pv (i + 1),eH:=Pv (i + 1),cA:=D.b2 } cz aw) (hd:∀ σ H,Pv n σ H->D.b2 σ H) :
  ∃ W:Nat->Nat->St->au->Prop,(∃ m,W 0 m σ H)/\∀ i m σ H,W i m σ H ->
   ((nM lo n).stop i H/\D.b2 σ H)\/((nM lo n).go i H/\∃ N:St->au->Prop,(∀ ax I,N ax I->∃ dt,dt < m/\W (i + 1) dt ax I)/\∀ x I,(nM lo n).ph i H x I->g x σ I fun cz aw=>bK { D with b2:=N,eH:=N,cA:=D.b2 } cz aw):=by
 refine ⟨fun i m σ H=>m=n - i/\i <= n/\Pv i σ H,⟨n,by simp,fC _,h0⟩,?_⟩;rintro i m σ H ⟨rfl,ah,p⟩;by_cases dD:i < n
 .refine .inr ⟨dD,Pv (i + 1),fun ax I ju=>⟨n - (i + 1),by omega,rfl,dD,ju⟩,fun x I y=>?_⟩;obtain ⟨e,y⟩:=y;subst e y;exact ay i σ _ dD p
 .have e:i=n:=by omega
  subst e;exact .inl ⟨bW _,hd σ H p⟩
noncomputable abbrev eQ:=V->V->au->cJ->Prop
def hs (X:a3) (f:Value->Value->Sem Value) (r:eQ):Prop:=
 ∀ (aa:List (Addr × Obj)) (s:Shared) (σ:St) (H:au) (x y:V) (v u:Value) (Q:cJ),Inv X aa σ H s->bD x v->bD y u->r x y H Q ->
  wpAny (model X.prog X.w) X.A (f v u) (f7 X aa σ Q) X.du s
def Fq (X:a3) (f:Value->Sem Value) (r:V->au->cJ->Prop):Prop:=
 ∀ (aa:List (Addr × Obj)) (s:Shared) (σ:St) (H:au) (x:V) (v:Value) (Q:cJ),Inv X aa σ H s->bD x v->r x H Q ->
  wpAny (model X.prog X.w) X.A (f v) (f7 X aa σ Q) X.du s
def k7 (X:a3) (f:Value) (r:List V->au->cJ->Prop):Prop:=
 ∀ (aa:List (Addr × Obj)) (s:Shared) (σ:St) (H:au) (xs:List V) (us:List Value) (Q:cJ),Inv X aa σ H s->bU xs us->r xs H Q ->
  wpAny (model X.prog X.w) X.A (call f us) (f7 X aa σ Q) X.du s
def af9 (X:a3) (r:V->au->(Bool->au->Prop)->Prop):Prop:=
 ∀ (aa:List (Addr × Obj)) (s:Shared) (σ:St) (H:au) (x:V) (v:Value) (Q:Bool->au->Prop),Inv X aa σ H s->bD x v->r x H Q ->
  wpAny (model X.prog X.w) X.A (truthy v) (zO X aa σ Q) X.du s
noncomputable def ra (r:eQ) (a7 bK:TE):TE:=fun σ H Q=>a7 σ H fun x H1=>bK σ H1 fun y aw=>r x y aw Q
noncomputable def Fw (r:V->au->cJ->Prop) (a7:TE):TE:=fun σ H Q=>a7 σ H fun x H1=>r x H1 Q
noncomputable def v5 (C:Int->Int->Prop) (g:Int->Int->V):eQ:=fun x y H Q=>gK x fun i=>gK y fun j=>C i j/\Q (g i j) H
noncomputable def o4 (g:Int->Int->V):eQ:=fun x y H Q=>gK x fun i=>gK y fun j=>Q (g i j) H
noncomputable def zt (g:Int->V):V->au->cJ->Prop:=fun x H Q=>gK x fun i=>Q (g i) H
section
variable {X:a3} {a b c:Expr} {a7 bK dk:TE} {pos:Pos}
theorem Mi (aO:bp X a a7) (ab:bp X b bK) {aa:List (Addr × Obj)} {s:Shared} {σ:St} {H:au} {R:V->V->au->Prop} (J:Inv X aa σ H s)
  (h:a7 σ H fun x H1=>bK σ H1 fun y aw=>R x y aw) {Q:Value->Shared->Prop} {f:Value->Value->Sem Value}
  (hf:∀ v u s2 x y aw,Inv X aa σ aw s2->bD x v->bD y u->R x y aw->wpAny (model X.prog X.w) X.A (f v u) Q X.du s2) :
  wpAny (model X.prog X.w) X.A (eval a X.env) (fun v dd=>wpAny (model X.prog X.w) X.A (eval b X.env) (fun u dV=>wpAny (model X.prog X.w) X.A (f v u) Q X.du dV) X.du dd) X.du s:=by
 refine bA (aO aa s σ H _ J h) fun v s1 b4=>ea b4 fun x H1 aN cE bS=>?_
 refine bA (ab aa s1 σ H1 _ aN bS) fun u s2 b4=>ea b4 fun y aw bu fW dn=>?_
 exact hf v u s2 x y aw bu cE fW dn
theorem bF {op:Operator} {r:eQ} (aQ:hs X (binaryOp op) r) (aO:bp X a a7) (ab:bp X b bK):bp X (.BinOp a op b pos) (ra r a7 bK):=by
 intro aa s σ H Q J h;exact wpAny_BinOp (Mi aO ab J h fun v u s2 x y aw bu bb bg q=>aQ aa s2 σ aw x y v u Q bu bb bg q)
theorem Ko (aQ:Fq X (unaryOp op) r) (aO:bp X a a7):bp X (.UnaryOp op a pos) (Fw r a7):=by
 intro aa s σ H Q J h;exact UnaryOp_ (bA (aO aa s σ H _ J h) fun v s1 b4=>ea b4 fun x H1 aN cE bS=>aQ aa s1 σ H1 x v Q aN cE bS)
theorem P5 {f:Value->Value->Sem Value} {C:Int->Int->Prop} {g:Int->Int->Int}
  (rule:∀ (i j:Int) (t u:Tok) (s:Shared) (Q:Value->Shared->Prop) (E:Value->Shared->Prop),C i j->Q (.int (g i j) s.toks) { s with toks:=s.toks + 1 }->wpAny (model X.prog X.w) X.A (f (.int i t) (.int j u)) Q E s) :
  hs X f (v5 C fun i j=>.int (g i j)):=by
 intro aa s σ H x y v u Q J bb bg h;obtain ⟨i,rfl,i8⟩:=gK.out h;obtain ⟨j,rfl,av,q⟩:=gK.out i8;obtain ⟨t,rfl⟩:=bb;obtain ⟨t',rfl⟩:=bg;exact rule i j t t' s _ _ av ⟨.int (g i j),H,J.tok _,⟨_,rfl⟩,q⟩
theorem AT {f:Value->Value->Sem Value} {g:Int->Int->Int}
  (rule:∀ (i j:Int) (t u:Tok) (s:Shared) (Q:Value->Shared->Prop) (E:Value->Shared->Prop),Q (.int (g i j) s.toks) { s with toks:=s.toks + 1 }->wpAny (model X.prog X.w) X.A (f (.int i t) (.int j u)) Q E s) :
  hs X f (o4 fun i j=>.int (g i j)):=by
 intro aa s σ H x y v u Q J bb bg h;obtain ⟨i,rfl,i8⟩:=gK.out h;obtain ⟨j,rfl,q⟩:=gK.out i8;obtain ⟨t,rfl⟩:=bb;obtain ⟨t',rfl⟩:=bg;exact rule i j t t' s _ _ ⟨.int (g i j),H,J.tok _,⟨_,rfl⟩,q⟩
theorem ES {f:Value->Value->Sem Value} {g:Int->Int->Bool}
  (rule:∀ (i j:Int) (t u:Tok) (s:Shared) (Q:Value->Shared->Prop) (E:Value->Shared->Prop),Q (.bool (g i j)) s->wpAny (model X.prog X.w) X.A (f (.int i t) (.int j u)) Q E s) :
  hs X f (o4 fun i j=>.bo (g i j)):=by
 intro aa s σ H x y v u Q J bb bg h;obtain ⟨i,rfl,i8⟩:=gK.out h;obtain ⟨j,rfl,q⟩:=gK.out i8;obtain ⟨t,rfl⟩:=bb;obtain ⟨t',rfl⟩:=bg;exact rule i j t t' s _ _ ⟨.bo (g i j),H,J,rfl,q⟩
def nA (i j:Int):Prop:=(-(2 ^ 64) < i/\i < 2 ^ 64)\/(-(2 ^ 64) < j/\j < 2 ^ 64)
theorem nA.ok (h:nA i j):IntMulOk i j:=by
 rcases h with ⟨af,aj⟩ | ⟨af,aj⟩
 .exact .of_left (intBits_le_64 af aj)
 .exact .of_right (intBits_le_64 af aj)
theorem dT:hs X (binaryOp .Add) (o4 fun i j=>.int (i + j)):=AT fun _ _ _ _ _ _ _ q=>add_int q
theorem l_:hs X (binaryOp .Sub) (o4 fun i j=>.int (i - j)):=AT fun _ _ _ _ _ _ _ q=>sub_int q
theorem jt:hs X (binaryOp .Mult) (v5 nA fun i j=>.int (i * j)):=P5 fun _ _ _ _ _ _ _ av q=>mul_int q av.ok
theorem jn:hs X (binaryOp .Mod) (v5 (fun _ j=>0 < j) fun i j=>.int (i % j)):=P5 fun i j _ _ _ _ _ av q=>by
 have af:(0:Int) < j:=av;exact mod_int' (by omega) (by rw [Int.fmod_eq_emod_of_nonneg i (by omega)];exact q)
theorem aaX {f:Value->Sem Value} {g:Int->Int}
  (rule:∀ (i:Int) (t:Tok) (s:Shared) (Q:Value->Shared->Prop) (E:Value->Shared->Prop),Q (.int (g i) s.toks) { s with toks:=s.toks + 1 }->wpAny (model X.prog X.w) X.A (f (.int i t)) Q E s) :
  Fq X f (zt fun i=>.int (g i)):=by
 intro aa s σ H x v Q J bb h;obtain ⟨i,rfl,q⟩:=gK.out h;obtain ⟨t,rfl⟩:=bb;exact rule i t s _ _ ⟨.int (g i),H,J.tok _,⟨_,rfl⟩,q⟩
theorem J3:Fq X (unaryOp .USub) (zt fun i=>.int (-i)):=aaX fun _ _ _ _ _ q=>neg_int q
end
noncomputable def GD:V->V->Bool
 | .bO,.bO=>true | .bO,.int _=>true | .int _,.bO=>true | .bO,.bo _=>true | .bo _,.bO=>true | .bO,.str _=>true | .str _,.bO=>true
 | .int _,.int _=>true | .bo _,.bo _=>true | .str _,.str _=>true | .k6 _,.k6 _=>true
 | .int _,.str _=>true | .str _,.int _=>true | .bo _,.str _=>true | .str _,.bo _=>true
 | _,_=>false
noncomputable def Kc:eQ:=fun x y H Q=>GD x y=true/\Q (.bo (decide (x=y))) H
noncomputable def IM:eQ:=fun x y H Q=>GD x y=true/\Q (.bo (!decide (x=y))) H
theorem VB:decide (V.int i=V.int j)=(i == j):=by
 rw [j'];simp
theorem S9:decide (V.bo i=V.bo j)=(i == j):=by
 rw [j'];simp
theorem Qg:decide (V.str i=V.str j)=(i == j):=by
 rw [j'];simp
theorem Rp:decide (V.k6 i=V.k6 j)=(i.toList == j.toList):=by
 rw [j'];cases i;cases j;simp
section
variable {X:a3} {a b c:Expr} {a7 bK dk:TE} {pos:Pos}
theorem be {k pL:Bool} (J:Inv X aa σ H s) (q:Q (.bo k) H) (e:k=pL):f7 X aa σ Q (.bool pL) s:=by
 subst e;exact ⟨.bo k,H,J,rfl,q⟩
theorem e5:hs X (compareOp .Eq) Kc:=by
 intro aa s σ H x y v u Q J bb bg h;obtain ⟨ay,q⟩:=h;cases x with
 | bO=>
  cases bb;cases y with
  | bO=>cases bg;exact ane (be J q (by simp))
  | bo j=>cases bg;exact an2 (be J q (by simp))
  | int j=>obtain ⟨t',rfl⟩:=bg;exact anQ (be J q (by simp))
  | str j=>obtain ⟨t',rfl⟩:=bg;exact an6 (be J q (by simp))
  | _=>exact absurd (show false=true from ay) fK
 | bo i=>
  cases bb;cases y with
  | bO=>cases bg;exact aoj (be J q (by simp))
  | bo j=>cases bg;exact eq_bool (be J q S9)
  | str j=>obtain ⟨t',rfl⟩:=bg;exact anJ (be J q (by simp))
  | _=>exact absurd (show false=true from ay) fK
 | int i=>
  obtain ⟨t,rfl⟩:=bb;cases y with
  | bO=>cases bg;exact apf (be J q (by simp))
  | int j=>obtain ⟨t',rfl⟩:=bg;exact eq_int (be J q VB)
  | str j=>obtain ⟨t',rfl⟩:=bg;exact anO (be J q (by simp))
  | _=>exact absurd (show false=true from ay) fK
 | str i=>
  obtain ⟨t,rfl⟩:=bb;cases y with
  | bO=>cases bg;exact ao7 (be J q (by simp))
  | bo j=>cases bg;exact anF (be J q (by simp))
  | int j=>obtain ⟨t',rfl⟩:=bg;exact anD (be J q (by simp))
  | str j=>obtain ⟨t',rfl⟩:=bg;exact eq_str (be J q Qg)
  | _=>exact absurd (show false=true from ay) fK
 | k6 i=>
  obtain ⟨t,rfl⟩:=bb;cases y with
  | k6 j=>obtain ⟨t',rfl⟩:=bg;exact PySem.W.eq_bytes (be J q Rp)
  | _=>exact absurd (show false=true from ay) fK
 | _=>cases y <;> exact absurd (show false=true from ay) fK
theorem qO:hs X (compareOp .NotEq) IM:=by
 intro aa s σ H x y v u Q J bb bg h;obtain ⟨ay,q⟩:=h;cases x with
 | bO=>
  cases bb;cases y with
  | bO=>cases bg;exact apq (be J q (by simp))
  | bo j=>cases bg;exact anm (be J q (by simp))
  | int j=>obtain ⟨t',rfl⟩:=bg;exact an1 (be J q (by simp))
  | str j=>obtain ⟨t',rfl⟩:=bg;exact anP (be J q (by simp))
  | _=>exact absurd (show false=true from ay) fK
 | bo i=>
  cases bb;cases y with
  | bO=>cases bg;exact anV (be J q (by simp))
  | bo j=>cases bg;exact ne_bool (be J q (congrArg not S9))
  | str j=>obtain ⟨t',rfl⟩:=bg;exact anc (be J q (by simp))
  | _=>exact absurd (show false=true from ay) fK
 | int i=>
  obtain ⟨t,rfl⟩:=bb;cases y with
  | bO=>cases bg;exact ape (be J q (by simp))
  | int j=>obtain ⟨t',rfl⟩:=bg;exact ne_int (be J q (congrArg not VB))
  | str j=>obtain ⟨t',rfl⟩:=bg;exact aol (be J q (by simp))
  | _=>exact absurd (show false=true from ay) fK
 | str i=>
  obtain ⟨t,rfl⟩:=bb;cases y with
  | bO=>cases bg;exact anM (be J q (by simp))
  | bo j=>cases bg;exact apo (be J q (by simp))
  | int j=>obtain ⟨t',rfl⟩:=bg;exact aos (be J q (by simp))
  | str j=>obtain ⟨t',rfl⟩:=bg;exact ne_str (be J q (congrArg not Qg))
  | _=>exact absurd (show false=true from ay) fK
 | k6 i=>
  obtain ⟨t,rfl⟩:=bb;cases y with
  | k6 j=>obtain ⟨t',rfl⟩:=bg;exact PySem.W.ne_bytes (be J q (congrArg not Rp))
  | _=>exact absurd (show false=true from ay) fK
 | _=>cases y <;> exact absurd (show false=true from ay) fK
theorem lu:hs X (compareOp .Lt) (o4 fun i j=>.bo (decide (i < j))):=ES fun _ _ _ _ _ _ _ q=>lt_int q
theorem acs:hs X (compareOp .LtE) (o4 fun i j=>.bo (decide (i <= j))):=ES fun _ _ _ _ _ _ _ q=>le_int q
theorem qN:hs X (compareOp .Gt) (o4 fun i j=>.bo (decide (j < i))):=ES fun _ _ _ _ _ _ _ q=>gt_int q
theorem W8:hs X (compareOp .In) (fun x y H Q=>∃ i j,x=.str i/\y=.str j/\Q (.bo (!(sC j i 0 j.length 1).isEmpty)) H):=by
 intro aa s σ H x y v u Q J bb bg h;obtain ⟨i,j,rfl,rfl,q⟩:=h;obtain ⟨t,rfl⟩:=bb;obtain ⟨t',rfl⟩:=bg;exact in_str (be J q rfl)
theorem Y1:hs X (compareOp .Is) (fun x y H Q=>y=.bO/\Q (.bo (decide (x=.bO))) H):=by
 intro aa s σ H x y v u Q J bb bg h;obtain ⟨rfl,q⟩:=h;cases bg;refine is_none_gen (be J q ?_);cases x <;> first
  | (cases bb;rfl)
  | (obtain ⟨t,rfl⟩:=bb;rfl)
theorem TB:hs X (compareOp .IsNot) (fun x y H Q=>y=.bO/\Q (.bo (!decide (x=.bO))) H):=by
 intro aa s σ H x y v u Q J bb bg h;obtain ⟨rfl,q⟩:=h;cases bg;refine isnot_none_gen (be J q ?_);cases x <;> first
  | (cases bb;rfl)
  | (obtain ⟨t,rfl⟩:=bb;rfl)
theorem cC (b:Expr) (h:op ≠ .In:=by decide) (aj:op ≠ .NotIn:=by decide):behindInMarks op b=false:=by
 have aq:(op == CmpOp.In)=false:=by cases op <;> first | rfl | exact absurd rfl h
 have aD:(op == Y_)=false:=by cases op <;> first | rfl | exact absurd rfl aj
 cases b <;> simp [behindInMarks,aq,aD]
theorem hO (aQ:hs X (compareOp op) r) (aO:bp X a a7) (ab:bp X b bK) (hm:behindInMarks op b=false):bp X (.Compare a [op] [b] pos) (ra r a7 bK):=by
 intro aa s σ H Q J h;exact wpAny_Compare1 (Mi aO ab J h fun v u s2 x y aw bu bb bg q=>aQ aa s2 σ aw x y v u Q bu bb bg q) hm
noncomputable def LA (t:TE):TT:=fun σ H Q=>t σ H fun x I=>jY x fun k=>Q k I
theorem c_ (aQ:hs X (compareOp op) r) (aO:bp X a a7) (ab:bp X b bK) (hm:behindInMarks op b=false):ja X (.Compare a [op] [b] pos) (LA (ra r a7 bK)):=by
 intro aa s σ H Q J h;refine wpAny_isTrue_Compare1 (bA (aO aa s σ H _ J h) fun v s1 b4=>ea b4 fun x H1 aN cE bS=>bA (ab aa s1 σ H1 _ aN bS) fun u s2 ⟨y,aw,bu,fW,dn⟩=>
  bA (aQ aa s2 σ aw x y v u _ bu cE fW dn) fun c s3 b4=>ea b4 fun z bw ed Lb gv=>?_) hm
 obtain ⟨k,e,fJ⟩:=jY.out gv;subst e;cases Lb;exact wpAny_truthy_bool ⟨bw,ed,fJ⟩
def Ni (K:a_) (x:V) (H:au) (k:Bool):Prop:=
 match x with
 | .bO=>k=false
 | .bo b=>k=b
 | .int i=>k=(i != 0)
 | .str y=>y.length <= sizeLine/\k=((y.length:Int) != 0)
 | .k6 y=>y.size <= sizeLine/\k=((y.size:Int) != 0)
 | .ref p=>(∃ xs,aB K H p xs/\k = !xs.isEmpty)\/(∃ xs,c0 K H p xs/\k = !xs.isEmpty)\/∃ kvs,H p=some (.bx kvs)/\k = !kvs.isEmpty
 | _=>False
theorem Z4 (r:ee kvs vs):(!vs.isEmpty) = !kvs.isEmpty:=by
 cases r <;> rfl
theorem Sk {a9:List Value} (r:bU xs a9):(!a9.toArray.isEmpty) = !xs.isEmpty:=by
 cases r <;> simp
theorem tA:(sizeLine:Nat) < 2 ^ 63:=by rw [sizeLine_eq];decide
theorem Yf:af9 X (fun x H Q=>∃ k,Ni X.K x H k/\Q k H):=by
 intro aa s σ H x v Q J bb h;obtain ⟨k,e,q⟩:=h;have aA:=tA;have ay:sizeLine=16777216:=sizeLine_eq;cases x with
 | bO=>
  cases bb;have bQ:k=false:=e;subst bQ;exact truthy_none ⟨H,J,q⟩
 | bo b=>
  cases bb;have bQ:k=b:=e;subst bQ;exact wpAny_truthy_bool ⟨H,J,q⟩
 | int i=>
  obtain ⟨t,rfl⟩:=bb;have bQ:k=(i != 0):=e;subst bQ;exact PySem.P.truthy_int ⟨H,J,q⟩
 | str y=>
  obtain ⟨t,rfl⟩:=bb;obtain ⟨bh,bQ⟩:y.length <= sizeLine/\k=((y.length:Int) != 0):=e;subst bQ;exact PySem.P.truthy_str (by omega) ⟨H,J.tok _,q⟩
 | k6 y=>
  obtain ⟨t,rfl⟩:=bb;obtain ⟨bh,bQ⟩:y.size <= sizeLine/\k=((y.size:Int) != 0):=e;subst bQ;exact PySem.W.truthy_bytes (by omega) ⟨H,J.tok _,q⟩
 | ref p=>
  cases bb;have bQ:(∃ xs,aB X.K H p xs/\k = !xs.isEmpty)\/(∃ xs,c0 X.K H p xs/\k = !xs.isEmpty)\/∃ kvs,H p=some (.bx kvs)/\k = !kvs.isEmpty:=e;rcases bQ with ⟨xs,ag,bQ⟩ | ⟨xs,ag,bQ⟩ | ⟨kvs,ag,bQ⟩
  .subst bQ;obtain ⟨a9,r,pl,aJ⟩:=J.list ag;have hlen:=r.length;exact wpAny_truthy_list pl.isList (by simp only [el];omega) ⟨H,J.tok _,by rw [Sk r];exact q⟩
  .subst bQ;obtain ⟨a9,r,pl,aJ⟩:=J.tuple ag;have hlen:=r.length;exact truthy_tuple pl (by simp only [el];omega) ⟨H,J.tok _,by rw [Sk r];exact q⟩
  .subst bQ;obtain ⟨aJ,dM,vs,r,m⟩:kvs.length <= sizeLine/\(p == sysModules)=false/\∃ vs,ee kvs vs/\s.heap.DictOf (gM X.prog X.w) p vs:=J.a4 p _ ag;have hlen:kvs.length=vs.length:=FI r;exact wpAny_truthy_dict dM m (by omega) ⟨H,J.tok _,by rw [Z4 r];exact q⟩
 | _=>exact (show False from e).elim
theorem y' (aO:bp X a a7) (he:∀ whole,isTrue a X.env whole=(do let v <- whole;standAt a.pos;holding [v] (truthy v))) :
  ja X a (fun σ H Q=>a7 σ H fun x I=>∃ k,Ni X.K x I k/\Q k I):=by
 intro aa s σ H Q J h;exact isTrue_plain (bA (aO aa s σ H _ J h) fun v s1 b4=>ea b4 fun x H1 aN cE bS=>Yf aa s1 σ H1 x v Q aN cE bS) (he _)
theorem jM:hs X (binaryOp .Add) (fun x y H Q=>∃ i j,x=.str i/\y=.str j/\i.length + j.length <= sizeLine/\Q (.str (i ++ j)) H):=by
 intro aa s σ H x y v u Q J bb bg h;obtain ⟨i,j,rfl,rfl,aJ,q⟩:=h;obtain ⟨t,rfl⟩:=bb;obtain ⟨t',rfl⟩:=bg;exact add_str (fun t' tk=>⟨.str (i ++ j),H,J.tok _,⟨_,rfl⟩,q⟩) aJ
theorem kP {x:V} (r:bU [x] us):∃ u,us=[u]/\bD x u:=by
 cases r with
 | cons cE fW=>cases fW;exact ⟨_,rfl,cE⟩
theorem Oi {x y:V} (r:bU [x,y] us):∃ u d8,us=[u,d8]/\bD x u/\bD y d8:=by
 cases r with
 | cons cE fW=>
  cases fW with
  | cons Lb ahR=>cases ahR;exact ⟨_,_,rfl,cE,Lb⟩
theorem Y6 (av:X.calm=true):k7 X (.builtin "max") (fun xs H Q=>∃ i j,xs=[.int i,.int j]/\Q (.int (if j > i then j else i)) H):=by
 intro aa s σ H xs us Q J r h;obtain ⟨i,j,rfl,q⟩:=h;obtain ⟨u,d8,rfl,⟨t,rfl⟩,⟨t',rfl⟩⟩:=Oi r;refine max_two_ints (J.ok.hd av) fun h' tk k=>⟨_,H,J.kept k,?_,q⟩
 by_cases aM:j > i
 .rw [if_pos aM,if_pos aM];exact ⟨_,rfl⟩
 .rw [if_neg aM,if_neg aM];exact ⟨_,rfl⟩
theorem Wr:k7 X (.type "int") (fun xs H Q=>(∃ i,xs=[.int i]/\Q (.int i) H)\/∃ k,xs=[.bo k]/\Q (.int (if k then 1 else 0)) H):=by
 intro aa s σ H xs us Q J r h;rcases h with ⟨i,rfl,q⟩ | ⟨k,rfl,q⟩
 .obtain ⟨u,rfl,t,rfl⟩:=kP r;exact call_int_int ⟨.int i,H,J,⟨_,rfl⟩,q⟩
 .obtain ⟨u,rfl,cE⟩:=kP r;cases cE;exact call_int_bool ⟨.int (if k then 1 else 0),H,J.tok _,⟨_,rfl⟩,q⟩
theorem x5:k7 X (.type "str") (fun xs H Q=>∃ i,xs=[.int i]/\i.natAbs.log2 < 1920/\Q (.str (toString i)) H):=by
 intro aa s σ H xs us Q J r h;obtain ⟨i,rfl,aJ,q⟩:=h;obtain ⟨u,rfl,t,rfl⟩:=kP r;exact PySem.P.str_of_int aJ ⟨.str _,H,J.tok _,⟨_,rfl⟩,q⟩
end
structure rl (h:Heap) (x ao C:Addr) (dR:Str->Option Value):Prop where
 obj:h.get? x=some (q8 C ao)
 ns:h.Ns1 ao dR
 ne:ao ≠ x
theorem TU {h:Heap} (n:h.Ns1 ao dR):∃ bk,h.get? ao=some bk/\∀ name,Dx name bk=some (dR name):=by
 obtain ⟨o,aV,ep,aQ,hd,aC,_,hm⟩:=n;refine ⟨o,aQ,fun name=>?_⟩;have e:=hm name;unfold nsFind findBy at e;rw [<- aeJ] at e;unfold Dx;rw [hd];dsimp only;split
 .rename_i y q;rw [q] at e;exact congrArg some e
 .rename_i q;rw [q] at e;have a:aV.toList.any (·.refKey)=false:=by
   rw [J0];intro y bh;obtain ⟨z,t,LS⟩:=aC y (Array.mem_toList_iff.mp bh);simp [DictEntry.refKey,LS]
  have sm:¬ aV.toList.any (·.refKey)=true:=by rw [a];exact fK
  rw [if_neg sm];exact congrArg some e
theorem rl.look {h:Heap} {x ao C:Addr} (J:rl h x ao C dR):∃ bk,Ig h x (q8 C ao) C (some bk)/\∀ name,Dx name bk=some (dR name):=
 let ⟨bk,aQ,aA⟩:=TU J.ns
 ⟨bk,⟨J.obj,rfl,rfl,aQ⟩,aA⟩
section
variable {prog:Program} {w:World} {A:Around} {E:Value->Shared->Prop} {s:Shared} {K:a_} {x ao C f:Addr} {dR:Str->Option Value} {name:Str} {v:Value}
theorem adj (X:K.In s.heap) (J:rl s.heap x ao C dR) (a5:L4 K C name=true) (de:Aq K C=true)
  (aO:dm K (.ref C) name=some none) (aF:dR name=some v) (acb:aez v=true) (h:Q v { s with toks:=s.toks + 1 }) :
  wpAny (model prog w) A (getAttr (.ref x) name expr) Q E s:=by
 obtain ⟨bk,bE,aA⟩:=J.look;exact PySem.W.get_value X bE (U7 a5).1 (PySem.W.findObj_own de aO rfl (by rw [aA,aF])) acb h
theorem abG (X:K.In s.heap) (J:rl s.heap x ao C dR) (a5:L4 K C name=true)
  (hf:dm K (.ref C) name=some (some (.ref f))) (cK:GY K (.ref f)=true) (aF:dR name=none) (h:Q (.ref f,[.ref x]) s) :
  wpAny (model prog w) A (getMethod (.ref x) name pl) Q E s:=by
 obtain ⟨bk,bE,aA⟩:=J.look;exact PySem.W.method_fn X bE (U7 a5).1 (U7 a5).2 hf (beq_iff_eq.mp cK) (by show (Dx name bk).map (·.isSome)=some false;rw [aA,aF];rfl) h
theorem aiJ {ns:List Str} (X:K.In s.heap) (J:rl s.heap x ao C dR)
  (ay:dm K (.ref C) "__setattr__"=some (some (.builtin "object.__setattr__"))) (ar:akP K C=true) (cK:NW K C name=some none) (de:Aq K C=true)
  (hw:Cw dR ns) (hsz:ns.length <= sizeLine)
  (h:∀ h',rl h' x ao C (fun y=>if y=name then some v else dR y)->t_ ao s.heap h'->Q () { s with heap:=h',toks:=s.toks + 2 }) :
  wpAny (model prog w) A (setAttr (.ref x) name v) Q E s:=by
 obtain ⟨bk,bE,aA⟩:=J.look;refine aaQ X bE ay (PySem.W.osa_open (s:={ s with toks:=s.toks + 1 }) (r:=none) X bE ar cK fun b=>?_);obtain ⟨cd,av,rT⟩:=Bg de;have ag:s.heap.get? x=some ⟨.ref C,some ao,.plain,#[]⟩:=J.obj;refine wpAny_bind (wpAny_pure (wpAny_bind (wpAny_bind (wpAny_loadPart ag (wpAny_bind (aef (s:={ s with toks:=s.toks + 1 }) (SK X av) ?_))))));rw [rT];refine wpAny_pure (a:=some ao) (wpAny_bind (wpAny_pure (wpAny_bind ?_)));refine wpAny_nsSet1 (s:={ s with toks:=s.toks + 1 }) J.ns fun h' oo jh=>?_
 obtain ⟨ad1,Yh,acO,Gr,D6,K5⟩:=oo.count (ahZ name v hw);refine wpAny_bind (wpAny_lookBehind Gr (by rw [D6];exact pastItsLine_dict (cP K5 (by rw [hi];omega))) ?_);exact wpAny_pure (h _ ⟨(jh.2 _ (dg J.ne)).trans J.obj,oo,J.ne⟩ jh)
theorem adT (X:K.In s.heap) (hm:aaW K C=true)
  (ah:dm K (.ref C) "__init__"=some (some (.ref f))) (hf:Vv K (.ref f)=some (.type "function"))
  (h:codeAny (model prog w) (A.under (.builtin "type.__call__" ⟨.ref C :: vs,kw⟩)) (.call (.ref f) ⟨.ref (s.heap.objs.size + 1) :: vs,kw⟩) (alP (s.heap.objs.size + 1) R)
   { s with heap:=(s.heap.push j1).push (q8 C s.heap.objs.size) }) :
  codeAny (model prog w) A (.call (.ref C) ⟨vs,kw⟩) R s:=by
 obtain ⟨de,g,d,t,os⟩:=s;exact PySem.W.make_core (PySem.W.makes_of X hm) (Dj X ah) (fun self=>aa6 X self hf) (.inl rfl) h
end
noncomputable def c2 (f:Str) (v:V):List (Str × V)->List (Str × V)
 | []=>[(f,v)]
 | (g,x) :: r=>if g=f then (g,v) :: r else (g,x) :: c2 f v r
theorem RS (f g:Str) (v:V):∀ aK:List (Str × V),(c2 f v aK).lookup g=if g=f then some v else aK.lookup g
 | []=>by
  show nQ g [(f,v)]=_;by_cases h:g=f
  .have ab:(g == f)=true:=beq_iff_eq.mpr h;simp only [nQ,ab,if_pos h]
  .have ab:(g == f)=false:=beq_eq_false_iff_ne.mpr h;simp only [nQ,ab,if_neg h]
 | (k,x) :: r=>by
  have b':=RS f g v r;rw [show c2 f v ((k,x) :: r)=(if k=f then (k,v) :: r else (k,x) :: c2 f v r) from rfl];by_cases aC:k=f
  .rw [if_pos aC];by_cases h:g=k
   .have ab:(g == k)=true:=beq_iff_eq.mpr h;simp only [nQ,ab,if_pos (h.trans aC)]
   .have ab:(g == k)=false:=beq_eq_false_iff_ne.mpr h;simp only [nQ,ab,if_neg (fun e:g=f=>h (e.trans aC.symm))]
  .rw [if_neg aC];by_cases h:g=k
   .have ab:(g == k)=true:=beq_iff_eq.mpr h;simp only [nQ,ab,if_neg (fun e:g=f=>aC (h.symm.trans e))]
   .have ab:(g == k)=false:=beq_eq_false_iff_ne.mpr h;simp only [nQ,ab];exact b'
theorem D1 (f:Str) (v:V):∀ aK:List (Str × V),f ∈ (c2 f v aK).map (·.1)/\∀ g,g ∈ aK.map (·.1)->g ∈ (c2 f v aK).map (·.1)
 | []=>⟨by simp [c2],fun g h=>by simp at h⟩
 | (k,x) :: r=>by
  obtain ⟨i1,i2⟩:=D1 f v r;rw [show c2 f v ((k,x) :: r)=(if k=f then (k,v) :: r else (k,x) :: c2 f v r) from rfl];by_cases aC:k=f
  .rw [if_pos aC];subst aC;exact ⟨by simp,fun g h=>by simpa using h⟩
  .rw [if_neg aC];refine ⟨?_,fun g h=>?_⟩
   .rw [eN];exact hS _ i1
   .rw [eN] at h ⊢;rcases fi.mp h with e | e
    .exact fi.mpr (.inl e)
    .exact hS _ (i2 g e)
theorem Ek (f:Str) (v:V):∀ aK:List (Str × V),(c2 f v aK).length <= aK.length + 1
 | []=>by simp [c2]
 | (k,x) :: r=>by
  have b':=Ek f v r;rw [show c2 f v ((k,x) :: r)=(if k=f then (k,v) :: r else (k,x) :: c2 f v r) from rfl];by_cases aC:k=f
  .rw [if_pos aC,hi,hi];omega
  .rw [if_neg aC,hi,hi];omega
theorem hr.some_of (r:hr (some v) o):∃ u,o=some u/\bD v u:=by
 cases o with
 | none=>exact (show False from r).elim
 | some u=>exact ⟨u,rfl,r⟩
theorem hr.none_of (r:hr none o):o=none:=by
 cases o with
 | none=>rfl
 | some u=>exact (show False from r).elim
theorem OC (r:bD v u):aez u=true:=by
 cases v with
 | bO=>cases (show u=ic from r);rfl
 | bo b=>cases (show u=jz b from r);rfl
 | int i=>obtain ⟨t,e⟩:=(show ∃ t,u=mN i t from r);cases e;rfl
 | str x=>obtain ⟨t,e⟩:=(show ∃ t,u=qe x t from r);cases e;rfl
 | k6 b=>obtain ⟨t,e⟩:=(show ∃ t,u=JW b t from r);cases e;rfl
 | sQ b=>obtain ⟨t,e⟩:=(show ∃ t,u=Gn b t from r);cases e;rfl
 | ref a=>cases (show u=dz a from r);rfl
 | ty n=>cases (show u=GX n from r);rfl
section
variable {P:Program} {w:World} {H I:au} {h h':Heap} {a C ao:Addr} {aK l1:List (Str × V)}
theorem uV (a4:eh P w H h) (e:H a=some (.ins C ao aK)):∃ dR,rl h a ao C dR/\(∀ f,hr (aK.lookup f) (dR f))/\Cw dR (aK.map (·.1))/\aK.length <= 1000/\H ao=some (.own a):=by
 obtain ⟨d,z,ne,bV,dR,n,r,q⟩:=(show dy P w H h a (.ins C ao aK) from a4 a _ e);exact ⟨dR,⟨bV,n,ne⟩,r,q,z,d⟩
end
structure gP (K:a_) (C:Addr):Prop where
 alf:L4 K C Str.empty=true
 hd:Aq K C=true
 po:akP K C=true
 aU:dm K (.ref C) "__setattr__"=some (some (.builtin "object.__setattr__"))
theorem gP.get {K:a_} (c:gP K C) (f:Str):L4 K C f=true:=c.alf
def ac (K:a_) (C:Addr) (f:Str):Prop:=dm K (.ref C) f=some none
theorem ac.ae3 {K:a_} (n:ac K C f):NW K C f=some none:=by
 unfold NW;rw [show dm K (.ref C) f=some none from n];rfl
structure aob (K:a_) (C:Addr) (f:Str) (v:V) (u:Value):Prop where
 at_:dm K (.ref C) f=some (some u)
 rel:bD v u
 get:sP K u "__get__"=some none
 ta:PySem.W.copiedNames.contains f=false
structure fE (K:a_) (C:Addr) (m:Str) (f:Addr):Prop where
 at_:dm K (.ref C) m=some (some (.ref f))
 fn:GY K (.ref f)=true
 bH:qr K (.ref f)=true
section
variable {X:a3} {aa:List (Addr × Obj)} {σ:St} {H:au} {s:Shared} {a C ao:Addr} {aK:List (Str × V)} {f:Str} {v:V} {A:Around} {E:Value->Shared->Prop}
theorem WG (J:Inv X aa σ H s) (e:H a=some (.ins C ao aK)) (c:gP X.K C) (n:ac X.K C f) (l:aK.lookup f=some v)
  (h:∀ u s',Inv X aa σ H s'->bD v u->Q u s'):wpAny (model X.prog X.w) A (getAttr (.ref a) f b) Q E s:=by
 obtain ⟨dR,O,r,_,_,_⟩:=uV J.a4 e;obtain ⟨u,br,eo⟩:=hr.some_of (v:=v) (o:=dR f) (by rw [<- l];exact r f);exact adj J.fz O (c.get f) c.hd n br (OC eo) (h u _ (J.tok _) eo)
theorem Ag (J:Inv X aa σ H s) (e:H a=some (.ins C ao aK)) (c:gP X.K C) (k:fE X.K C m g) (l:aK.lookup m=none)
  (h:Q (.ref g,[.ref a]) s):wpAny (model X.prog X.w) A (getMethod (.ref a) m pl) Q E s:=by
 obtain ⟨dR,O,r,_,_,_⟩:=uV J.a4 e;have aY:dR m=none:=hr.none_of (by rw [<- l];exact r m);exact abG J.fz O (c.get m) k.at_ k.fn aY h
theorem UP (J:Inv X aa σ H s) (e:H a=some (.ins C ao aK)) (c:gP X.K C) (n:ac X.K C f) (aA:aK.length < 1000) (bg:bD y u)
  (h:∀ s',Inv X aa σ (upd H a (.ins C ao (c2 f y aK))) s'->Q () s'):wpAny (model X.prog X.w) A (setAttr (.ref a) f u) Q E s:=by
 obtain ⟨dR,O,r,gC,_,aQ⟩:=uV J.a4 e;have aJ:(aK.map (·.1)).length <= sizeLine:=by rw [a0,sizeLine_eq];omega
 refine aiJ J.fz O c.aU c.po n.ae3 c.hd gC aJ fun h' Mp oh=>h _ ?_
 have hd:∃ o,h'.get? ao=some o:=let ⟨o,_,_,bQ,_⟩:=Mp.ns;⟨o,bQ⟩;refine J.write (x:=a) (e:=ao) (by rw [e];exact iu) (.inr aQ) (fun b q ab z=>(oh.2 b ab).trans z) hd ?_;refine ⟨by rw [aH O.ne];exact aQ,?_,O.ne,Mp.obj,_,Mp.ns,fun g=>?_,fun g a5=>?_⟩
 .have:=Ek f y aK;omega
 .show hr ((c2 f y aK).lookup g) (if g=f then some u else dR g);rw [RS];by_cases q:g=f
  .rw [if_pos q,if_pos q];exact bg
  .rw [if_neg q,if_neg q];exact r g
 .by_cases q:g=f
  .rw [q];exact (D1 f y aK).1
  .refine (D1 f y aK).2 g (gC g fun z=>a5 ?_);show (if g=f then some u else dR g)=none;rw [if_neg q];exact z
theorem Inv.made (J:Inv X aa σ H s):Inv X aa σ (upd (upd H s.heap.objs.size (.own (s.heap.objs.size + 1))) (s.heap.objs.size + 1) (.ins C s.heap.objs.size []))
  { s with heap:=(s.heap.push j1).push (q8 C s.heap.objs.size) }:=by
 have aq:(s.heap.push j1).get? s.heap.objs.size=some j1:=hc s.heap rfl;have aD:((s.heap.push j1).push (q8 C s.heap.objs.size)).get? (s.heap.objs.size + 1)=some (q8 C s.heap.objs.size):=by
  have:=hc (s.heap.push j1) (o:=q8 C s.heap.objs.size) rfl;rwa [R3] at this
 have bL:(s.heap.push j1).Ns s.heap.objs.size (fun _=>none):=⟨j1,#[],_,aq,rfl,(fun e he=>absurd he (by simp)),fun _=>rfl⟩;have aN:=J.laid (a:=s.heap.objs.size) (o:=.own (s.heap.objs.size + 1)) (h':=s.heap.push j1) (t':=s.toks) (fun b u q=>dE _ q) (bW _) ⟨_,aq⟩;refine aN.laid (a:=s.heap.objs.size + 1) (o:=.ins C s.heap.objs.size []) (t':=s.toks) (fun b u q=>dE _ q) (AV (R3 _ _)) ?_;have ne:s.heap.objs.size ≠ s.heap.objs.size + 1:=fR (Lg _);refine ⟨by rw [aH ne,aX],fC _,ne,aD,fun _=>none,(afm bL).at fun o q=>dE _ q,fun _=>iu,fun y bh=>absurd rfl bh⟩
theorem QF {prog:Program} {w:World} {env:Env} {e:Expr} (ab:attributeBase e f env (eval e env)=eval e env)
  (h:wpAny (model prog w) A (eval e env) (fun o dd=>wpAny (model prog w) A (getAttr o f true) Q E dd) E s):wpAny (model prog w) A (eval (.Attribute e f pos) env) Q E s:=
 Attribute_any_ h (by rw [arm_eval_Attribute,ab])
end
def fQ (K:a_) (H:au) (a:Addr) (f:Str) (v:V):Prop:=∃ C ao aK,H a=some (.ins C ao aK)/\gP K C/\ac K C f/\aK.lookup f=some v
noncomputable def Mv (K:a_) (a7:TE) (f:Str):TE:=fun σ H Q=>a7 σ H fun x H1=>fa x fun a=>∃ v,fQ K H1 a f v/\Q v H1
noncomputable def BT (K:a_) (a7 e3:TE) (f:Str):dF:=fun D σ H=>e3 σ H fun y H1=>a7 σ H1 fun x aw=>fa x fun a=>∃ C ao aK,aw a=some (.ins C ao aK)/\gP K C/\ac K C f/\aK.length < 1000 /\
 D.b2 σ (upd aw a (.ins C ao (c2 f y aK)))
def wT (X:a3) (op:Operator) (kc:V->V->au->cJ->Prop):Prop:=
 ∀ (aa:List (Addr × Obj)) (s:Shared) (σ:St) (H:au) (x y:V) (u v:Value) (Q:cJ),Inv X aa σ H s->bD x u->bD y v->kc x y H Q->wpAny (model X.prog X.w) X.A (inplaceOp op u v) (f7 X aa σ Q) X.du s
noncomputable def Tz (K:a_) (a7 e3:TE) (kc:V->V->au->cJ->Prop) (f:Str):dF:=fun D σ H=>a7 σ H fun x H1=>∃ a C ao aK v,x=.ref a/\H1 a=some (.ins C ao aK)/\gP K C/\ac K C f/\aK.lookup f=some v /\
 e3 σ H1 fun y aw=>kc v y aw fun z bw=>∃ hk l1,bw a=some (.ins C hk l1)/\l1.length < 1000/\D.b2 σ (upd bw a (.ins C hk (c2 f z l1)))
section
variable {X:a3} {o e value:Expr} {f:Str} {pos pos' vT:Pos} {a7 e3:TE}
theorem bB (he:bp X e a7) (ab:attributeBase e f X.env (eval e X.env)=eval e X.env):bp X (.Attribute e f pos) (Mv X.K a7 f):=by
 intro aa s σ H Q J h;refine QF ab (bA (he aa s σ H _ J h) fun u s1 b4=>ea b4 fun x H1 aN bb gv=>?_);obtain ⟨a,ex,v,⟨C,ao,aK,ei,c,n,l⟩,q⟩:=fa.out gv;subst ex;obtain rfl:u=dz a:=bb;exact WG aN ei c n l fun oa s2 bu eo=>⟨v,H1,bu,eo,q⟩
theorem e6 (aO:bp X o a7) (aF:bp X value e3) (ay:swapsWith value (some (.Attribute o f pos')) pos.line X.env=pure false):gJ X (.Assign [.Attribute o f pos'] value pos) (BT X.K a7 e3 f):=by
 intro aa s σ H D J h;refine plainObj_wpAny_Assign_Attribute (bA (aF aa s σ H _ J h) fun u s1 b4=>ea b4 fun y H1 aN bg q=>bA (aO aa s1 σ H1 _ aN q) fun d0 s2 b4=>ea b4 fun x aw bu bb gv=>?_) ay;obtain ⟨a,ex,C,ao,aK,ei,c,n,l,dn⟩:=fa.out gv;subst ex;obtain rfl:d0=dz a:=bb;exact UP bu ei c n l bg fun s3 ed=>⟨σ,_,ed,dn⟩
theorem Jb {kc:V->V->au->cJ->Prop} (aO:bp X o a7) (aF:bp X value e3) (Xa:wT X op kc):gJ X (.AugAssign (.Attribute o f vT) op value pos) (Tz X.K a7 e3 kc f):=by
 intro aa s σ H D J h;refine wpAny_AugAssign_AttributeAny (bA (aO aa s σ H _ J h) fun d0 s1 cF=>?_);obtain ⟨x,H1,aN,bb,a,C,ao,aK,v,ex,ei,c,n,l,q⟩:=cF;subst ex;obtain rfl:d0=dz a:=bb;refine WG aN ei c n l fun u s2 bu eo=>bA (aF aa s2 σ H1 _ bu q) fun hx s3 b4=>ea b4 fun y aw ed bg fJ=>bA (Xa aa s3 σ aw v y u hx _ ed eo bg fJ) fun g0 s4 cF=>?_
 obtain ⟨z,bw,hB,I5,hk,l1,IG,l',v7⟩:=cF;exact UP hB IG c n l' I5 fun s5 wY=>⟨σ,_,wY,v7⟩
noncomputable def KS:V->V->au->cJ->Prop:=fun x y H Q=>∃ i j,x=.int i/\y=.int j/\Q (.int (i + j)) H
theorem F_:wT X .Add KS:=by
 rintro aa s σ H x y u v Q J bb bg ⟨i,j,rfl,rfl,q⟩;obtain ⟨t,rfl⟩:=(show ∃ t,u=mN i t from bb);obtain ⟨t',rfl⟩:=(show ∃ t',v=mN j t' from bg);exact aok ⟨.int (i + j),H,J.tok _,⟨_,rfl⟩,q⟩
end
section
variable {X:a3} {aa:List (Addr × Obj)} {σ:St} {H:au} {s:Shared} {A:Around} {E:Value->Shared->Prop} {Q:Value->Shared->Prop} {c:Value} {b:Bool}
inductive mh (K:a_) (H:au):V->Value->Prop where
 | bO:mh K H .bO (.type "NoneType")
 | bo (x:Bool):mh K H (.bo x) (.type "bool")
 | int (i:Int):mh K H (.int i) (.type "int")
 | str (x:Str):mh K H (.str x) (.type "str")
 | sQ (x:UInt64):mh K H (.sQ x) (.type "float")
 | lst {a:Addr} {xs:List V} (e:H a=some (.lst xs)):mh K H (.ref a) (.type "list")
 | d6 {a:Addr} {o:Obj} {xs:List V} (e:H a=some (.d6 o (.lst xs))):mh K H (.ref a) (.type "list")
 | tup {a:Addr} {xs:List V} (e:H a=some (.tup xs)):mh K H (.ref a) (.type "tuple")
 | bx {a:Addr} {kvs:List (Key × V)} (e:H a=some (.bx kvs)):mh K H (.ref a) (.type "dict")
 | f9 {a:Addr} {kvs:List (List Key × V)} (e:H a=some (.f9 kvs)):mh K H (.ref a) (.type "dict")
 | ins {a C ao:Addr} {aK:List (Str × V)} (e:H a=some (.ins C ao aK)) (cl:gP K C) (aO:dm K (.ref C) "__class__"=some (some (.builtin "object.__class__")))
   (aY:sP K (.builtin "object.__class__") "__get__"=some (some (.builtin "getset_descriptor.__get__"))) (zj:F9 K (.builtin "object.__class__")=some true)
   (hm:w8 K C (.type "object")=some true):mh K H (.ref a) (.ref C)
end
structure dX (k:Nat) (A:Around):Prop where
 hd:A.handled=none
 ej:A.depth + 3 * k + 5 < recursionLimit
 un:A.units + 16 * k + 200 < cLine
theorem dX.mono {j k:Nat} {A:Around} (r:dX k A) (h:j <= k):dX j A:=⟨r.hd,by have:=r.ej;omega,by have:=r.un;omega⟩
theorem dX.deeper {k:Nat} {A:Around} (r:dX (k + 1) A) (env:Env):dX k (A.deeper env):=
 ⟨r.hd,by have:=r.ej;show A.depth + 1 + 3 * k + 5 < _;omega,by have:=r.un;show A.units + 3 + 16 * k + 200 < _;omega⟩
theorem dX.in1 {k:Nat} {A:Around} (r:dX (k + 1) A):dX k A.in1:=
 ⟨r.hd,by have:=r.ej;show A.depth + 3 * k + 5 < _;omega,by have:=r.un;show A.units + 1 + 16 * k + 200 < _;omega⟩
theorem UF {A:Around}:(A.under (.builtin "type.__call__" ⟨.ref C :: us,kw⟩)).depth=A.depth + 1:=by
 first | rfl | simp [QI,Code.weight,Code.isCreation,Code.isGuard,Code.isCaller,aa8,Nr,guardIds]
theorem amq {A:Around}:(A.under (.builtin "type.__call__" ⟨.ref C :: us,kw⟩)).units=A.units + 1:=by
 first | rfl | simp [QI,Code.cUnits,aa8,Nr]
theorem dX.make {k:Nat} {A:Around} (r:dX (k + 1) A) (C:Addr) (us:List Value) (kw:List (Str × Value)):dX k (A.under (.builtin "type.__call__" ⟨.ref C :: us,kw⟩)):=
 ⟨r.hd,by have:=r.ej;rw [UF];omega,by have:=r.un;rw [amq];omega⟩
theorem dX.depth {k:Nat} {A:Around} (r:dX k A):A.depth < recursionLimit:=by have:=r.ej;omega
theorem dX.units {k:Nat} {A:Around} (r:dX k A):A.units + 64 < cLine:=by have:=r.un;omega
noncomputable def wR:e_:=fun _ H Q=>Q [] H
noncomputable def EB (a7:TE) (i0:e_):e_:=fun σ H Q=>a7 σ H fun x H1=>i0 σ H1 fun xs aw=>Q (x :: xs) aw
section
variable {X:a3} {e:Expr} {aV:List Expr} {bJ:TE} {t:e_} {pos:Pos}
theorem aE:iY X [] wR:=fun _ _ _ _ H Q J h=>Y' ⟨[],H,J,.nil,h⟩
theorem ai (aO:bp X e bJ) (ak:iY X aV t) (ay:starEach (e :: aV) X.env=(false,eval e X.env) :: starEach aV X.env:=by rfl):iY X (e :: aV) (EB bJ t):=by
 intro pos aa s σ H Q J h;rw [ay];show wpAny _ _ (spliced ((false,eval e X.env) :: backTo pos (starEach aV X.env))) _ _ s;refine Rd (bA (aO aa s σ H _ J h) fun u s1 b4=>ea b4 fun x H1 aN cE bS=>?_);exact bA (ak pos aa s1 σ H1 _ aN bS) fun us s2 ⟨xs,aw,bu,fW,dn⟩=>⟨x :: xs,aw,bu,.cons cE fW,dn⟩
noncomputable def FJ (t:e_):TE:=fun σ H Q=>t σ H fun xs H1=>xs.length <= sizeLine/\∀ p,H1 p=none->Q (.ref p) (upd H1 p (.tup xs))
noncomputable def JR (t:e_):TE:=fun σ H Q=>t σ H fun xs H1=>xs.length <= sizeLine/\∀ p,H1 p=none->Q (.ref p) (upd H1 p (.lst xs))
theorem ls {b3} (h:iY X aV t):bp X (.Tuple aV b3 pos) (FJ t):=by
 intro aa s σ H Q J aI;refine wpAny_Tuple_spliced (bA (h pos aa s σ H _ J aI) fun us s1 ⟨xs,H1,aN,r,z,q⟩=>⟨by rw [<- r.length];exact z,?_⟩);have hf:H1 s1.heap.objs.size=none:=aN.a4.fresh (bW _);refine ⟨.ref s1.heap.objs.size,upd H1 s1.heap.objs.size (.tup xs),aN.laid (t':=s1.toks) (fun b u e=>dE _ e) (bW _) ?_,rfl,q _ hf⟩;exact ⟨z,us,r,⟨_,hc _ rfl,rfl,_,rfl⟩⟩
theorem ha (h:iY X aV t):bp X (.List aV pos) (JR t):=by
 intro aa s σ H Q J aI;refine wpAny_List_spliced (bA (h pos aa s σ H _ J aI) fun us s1 ⟨xs,H1,aN,r,z,q⟩=>⟨by rw [<- r.length];exact z,?_⟩);have hf:H1 s1.heap.objs.size=none:=aN.a4.fresh (bW _);refine ⟨.ref s1.heap.objs.size,upd H1 s1.heap.objs.size (.lst xs),aN.laid (t':=s1.toks) (fun b u e=>dE _ e) (bW _) ?_,rfl,q _ hf⟩;exact ⟨z,us,0,r,hc _ rfl⟩
end
noncomputable abbrev bP:=List V->au->cJ->dZ->Prop
noncomputable abbrev jc:=List Env->au->Shared->dZ->Value->Shared->Prop
structure mO (P:Program) (w:World) (K:a_) (mg:Str->Option Value) (base:Heap) (A:Around) (outer:List Env) (s:Shared) (H:au):Prop where
 frames:A.frames=some outer
 mod:Mod K mg base
 bs:∀ b o,base.get? b=some o->s.heap.get? b=some o/\H b=none
 jP:base.objs.size <= s.heap.objs.size
 jL:s.heap.FunFrames base outer
 l7:∀ b ∈ h_ outer,H b=none
 a4:eh P w H s.heap
 bare:AllBare s.gens
def Lk (outer:List Env) (P:Program) (w:World) (H:au) (s:Shared) (Q:cJ) (u:Value) (s':Shared):Prop:=
 ∃ v I,s'.os=s.os/\AllBare s'.gens/\eJ (h_ outer) [] H I s.heap s'.heap/\eh P w I s'.heap/\bD v u/\Q v I
def J8 (CX:jc) (outer:List Env) (P:Program) (w:World) (H:au) (s:Shared) (Q:cJ) (E:dZ) (r:Result) (s':Shared):Prop:=
 match r with
 | .ok (.ret u)=>Lk outer P w H s Q u s'
 | .ok _=>False
 | .error e=>CX outer H s E e s'
structure b_ (P:Program) (w:World) (K:a_) (mg:Str->Option Value) (base:Heap) (CX:jc) (k:Nat) (f:Addr) (fd:FuncData) (ps:List Str) (sp:bP):Prop where
 len:∀ vs H Q E,sp vs H Q E->vs.length=ps.length
 run:∀ (A:Around) (outer:List Env) (s:Shared) (H:au) (args:Args) (us:List Value) (vs:List V) (Q:cJ) (E:dZ),dX k A->mO P w K mg base A outer s H->BindsTo s fd args (ps.zip us)->bU vs us->sp vs H Q E ->
  codeAny (model P w) A (.call (.ref f) args) (J8 CX outer P w H s Q E) s
theorem b_.mono {w:World} {K:a_} {mg:Str->Option Value} {base:Heap} {j k:Nat} {fd:FuncData} (F:b_ P w K mg base CX j f fd ps sp) (h:j <= k) :
  b_ P w K mg base CX k f fd ps sp:=⟨F.len,fun A outer s H args us vs Q E ak=>F.run A outer s H args us vs Q E (ak.mono h)⟩
theorem b_.imp {w:World} {K:a_} {mg:Str->Option Value} {base:Heap} {k:Nat} {fd:FuncData} (F:b_ P w K mg base CX k f fd ps sp)
  (h:∀ vs H Q E,yx vs H Q E->sp vs H Q E):b_ P w K mg base CX k f fd ps yx:=
 ⟨fun vs H Q E q=>F.len vs H Q E (h _ _ _ _ q),fun A outer s H args us vs Q E ak he ab aF ay=>F.run A outer s H args us vs Q E ak he ab aF (h _ _ _ _ ay)⟩
theorem mO.make {w:World} {K:a_} {mg:Str->Option Value} {base:Heap} {A:Around} {outer:List Env} (e:mO P w K mg base A outer s H) (C:Addr) (us:List Value) (kw:List (Str × Value)) :
  mO P w K mg base (A.under (.builtin "type.__call__" ⟨.ref C :: us,kw⟩)) outer s H:=⟨by first | exact e.frames | (simpa [QI,Code.envs,Nr,pushEnvs] using e.frames),e.mod,e.bs,e.jP,e.jL,e.l7,e.a4,e.bare⟩
theorem mO.in1 {w:World} {K:a_} {mg:Str->Option Value} {base:Heap} {A:Around} {outer:List Env} (e:mO P w K mg base A outer s H) :
  mO P w K mg base A.in1 outer s H:=⟨e.frames,e.mod,e.bs,e.jP,e.jL,e.l7,e.a4,e.bare⟩
section
variable {X:a3} {aa:List (Addr × Obj)} {σ:St} {H:au} {s s':Shared}
theorem Inv.DI (J:Inv X aa σ H s):mO X.prog X.w X.K X.mg X.base X.A X.stack s H:=
 ⟨J.ok.frames,J.ok.mod,J.bs,cP J.ok.jP J.kO,J.stack,J.xt,J.a4,J.bare⟩
theorem Inv.after (J:Inv X aa σ H s) (h:Lk X.stack X.prog X.w H s Q u s'):f7 X aa σ Q u s':=by
 obtain ⟨v,I,os,bare,un,a4,r,q⟩:=h;obtain ⟨de,g,d,t,ain⟩:=s';obtain rfl:ain=s.os:=os;exact ⟨v,I,J.call (h':=de) (g':=g) (d':=d) (t':=t) (ch:=[]) un a4 bare (fun b z=>absurd z (by simp)),r,q⟩
end
noncomputable def vK (sp:bP) (dvs:List V) (E:dZ) (t:e_):TE:=fun σ H Q=>t σ H fun vs H1=>sp (vs ++ dvs) H1 Q E
noncomputable def LH (C:Addr) (m:Str) (sp:bP) (dvs:List V) (E:dZ) (a7:TE) (t:e_):TE:=fun σ H Q=>a7 σ H fun x H1=>fa x fun a=>∃ ao aK,H1 a=some (.ins C ao aK)/\aK.lookup m=none /\
 t σ H1 fun vs aw=>sp (x :: (vs ++ dvs)) aw Q E
noncomputable def PP (C:Addr) (sp:bP) (dvs:List V) (E:dZ) (t:e_):TE:=fun σ H Q=>t σ H fun vs H1=>∀ x ao,H1 x=none->H1 ao=none->ao ≠ x ->
 sp (.ref x :: (vs ++ dvs)) (upd (upd H1 ao (.own x)) x (.ins C ao [])) (fun v aw=>v=.bO/\Q (.ref x) aw) E
def bY (K:a_) (fd:FuncData) (ps:List Str) (ds:List Value):Prop:=
 ∀ (s:Shared) (us:List Value),K.In s.heap->(us ++ ds).length=ps.length->BindsTo s fd ⟨us,[]⟩ (ps.zip (us ++ ds))
theorem bY.all {K:a_} {fd:FuncData} (h:∀ us:List Value,us.length=ps.length->bindArgs fd ⟨us,[]⟩=pure (ps.zip us)):bY K fd ps []:=fun s us _ aA=>by
 rw [ur] at aA ⊢;exact .of_eq (h us aA)
def n3 (CX:jc) (X:a3) (E:dZ):Prop:=∀ (aa:List (Addr × Obj)) (σ:St) (H:au) (s:Shared) (e:Value) (s':Shared),Inv X aa σ H s->CX X.stack H s E e s'->X.du e s'
section
variable {X:a3} {CX:jc} {k:Nat} {f C:Addr} {fd:FuncData} {ps:List Str} {sp:bP} {dvs:List V} {ds:List Value} {E:dZ} {x m:Str} {p pos eT:Pos} {e o:Expr} {aV:List Expr} {a7:TE} {t:e_}
theorem xZ (F:b_ X.prog X.w X.K X.mg X.base CX k f fd ps sp) (ak:dX k X.A) (ab:bY X.K fd ps ds) (hd:bU dvs ds) (ag:n3 CX X E)
  (J:Inv X aa σ H s) (r:bU vs us) (h:sp (vs ++ dvs) H Q E):wpAny (model X.prog X.w) X.A (call (.ref f) us) (f7 X aa σ Q) X.du s:=by
 have fW:bU (vs ++ dvs) (us ++ ds):=r.append hd;have aA:(us ++ ds).length=ps.length:=by rw [<- fW.length];exact F.len _ _ _ _ h
 refine wpAny_call (codeAny_mono (F.run X.A X.stack s H ⟨us,[]⟩ (us ++ ds) (vs ++ dvs) Q E ak J.DI (ab s us J.fz aA) fW h) fun r s' aI=>?_);cases r with
 | error e=>exact ag aa σ H s e s' J aI
 | ok cR=>
  cases cR with
  | ret u=>exact J.after aI
  | next=>exact hP aI
  | brk=>exact hP aI
  | cont=>exact hP aI
theorem aep (F:b_ X.prog X.w X.K X.mg X.base CX k f fd ps sp) (ak:dX k X.A) (a5:j7 X x) (hm:X.mg x=some (.ref f)) (aC:qr X.K (.ref f)=true) (ab:bY X.K fd ps ds) (hd:bU dvs ds) (ag:n3 CX X E)
  (aO:iY X (e :: aV) t) (i6:(x == ("__debug__" : Str))=false:=by decide) (he:starEach (e :: aV) X.env=(false,eval e X.env) :: starEach aV X.env:=by rfl) (cO:(backTo pos (starEach aV X.env)).any (·.1)=false:=by rfl) :
  bp X (.Call (.Name x p) (e :: aV) [] pos) (vK sp dvs E t):=by
 intro aa s σ H Q J h;refine wpAny_Call_Name_kw (sa J a5 hm ?_ i6);refine vG (h₀:=X.base) J.ok.mod.qA aC (bA (aO pos aa s σ H _ J h) fun us s1 ⟨vs,H1,aN,r,q⟩=>⟨aN.fz,?_⟩) he cO;exact xZ F ak ab hd ag aN r q
theorem eX (he:bp X o a7) (c:gP X.K C) (hm:fE X.K C m f) (F:b_ X.prog X.w X.K X.mg X.base CX k f fd ps sp) (ak:dX k X.A) (ab:bY X.K fd ps ds) (hd:bU dvs ds) (ag:n3 CX X E) (aO:iY X (e :: aV) t)
  (fO:starEach (e :: aV) X.env=(false,eval e X.env) :: starEach aV X.env:=by rfl) (cO:(backTo pos (starEach aV X.env)).any (·.1)=false:=by rfl)
  (cK:eval (.Call (.Attribute o m eT) (e :: aV) [] pos) X.env=(do
   let d0 <- eval o X.env
   standAt eT.atName
   let (f,first) <- holding [d0] (getMethod d0 m pl)
   callWith pos f first (backTo pos (starEach (e :: aV) X.env)) (backToKw pos (keywordEach [] X.env))):=by rfl) :
  bp X (.Call (.Attribute o m eT) (e :: aV) [] pos) (LH C m sp dvs E a7 t):=by
 intro aa s σ H Q J h;refine yk (pl:=pl) (bA (he aa s σ H _ J h) fun u s1 b4=>ea b4 fun x H1 aN bb gv=>?_) cK;obtain ⟨a,ex,ao,aK,ei,l,q⟩:=fa.out gv;subst ex;obtain rfl:u=dz a:=bb;refine Ag aN ei c hm l ?_;refine vG (first:=[.ref a]) (h₀:=X.base) J.ok.mod.qA hm.bH (bA (aO pos aa s1 σ H1 _ aN q) fun us s2 ⟨vs,aw,bu,r,dn⟩=>⟨bu.fz,?_⟩) fO cO;exact xZ (us:=.ref a :: us) (vs:=.ref a :: vs) F ak ab hd ag bu (.cons rfl r) dn
theorem gc (he:bp X o a7) (c:gP X.K C) (hm:fE X.K C m f) (F:b_ X.prog X.w X.K X.mg X.base CX k f fd ps sp) (ak:dX k X.A) (ab:bY X.K fd ps ds) (hd:bU dvs ds) (ag:n3 CX X E)
  (cK:eval (.Call (.Attribute o m eT) [] [] pos) X.env=(do
   let d0 <- eval o X.env
   standAt eT.atName
   let (f,first) <- holding [d0] (getMethod d0 m pl)
   callWith pos f first (backTo pos (starEach [] X.env)) (backToKw pos (keywordEach [] X.env))):=by rfl) :
  bp X (.Call (.Attribute o m eT) [] [] pos) (LH C m sp dvs E a7 wR):=by
 intro aa s σ H Q J h;refine yk (pl:=pl) (bA (he aa s σ H _ J h) fun u s1 b4=>ea b4 fun x H1 aN bb gv=>?_) cK;obtain ⟨a,ex,ao,aK,ei,l,q⟩:=fa.out gv;subst ex;obtain rfl:u=dz a:=bb;refine Ag aN ei c hm l ?_;exact Yg (first:=[.ref a]) aN.fz hm.bH (xZ (us:=[.ref a]) (vs:=[.ref a]) F ak ab hd ag aN (.cons rfl .nil) q)
structure o3 (K:a_) (C f:Addr):Prop where
 makes:aaW K C=true
 init:dm K (.ref C) "__init__"=some (some (.ref f))
 fn:GY K (.ref f)=true
 bH:qr K (.ref C)=true
theorem aaM (M:o3 X.K C f) (F:b_ X.prog X.w X.K X.mg X.base CX k f fd ps sp) (ak:dX (k + 1) X.A) (ab:bY X.K fd ps ds) (hd:bU dvs ds)
  (ag:n3 CX X E) (J:Inv X aa σ H s) (r:bU vs us)
  (h:∀ x ao,H x=none->H ao=none->ao ≠ x->sp (.ref x :: (vs ++ dvs)) (upd (upd H ao (.own x)) x (.ins C ao [])) (fun v aw=>v=.bO/\Q (.ref x) aw) E) :
  wpAny (model X.prog X.w) X.A (call (.ref C) us) (f7 X aa σ Q) X.du s:=by
 have aI:=h (s.heap.objs.size + 1) s.heap.objs.size (J.a4.fresh (v_ _)) (J.a4.fresh (bW _)) (fR (Lg _));have bu:=Inv.made (C:=C) J;have fW:bU (V.ref (s.heap.objs.size + 1) :: (vs ++ dvs)) (dz (s.heap.objs.size + 1) :: (us ++ ds)):=.cons rfl (r.append hd);have aA:(dz (s.heap.objs.size + 1) :: us ++ ds).length=ps.length:=by
  have e:=fW.length;rw [F.len _ _ _ _ aI] at e;exact e.symm
 refine wpAny_call (adT (f:=f) J.fz M.makes M.init (beq_iff_eq.mp M.fn) (codeAny_mono (F.run _ X.stack _ _ ⟨dz (s.heap.objs.size + 1) :: us,[]⟩ (dz (s.heap.objs.size + 1) :: (us ++ ds)) _ _ E (ak.make C us [])
  (bu.DI.make C us []) (ab _ (dz (s.heap.objs.size + 1) :: us) bu.fz aA) fW aI) fun r s' iL=>?_))
 cases r with
 | error e=>exact ag aa σ _ _ e s' bu iL
 | ok cR=>
  cases cR with
  | ret u=>
   obtain ⟨v,I,ed,cG,ev,fJ⟩:=bu.after iL;subst ev;exact ⟨cG,⟨V.ref (s.heap.objs.size + 1),I,ed,rfl,fJ⟩⟩
  | next=>exact hP iL
  | brk=>exact hP iL
  | cont=>exact hP iL
theorem rX (M:o3 X.K C f) (F:b_ X.prog X.w X.K X.mg X.base CX k f fd ps sp) (ak:dX (k + 1) X.A) (a5:j7 X x) (hm:X.mg x=some (.ref C)) (ab:bY X.K fd ps ds) (hd:bU dvs ds) (ag:n3 CX X E)
  (aO:iY X (e :: aV) t) (i6:(x == ("__debug__" : Str))=false:=by decide) (he:starEach (e :: aV) X.env=(false,eval e X.env) :: starEach aV X.env:=by rfl) (cO:(backTo pos (starEach aV X.env)).any (·.1)=false:=by rfl) :
  bp X (.Call (.Name x p) (e :: aV) [] pos) (PP C sp dvs E t):=by
 intro aa s σ H Q J h;refine wpAny_Call_Name_kw (sa J a5 hm ?_ i6);refine vG (h₀:=X.base) J.ok.mod.qA M.bH (bA (aO pos aa s σ H _ J h) fun us s1 ⟨vs,H1,aN,r,q⟩=>⟨aN.fz,?_⟩) he cO;exact aaM M F ak ab hd ag aN r q
end
section
variable {X:a3} {CX:jc} {k:Nat} {f C:Addr} {fd:FuncData} {ps cb:List Str} {sp:bP} {E:dZ} {x m:Str} {p pos eT aoM:Pos} {e o:Expr} {aV:List Expr} {ao2:List Keyword} {bJ a7:TE} {t tk:e_} {nm:Option Str}
structure amV (K:a_) (fd:FuncData) (ps cb:List Str) (g:List Value->List Value->List Value) (Qb:List V->List V->List V):Prop where
 to:∀ (s:Shared) (us ws:List Value),K.In s.heap->(g us ws).length=ps.length->BindsTo s fd ⟨us,cb.zip ws⟩ (ps.zip (g us ws))
 rel:∀ {vs:List V} {us:List Value} {zs:List V} {ws:List Value},bU vs us->bU zs ws->bU (Qb vs zs) (g us ws)
variable {g:List Value->List Value->List Value} {Qb:List V->List V->List V}
end
structure ck (N P:List Str) (sc:Scope):Prop where
 kind:sc.kind=.function
 co:sc.isCoroutine=false
 gen:sc.isGenerator=false
 aG:N.Nodup
 pre:N.take P.length=P
 par:∀ x ∈ P,sc.names.lookup x=some .local\/sc.names.lookup x=some .cell
 ajI:∀ y ∈ sc.names,y.2 ≠ .free
theorem VK {kindOf:Str->Option NameKind} {x:Str}:∀ {binds:List (Str × Value)} {m:Str->Option Value},(∀ v,(x,v) ∉ binds)->bindL kindOf binds m x=m x
 | [],_,_=>rfl
 | (n,v) :: r,m,h=>by
  unfold bindL;rw [VK fun w hw=>h w (hS _ hw)];split
  .have:x ≠ n:=by rintro rfl;exact h v lp
   simp [this]
  .rfl
theorem Wx {kindOf:Str->Option NameKind} {x:Str}:∀ {binds:List (Str × Value)} {m:Str->Option Value},(∀ v,(x,v) ∉ binds)->bindC kindOf binds m x=m x
 | [],_,_=>rfl
 | (n,v) :: r,m,h=>by
  unfold bindC;rw [Wx fun w hw=>h w (hS _ hw)];split
  .rfl
  .have:x ≠ n:=by rintro rfl;exact h v lp
   simp [this]
theorem Oo {kindOf:Str->Option NameKind} {x:Str} {v:Value}:∀ {P:List Str} {vs:List Value} {i:Nat} {m:Str->Option Value},P.Nodup->P[i]? = some x->vs[i]? = some v->kindOf x=some .local ->
  bindL kindOf (P.zip vs) m x=some v
 | [],_,_,_,_,h,_,_=>by simp at h
 | _ :: _,[],_,_,_,_,h,_=>by simp at h
 | p :: P,w :: vs,0,m,aG,af,aj,aC=>by
  simp at af aj;subst af;subst aj;show bindL kindOf ((p,w) :: P.zip vs) m p=_;unfold bindL;rw [VK fun v aF=>(qj.mp aG).1 (RN aF).1,if_pos aC];simp
 | p :: P,w :: vs,i + 1,m,aG,af,aj,aC=>by
  show bindL kindOf ((p,w) :: P.zip vs) m x=_;unfold bindL;exact Oo (i:=i) (qj.mp aG).2 (by simpa using af) (by simpa using aj) aC
theorem OO {kindOf:Str->Option NameKind} {x:Str} {v:Value}:∀ {P:List Str} {vs:List Value} {i:Nat} {m:Str->Option Value},P.Nodup->P[i]? = some x->vs[i]? = some v->kindOf x ≠ some .local ->
  bindC kindOf (P.zip vs) m x=some v
 | [],_,_,_,_,h,_,_=>by simp at h
 | _ :: _,[],_,_,_,_,h,_=>by simp at h
 | p :: P,w :: vs,0,m,aG,af,aj,aC=>by
  simp at af aj;subst af;subst aj;show bindC kindOf ((p,w) :: P.zip vs) m p=_;unfold bindC;rw [Wx fun v aF=>(qj.mp aG).1 (RN aF).1,if_neg aC];simp
 | p :: P,w :: vs,i + 1,m,aG,af,aj,aC=>by
  show bindC kindOf ((p,w) :: P.zip vs) m x=_;unfold bindC;exact OO (i:=i) (qj.mp aG).2 (by simpa using af) (by simpa using aj) aC
noncomputable def start (N:List Str) (vs:List V):St:=vs.map some ++ Et (N.length - vs.length) none
noncomputable def mr (CX:jc) (P:Program) (w:World) (K:a_) (mg:Str->Option Value) (base:Heap) (N:List Str) (qual:Str) (scope:Scope) (f:Addr) (cd:Value) (A:Around) (outer:List Env) (s:Shared) (H:au) (E:dZ):a3 where
 prog:=P
 w:=w
 K:=K
 mg:=mg
 base:=base
 A:=A.deeper (envOfC qual scope s.heap.objs.size f cd)
 N:=N
 fv:=s
 q5:=H
 env:=envOfC qual scope s.heap.objs.size f cd
 outer:=outer
 stack:=envOfC qual scope s.heap.objs.size f cd :: outer
 ex:=[]
 calm:=true
 fn:=fun _=>true
 dN:=[]
 du:=fun e s'=>wpAny (model P w) (A.deeper (envOfC qual scope s.heap.objs.size f cd)) (leaving (envOfC qual scope s.heap.objs.size f cd) e) (fun _ sF=>CX outer H s E e sF) (fun bQ sF=>CX outer H s E bQ sF) s'
theorem UB {sc:Scope} {n:Nat} {x:Str} (h:sc.names.lookup x=some .cell):∃ c,(cellsFrom n sc.names []).lookup x=some c:=by
 have q:=agP sc.names n [] (.inl h);exact Z7.mp q
theorem Zr {CX:jc} {P:Program} {w:World} {K:a_} {mg:Str->Option Value} {base:Heap} {N ps:List Str} {qual:Str} {scope:Scope} {f:Addr} {cd:Value} {A:Around} {outer:List Env} {s s1:Shared} {H:au} {E:dZ} {us:List Value} {vs:List V}
  (S:ck N ps scope) (hd:A.handled=none) (fD:mO P w K mg base A outer s H) (aA:vs.length=ps.length) (r:bU vs us)
  (x:InCallC s s.heap.objs.size (bindL (envOfC qual scope s.heap.objs.size f cd).kindOf (ps.zip us) fun _=>none) (cellsFrom (s.heap.objs.size + 1) scope.names []) (bindC (envOfC qual scope s.heap.objs.size f cd).kindOf (ps.zip us) fun _=>none) s1) :
  Inv (mr CX P w K mg base N qual scope f cd A outer s H E) [] (start N vs) H s1:=by
 have cO:ps.length <= N.length:=by have:=congrArg qH S.pre;rw [hE] at this;omega
 obtain ⟨af,tk,rfl,aC⟩:=x.done;have sd:∀ b:Addr,b ∉ (mr CX P w K mg base N qual scope f cd A outer s H E).ex:=fun b z=>absurd (show b ∈ ([]:List Addr) from z) (by simp)
 refine ⟨⟨fD.mod,S.kind,rfl,rfl,bW _,fun y z c af aj=>?_,fun y bh=>?_,fun y c _ h=>?_,fun _=>hd,alH fD.frames,.inr ⟨rfl,rfl⟩,fun b z=>absurd z (sd b),fD.bs,fD.jP,fun b _ _=>sd b,fun b z=>absurd z (sd b),fD.jL,fD.l7⟩,
  rfl,fD.bare,eJ.kept aC,⟨_,x.toInCall.ns,fun i y v af aj a'=>?_⟩,fun y c h=>⟨_,x.cell y c h⟩,fD.a4.fresh (bW _),fun y c h=>?_,fun p ar=>absurd (show p ∈ ([]:List (Addr × Obj)) from ar) (by simp),fD.a4.kept aC,?_⟩
 .exact name_of_addr x.apart (u6 af) (u6 aj)
 .have bh:scope.names.lookup y=some .cell\/scope.names.lookup y=some .free:=bh;rcases bh with bh | bh
  .exact UB bh
  .exact absurd rfl (S.ajI _ (u6 bh))
 .exact l3 (x.above y c (u6 h))
 .have ah:i < vs.length:=by
   unfold start at aj;by_cases ah:i < vs.length
   .exact ah
   .rw [sf (by simpa using ah)] at aj;rw [List.getElem?_replicate] at aj;split at aj <;> cases aj
  have aO:vs[i]? = some v:=by
   unfold start at aj;rw [tP (by simpa using ah),da] at aj;cases e:vs[i]? with
   | none=>rw [e] at aj;cases aj
   | some a=>rw [e] at aj;cases aj;rfl
  obtain ⟨u,br,cG⟩:=r.get aO;have ar:ps[i]? = some y:=by
   rw [<- S.pre,uS (by omega)];exact af
  have T4:ps.Nodup:=by rw [<- S.pre];exact S.aG.sublist (List.take_sublist _ _)
  refine ⟨u,cG,?_⟩;rcases S.par y (cH ar) with k | k
  .exact .inl ⟨k,Oo T4 ar br k⟩
  .obtain ⟨c,e⟩:=UB (n:=s.heap.objs.size + 1) k;refine .inr ⟨.inl k,c,e,?_⟩;have q:=x.cell y c e;rw [OO T4 ar br (by show scope.names.lookup y ≠ _;rw [k];decide)] at q;exact q
 .exact fD.a4.fresh (l3 (x.above y c (u6 h)))
 .unfold start;show _=N.length;rw [ec,a0,List.length_replicate];omega
theorem Mb {w:World} {K:a_} {mg:Str->Option Value} {base:Heap} {k:Nat} {name qual:Str} {BA cM doc pm eP eH md:Value}
 {N ps:List Str} (lk:K.lookup f=some ⟨md,bk,.func (we name qual params body scope BA cM doc pm an eP eH),qf⟩) (jG:VQ K eP qual=true) (S:ck N ps scope)
    (len:∀ vs H Q E,sp vs H Q E->vs.length=ps.length)
    (nv:∀ (A:Around) (outer:List Env) (s:Shared) (H:au) (vs:List V) (Q:cJ) (E:dZ),dX k (A.deeper (envOfC qual scope s.heap.objs.size f eP))->sp vs H Q E ->
      ∃ t,iR (mr CX P w K mg base N qual scope f eP A outer s H E) body t/\t { b2:=fun _ I=>Q .bO I,ku:=Q } (start N vs) H) :
    b_ P w K mg base CX (k + 1) f (we name qual params body scope BA cM doc pm an eP eH) ps sp:=by
  refine ⟨len,fun A outer s H args us vs Q E ak fD ab r mG=>?_⟩;have aA:=len _ _ _ _ mG;have e1:K.In s.heap:=fD.mod.qA.keeps fun b o e=>(fD.bs b o e).1
  have lim:s.heap.NoLimit:=fD.mod.nolimit.keeps fun b o e=>(fD.bs b o e).1
  have aiK:∀ y ∈ ps.zip us,scope.names.lookup y.1=some .local\/(scope.names.lookup y.1=some .cell/\((cellsFrom (s.heap.objs.size + 1) scope.names []).lookup y.1).isSome=true):=fun ⟨n,v⟩ bh=>by
    rcases S.par n (RN bh).1 with q | q
    · exact .inl q
    · exact .inr ⟨q,agP _ _ _ (.inl q)⟩
  refine codeAny_call_function ak.depth (e1 _ _ lk) rfl S.co S.gen rfl (PySem.W.codeRec_of e1 jG) (ab _ _ _ _ ?_);refine wpAny_newFunctionEnv_cells S.kind aiK fun env he s1 x=>?_
  subst he;refine ⟨lim.keeps x.toInCall.keep,codeAny_func ?_⟩;obtain ⟨t,cK,aI⟩:=nv A outer s H vs Q E (ak.deeper _) mG;have J:Inv (mr CX P w K mg base N qual scope f eP A outer s H E) [] (start N vs) H s1:=Zr S ak.hd fD aA r x;refine wpAny_mono (cK [] s1 (start N vs) H _ J aI) (fun cR s' ay=>?_) fun e s' ay=>ay
  have fin:∀ {ax:St} {I:au} {v:V} {u:Value},Inv (mr CX P w K mg base N qual scope f eP A outer s H E) [] ax I s'->bD v u->Q v I->Lk outer P w H s Q u s':=
    fun {ax I v u} bE cG q=>⟨v,I,bE.os,bE.bare,bE.base,bE.a4,cG,q⟩
  cases cR with
  | ret u=>
    obtain ⟨v,ax,I,bE,cG,q⟩:=ay;exact fin bE cG q
  | next=>
    obtain ⟨ax,I,bE,q⟩:=ay;exact fin (v:=V.bO) (u:=ic) bE rfl q
  | brk=>
    obtain ⟨_,_,_,q⟩:=ay;exact hP q
  | cont=>
    obtain ⟨_,_,_,q⟩:=ay;exact hP q
section
variable {X:a3} {x:Str} {p pos:Pos} {e:Expr} {aV:List Expr} {t:e_} {id T:String} {r:List V->au->cJ->Prop}
noncomputable def zu (r:List V->au->cJ->Prop) (t:e_):TE:=fun σ H Q=>t σ H fun vs H1=>r vs H1 Q
theorem gD (av:k7 X (.builtin id) r) (a5:j7 X x) (hm:X.mg x=none) (aF:bootBuiltins x=some (.builtin id)) (aO:iY X (e :: aV) t) (aY:x ≠ "__name__" := by decide) (i6:(x == ("__debug__" : Str))=false:=by decide)
  (he:starEach (e :: aV) X.env=(false,eval e X.env) :: starEach aV X.env:=by rfl) (cO:(backTo pos (starEach aV X.env)).any (·.1)=false:=by rfl):bp X (.Call (.Name x p) (e :: aV) [] pos) (zu r t):=by
 intro aa s σ H Q J h;refine wpAny_Call_Name_kw (wH J a5 hm aF ?_ aY i6);exact W6 (bA (aO pos aa s σ H _ J h) fun us s1 ⟨vs,H1,aN,cE,bS⟩=>av aa s1 σ H1 vs us Q aN cE bS) he cO
theorem lg (av:k7 X (.type T) r) (a5:j7 X x) (hm:X.mg x=none) (aF:bootBuiltins x=some (.type T)) (aO:iY X (e :: aV) t) (aY:x ≠ "__name__" := by decide) (i6:(x == ("__debug__" : Str))=false:=by decide)
  (he:starEach (e :: aV) X.env=(false,eval e X.env) :: starEach aV X.env:=by rfl) (cO:(backTo pos (starEach aV X.env)).any (·.1)=false:=by rfl):bp X (.Call (.Name x p) (e :: aV) [] pos) (zu r t):=by
 intro aa s σ H Q J h;refine wpAny_Call_Name_kw (wH J a5 hm aF ?_ aY i6);exact MI (bA (aO pos aa s σ H _ J h) fun us s1 ⟨vs,H1,aN,cE,bS⟩=>av aa s1 σ H1 vs us Q aN cE bS) he cO
end
end L2
namespace fZ
open PySem PyProof.Rows
section
open PySem.SeqAt
open PySem.AutoSeq1 (wpAny_loadPart')
open PySem.MeetsSeq PySem.MeetsSeq2 PySem.MeetsSeq3
end
section
variable {prog:Program} {w:World} {A:Around} {E:Value->Shared->Prop} {s:Shared}
noncomputable def dc (n d:Nat):Option Int->Nat
 | none=>d
 | some v=>if v < 0 then (v + (n:Int)).toNat else min v.toNat n
theorem amA (n d:Nat):dc n d none=d:=rfl
theorem amF (n d k:Nat):dc n d (some (k:Int))=min k n:=by
 show (if (k:Int) < 0 then ((k:Int) + (n:Int)).toNat else min (k:Int).toNat n)=min k n;rw [if_neg (by omega),qp]
theorem adi (n d:Nat) (hd:d <= n) (o:Option Int):dc n d o <= n:=by
 cases o with
 | none=>exact hd
 | some v=>
  show (if v < 0 then (v + (n:Int)).toNat else min v.toNat n) <= n;by_cases aF:v < 0
  .rw [if_pos aF];omega
  .rw [if_neg aF];exact Nat.min_le_right _ _
theorem T5 (v:Int) (n d:Nat):(if v < 0 then max (v + (n:Int)) 0 else min v (n:Int))=((dc n d (some v):Nat):Int):=by
 show (if v < 0 then max (v + (n:Int)) 0 else min v (n:Int))=(((if v < 0 then (v + (n:Int)).toNat else min v.toNat n):Nat):Int);by_cases aF:v < 0
 .simp only [if_pos aF];omega
 .simp only [if_neg aF];omega
theorem amw (lo ah:Option Int) (n:Nat):Pr lo ah 1 (n:Int)=(((dc n 0 lo:Nat):Int),((dc n n ah:Nat):Int)):=by
 have af:¬ ((1:Int) < 0):=by omega
 unfold Pr;simp only [af,if_false];refine Prod.ext ?_ ?_
 .cases lo with
  | none=>rfl
  | some v=>exact T5 v n 0
 .cases ah with
  | none=>rfl
  | some v=>exact T5 v n n
theorem agH (i j:Nat):G3 (i:Int) (j:Int) 1=j - i:=by
 unfold G3;have af:(1:Int) > 0:=by omega
 simp only [af,if_true,Int.ediv_one];split <;> omega
theorem Ud (p:IsPart v o) (h:Q o s):wpAny (model prog w) A (apg v) Q E s:=by
 cases p with
 | none=>exact slicePart_none h
 | int i t=>exact slicePart_int h
theorem ai1 {bt:Addr} {jF jy:Value} {lo ah:Option Int} {n:Nat} {Q:Int × Int × Nat->Shared->Prop} (ay:s.heap.IsSliceOf bt jF jy .none) (pl:IsPart jF lo) (pu:IsPart jy ah)
  (h:Q (((dc n 0 lo:Nat):Int),1,dc n n ah - dc n 0 lo) s):wpAny (model prog w) A (ZE (.ref bt) (pure (n:Int))) Q E s:=by
 obtain ⟨os,w_,QD,o2⟩:=id ay;unfold ZE anE;refine wpAny_bind (wpAny_bind (wpAny_field w_ o2 (x:=jF) rfl (wpAny_bind (wpAny_field w_ o2 (x:=jy) rfl (wpAny_bind (wpAny_field w_ o2 (x:=.none) rfl (wpAny_pure ?_)))))));refine wpAny_bind (slicePart_none ?_);show wpAny _ _ (if ((1:Int) == 0)=true then _ else _) _ _ s;rw [if_neg (by decide)];refine wpAny_bind (Ud pl (wpAny_bind (Ud pu (wpAny_bind (wpAny_pure ?_)))));show wpAny _ _ (match Pr lo ah 1 (n:Int) with | (lo,ah)=>pure (lo,(1:Int),G3 lo ah 1)) _ _ s;rw [amw lo ah n];show wpAny _ _ (pure (((dc n 0 lo:Nat):Int),(1:Int),G3 ((dc n 0 lo:Nat):Int) ((dc n n ah:Nat):Int) 1)) _ _ s;rw [agH];exact wpAny_pure h
theorem xL (xs:Array Value) (i k:Nat):((fF k).filterMap fun (m:Nat)=>xs[((i:Int) + (m:Int) * 1).toNat]?).toArray=((xs.toList.drop i).take k).toArray:=by
 have e:(fun (m:Nat)=>xs[((i:Int) + (m:Int) * 1).toNat]?)=fun m=>xs[i + m]?:=by
  funext m;have:((i:Int) + (m:Int) * 1).toNat=i + m:=by omega
  rw [this]
 rw [e];have:=pick_run xs i k;rw [List.filterMap_map] at this;have aD:((fun x=>xs[x]?) ∘ fun x=>i + x)=fun m=>xs[i + m]?:=rfl
 rw [aD] at this;rw [this]
theorem abQ {t bt:Addr} {items:Array Value} {jF jy:Value} {lo ah:Option Int} {Q:Value->Shared->Prop} (cK:IsTup s.heap t items) (ay:s.heap.IsSliceOf bt jF jy .none) (pl:IsPart jF lo) (pu:IsPart jy ah)
  (hw:¬ (dc items.size 0 lo=0/\dc items.size items.size ah=items.size))
  (h:Q (.ref s.heap.objs.size) { s with heap:=s.heap.push { cls:=.type "tuple",data:=.seq ((items.toList.drop (dc items.size 0 lo)).take (dc items.size items.size ah - dc items.size 0 lo)).toArray } })
  (hsz:items.size <= sizeLine):wpAny (model prog w) A (getItem (.ref t) (.ref bt)) Q E s:=by
 have zm:sizeOk (.seq ((items.toList.drop (dc items.size 0 lo)).take (dc items.size items.size ah - dc items.size 0 lo)).toArray):=by
  show ((items.toList.drop (dc items.size 0 lo)).take (dc items.size items.size ah - dc items.size 0 lo)).toArray.size <= sizeLine;rw [el,hE,sl,nt];omega
 have aM:dc items.size items.size ah <= items.size:=adi _ _ (bW _) ah;obtain ⟨os,w_,QD,o2⟩:=id ay;have aj':s.TypeIs (.ref bt) "slice" := ⟨os,w_,QD⟩;unfold getItem
 try with_reducible refine wpAny_holding ?_
 first | refine wpAny_bind (wpAny_pure ?_) | skip
 refine wpAny_bind (wpAny_sequenceKey cK.typeIs (by decide) ?_);refine wpAny_bind (wpAny_callSpecial?_slot (name:=ae "__getitem__") cK.typeIs Nw
  (wpAny_call_entry Nw cK.typeIs entry_tuple_getitem ?_ (args_tuple_getitem _ _)))
 show wpAny _ _ (anu (.ref t) >>= _) _ _ s;refine wpAny_bind (tupleItemsOf_ cK ?_);refine wpAny_bind (wpAny_typeOf aj' ?_);rw [if_pos (by decide)];refine wpAny_bind (ai1 ay pl pu ?_);have sD:¬ ((((dc items.size 0 lo:Nat):Int) == 0 && (1:Int) == 1 && (dc items.size items.size ah - dc items.size 0 lo) == items.size)=true):=by
  intro q;rw [iE,iE] at q;have bS:((dc items.size 0 lo:Nat):Int)=0:=eq_of_beq q.1.1;have dn:dc items.size items.size ah - dc items.size 0 lo=items.size:=eq_of_beq q.2;exact hw ⟨by omega,by omega⟩
 show wpAny _ _ (if (((dc items.size 0 lo:Nat):Int) == 0 && (1:Int) == 1 && (dc items.size items.size ah - dc items.size 0 lo) == items.size)=true then _ else _) _ _ s;rw [if_neg sD,xL]
 first
  | exact wpAny_bind (m:=EI _) (wpAny_newObj_type (wpAny_pure ⟨_,rfl,wpAny_pure h⟩) zm)
  | exact wpAny_bind (m:=EI _) (wpAny_newObj_type (wpAny_bind (wpAny_pure (wpAny_pure ⟨_,rfl,wpAny_pure h⟩))) zm)
  | exact wpAny_bind (wpAny_bind (m:=EI _) (wpAny_newObj_type (wpAny_pure (wpAny_pure ⟨_,rfl,wpAny_pure h⟩)) zm))
  | exact wpAny_bind (wpAny_bind (m:=EI _) (wpAny_newObj_type (wpAny_pure ⟨_,rfl,wpAny_pure h⟩) zm))
end
end fZ
namespace L2
open PySem PySem.Spec PyProof.Rows
noncomputable abbrev ym:=St->au->(Option Int->au->Prop)->Prop
def B0 (X:a3) (e:Option Expr) (t:ym):Prop:=
 ∀ (aa:List (Addr × Obj)) (s:Shared) (σ:St) (H:au) (Q:Option Int->au->Prop),Inv X aa σ H s->t σ H Q ->
  wpAny (model X.prog X.w) X.A (evalPart e X.env) (fun u s'=>∃ o I,Inv X aa σ I s'/\IsPart u o/\Q o I) X.du s
noncomputable def Hv:ym:=fun _ H Q=>Q none H
noncomputable def KR (t:TE):ym:=fun σ H Q=>t σ H fun x H1=>gK x fun i=>Q (some i) H1
section
variable {X:a3} {e:Expr} {bJ:TE} {lo ah:Option Expr} {cZ jE:ym} {pos eY:Pos}
theorem se:B0 X none Hv:=by
 intro aa s σ H Q J h;rw [evalPart_none];exact wpAny_pure ⟨none,H,J,.none,h⟩
theorem rU (h:bp X e bJ):B0 X (some e) (KR bJ):=by
 intro aa s σ H Q J hw;rw [evalPart_some];refine bA (h aa s σ H _ J hw) fun u s1 b4=>ea b4 fun x H1 aN cE bS=>?_
 obtain ⟨i,rfl,q⟩:=gK.out bS;obtain ⟨t,rfl⟩:=cE;exact ⟨some i,H1,aN,.int i t,q⟩
def zN (X:a3) (r:V->Option Int->Option Int->au->cJ->Prop):Prop:=
 ∀ (aa:List (Addr × Obj)) (s:Shared) (σ:St) (H:au) (x:V) (v jF jy:Value) (lo ah:Option Int) (bt:Addr) (Q:cJ),Inv X aa σ H s->bD x v->s.heap.IsSliceOf bt jF jy .none->IsPart jF lo->IsPart jy ah->r x lo ah H Q ->
  ∃ T id,typeLookup (.type T) "__getitem__"=pure (some (.builtin id))/\s.TypeIs v T/\wpAny (model X.prog X.w) X.A (getItem v (.ref bt)) (f7 X aa σ Q) X.du s
noncomputable def J7 (r:V->Option Int->Option Int->au->cJ->Prop) (bJ:TE) (cZ jE:ym):TE:=fun σ H Q=>bJ σ H fun x H1=>cZ σ H1 fun l aw=>jE σ aw fun u bw=>r x l u bw Q
theorem sA (ak:zN X r) (he:bp X e bJ) (aA:B0 X lo cZ) (br:B0 X ah jE):bp X (.Subscript e (.Slice lo ah none eY) pos) (J7 r bJ cZ jE):=by
 intro aa s σ H Q J h;refine Subscript_ (bA (he aa s σ H _ J h) fun v s1 b4=>ea b4 fun x H1 aN cE bS=>?_);refine wpAny_Slice (bA (aA aa s1 σ H1 _ aN bS) fun jF s2 ⟨l,aw,bu,pl,dn⟩=>bA (br aa s2 σ aw _ bu dn) fun jy s3 cF=>?_);obtain ⟨u,bw,ed,pu,fJ⟩:=cF;rw [evalPart_none];refine wpAny_pure ?_;have hB:Inv X aa σ bw { s3 with heap:=s3.heap.push { cls:=.type "slice",data:=.fields #[jF,jy,.none] } }:=ed.kept (t':=s3.toks) fun b bV q=>dE _ q
 obtain ⟨T,id,et,cK,a5⟩:=ak aa { s3 with heap:=s3.heap.push { cls:=.type "slice",data:=.fields #[jF,jy,.none] } } σ bw x v jF jy l u s3.heap.objs.size Q hB cE (ao9 ..) pl pu fJ;show wpAny (model X.prog X.w) X.A (subscriptTail e (.Slice lo ah none eY) v (.ref s3.heap.objs.size)) (f7 X aa σ Q) X.du { s3 with heap:=s3.heap.push { cls:=.type "slice",data:=.fields #[jF,jy,.none] } };exact tail_any (ops:=[.ref s3.heap.objs.size,v]) cK et a5 (by with_unfolding_all rfl)
noncomputable def mm (xs:List V) (lo ah:Option Int):List V:=(xs.drop (fZ.dc xs.length 0 lo)).take (fZ.dc xs.length xs.length ah - fZ.dc xs.length 0 lo)
theorem UU (xs:List V) (lo ah:Option Int):(mm xs lo ah).length <= xs.length:=by
 unfold mm;rw [hE,sl];omega
noncomputable def SO (K:a_):V->Option Int->Option Int->au->cJ->Prop:=fun x lo ah H Q=>∃ a xs,x=.ref a/\c0 K H a xs /\
 ¬ (fZ.dc xs.length 0 lo=0/\fZ.dc xs.length xs.length ah=xs.length)/\∀ p,H p=none->Q (.ref p) (upd H p (.tup (mm xs lo ah)))
theorem YD:zN X (SO X.K):=by
 intro aa s σ H x v jF jy lo ah bt Q J bb ay pl pu h;obtain ⟨a,xs,rfl,ag,hw,q⟩:=h;cases bb;obtain ⟨a9,r,cK,aJ⟩:=J.tuple ag;have hlen:a9.toArray.size=xs.length:=by rw [el];exact r.length.symm
 refine ⟨"tuple",_,Nw.lookup,cK.typeIs,?_⟩;refine fZ.abQ cK ay pl pu (by rw [hlen];exact hw) ?_ (by rw [hlen];exact aJ);rw [hlen];refine ⟨.ref s.heap.objs.size,_,J.laid (t':=s.toks) (o:=.tup (mm xs lo ah)) (fun b bV q=>dE _ q) (bW _) ?_,rfl,q _ (J.a4.fresh (bW _))⟩;exact ⟨cP (UU xs lo ah) aJ,_,(r.drop (fZ.dc xs.length 0 lo)).take (fZ.dc xs.length xs.length ah - fZ.dc xs.length 0 lo),IsTup.new _ _⟩
end
noncomputable def pH (n:Nat) (i:Int):Option Nat:=if 0 <= i then (if i < n then some i.toNat else none) else if -(n:Int) <= i then some (i + n).toNat else none
noncomputable def f3 {α:Type} (xs:List α) (i:Int):Option α:=(pH xs.length i).bind fun j=>xs[j]?
theorem ae_ (h:pH n i=some j):seqIndex? i n=some j/\j < n/\-(n:Int) <= i/\i < n:=by
 unfold pH at h;by_cases h0:0 <= i
 .rw [if_pos h0] at h;by_cases af:i < n
  .rw [if_pos af] at h;have e:i.toNat=j:=dU h;exact ⟨by rw [seqIndex_of h0 af,e],by omega,by omega,af⟩
  .rw [if_neg af] at h;cases h
 .rw [if_neg h0] at h;by_cases af:-(n:Int) <= i
  .rw [if_pos af] at h;have e:(i + n).toNat=j:=dU h;exact ⟨by rw [seqIndex_neg (by omega) af,e],by omega,af,by omega⟩
  .rw [if_neg af] at h;cases h
theorem HX (h:f3 xs i=some v):∃ j,seqIndex? i xs.length=some j/\xs[j]? = some v/\j < xs.length/\-(xs.length:Int) <= i/\i < xs.length:=by
 unfold f3 at h;cases e:pH xs.length i with
 | none=>rw [e] at h;cases h
 | some j=>
  rw [e] at h;obtain ⟨af,aj,a',c7⟩:=ae_ e;exact ⟨j,af,h,aj,a',c7⟩
theorem cB {α:Type} {xs:List α} {j:Nat} {v:α} (h:xs[j]? = some v):f3 xs (j:Int)=some v:=by
 have aM:j < xs.length:=(cv.mp h).1;have e:pH xs.length (j:Int)=some j:=by
  unfold pH;rw [if_pos (by omega),if_pos (by omega)];simp
 unfold f3;rw [e];exact h
theorem V1 (xs:List α) (v:α):f3 (xs ++ [v]) (-1)=some v:=by
 have aA:(xs ++ [v]).length=xs.length + 1:=by simp
 have e:pH (xs ++ [v]).length (-1)=some xs.length:=by
  unfold pH;rw [aA,if_neg (by decide),if_pos (by omega)];congr 1;omega
 unfold f3;rw [e];show (xs ++ [v])[xs.length]? = some v;simp
def Ui (b:Expr):Prop:=∀ o i,subscripted b false o i=operate [o,i] (getItem o i)
def wJ (X:a3) (r:eQ):Prop:=
 ∀ (value slice:Expr) (aa:List (Addr × Obj)) (s:Shared) (σ:St) (H:au) (x y:V) (v u:Value) (Q:cJ),Inv X aa σ H s->bD x v->bD y u->r x y H Q ->
  subscripted slice false v u=operate [v,u] (getItem v u)->wpAny (model X.prog X.w) X.A (subscriptTail value slice v u) (f7 X aa σ Q) X.du s
def uh (X:a3) (id:String) (r:V->List V->au->cJ->Prop):Prop:=
 ∀ (aa:List (Addr × Obj)) (s:Shared) (σ:St) (H:au) (x:V) (xs:List V) (v:Value) (us:List Value) (Q:cJ),Inv X aa σ H s->bD x v->bU xs us->r x xs H Q ->
  wpAny (model X.prog X.w) X.A (call (.builtin id) (v :: us)) (f7 X aa σ Q) X.du s
section
variable {X:a3} {a b:Expr} {a7 bK:TE} {pos:Pos}
theorem aeB (ak:wJ X r) (aO:bp X a a7) (ab:bp X b bK) (ay:Ui b):bp X (.Subscript a b pos) (ra r a7 bK):=by
 intro aa s σ H Q J h;exact Subscript_ (Mi aO ab J h fun v u s2 x y aw bu bb bg q=>ak a b aa s2 σ aw x y v u Q bu bb bg q (ay _ _))
noncomputable def Gx (K:a_):eQ:=fun x y H Q=>fa x fun p=>∃ xs,gK y fun i=>aB K H p xs/\∃ v,f3 xs i=some v/\Q v H
noncomputable def Fs (K:a_):eQ:=fun x y H Q=>fa x fun p=>∃ xs,gK y fun i=>c0 K H p xs/\∃ v,f3 xs i=some v/\Q v H
noncomputable def E5:eQ:=fun x y H Q=>∃ z i c,x=.str z/\y=.int i/\z.length <= sizeLine/\f3 z.cps.toList i=some c/\Q (.str ⟨#[c]⟩) H
theorem lc:wJ X (Gx X.K):=by
 intro value slice aa s σ H x y v u Q J bb bg h ay;obtain ⟨p,rfl,xs,i8⟩:=fa.out h;obtain ⟨i,rfl,aI,z,he,q⟩:=gK.out i8;cases bb;obtain ⟨t,rfl⟩:=bg;obtain ⟨a9,r,pl,aJ⟩:=J.list aI;obtain ⟨j,af,aj,a',c7,eM⟩:=HX he;obtain ⟨w,oi,h9⟩:=r.get aj;have aA:=r.length;have aY:=tA;have fin:f7 X aa σ Q w s:=⟨z,H,J,h9,q⟩;by_cases h0:0 <= i
 .have aM:i.toNat=j:=by
   rw [seqIndex_of h0 eM] at af;exact dU af
  exact item_listR pl.isList h0 (by omega) (by rw [aM];simpa using oi) fin ay
 .have aM:(i + (a9.toArray.size:Int)).toNat=j:=by
   rw [seqIndex_neg (by omega) c7] at af;rw [el,<- aA];exact dU af
  exact subscriptTail_builtinR (x:=w) pl.isList.typeIs slot_list_getitem.lookup
   (wpAny_getItem_list_neg (Q:=fun r s'=>r=w/\f7 X aa σ Q r s') pl.isList (by omega) (by rw [el] <;> omega) (by omega) (by rw [aM];simpa using oi) ⟨rfl,fin⟩) ay
theorem fP:wJ X (Fs X.K):=by
 intro value slice aa s σ H x y v u Q J bb bg h ay;obtain ⟨p,rfl,xs,i8⟩:=fa.out h;obtain ⟨i,rfl,aI,z,he,q⟩:=gK.out i8;cases bb;obtain ⟨t,rfl⟩:=bg;obtain ⟨a9,r,pl,aJ⟩:=J.tuple aI;obtain ⟨j,af,aj,a',c7,eM⟩:=HX he;obtain ⟨w,oi,h9⟩:=r.get aj;have aA:=r.length;have aY:=tA;have fin:f7 X aa σ Q w s:=⟨z,H,J,h9,q⟩;exact subscriptTail_builtinR (x:=w) pl.typeIs slot_tuple_getitem.lookup
  (getItem_tuple (j:=j) (Q:=fun r s'=>r=w/\f7 X aa σ Q r s') pl (by omega) (by omega) (by rw [el,<- aA];exact af) (by simpa using oi) ⟨rfl,fin⟩) ay
theorem I1:wJ X E5:=by
 intro value slice aa s σ H x y v u Q J bb bg h ay;obtain ⟨z,i,c,rfl,rfl,aJ,he,q⟩:=h;obtain ⟨t,rfl⟩:=bb;obtain ⟨t',rfl⟩:=bg;obtain ⟨j,af,aj,a',c7,eM⟩:=HX he;have aA:z.cps.toList.length=z.length:=by simp [tD]
 rw [aA] at af c7 eM;have aY:=tA;exact tail_any (typeIs_str s z t) slot_str_getitem.lookup (getItem_str (c:=c) (by
  have aq:decide (i < -(2 ^ 63:Int))=false:=decide_eq_false (by omega);have aD:decide (i ≥ 2 ^ 63)=false:=decide_eq_false (by omega);rw [aq,aD,OX]) (by rw [af];simpa using aj) ⟨.str ⟨#[c]⟩,H,J.tok _,⟨_,rfl⟩,q⟩) ay
theorem Inv.lst {p:Addr} (J:Inv X aa σ H s) (h:H p=some (.lst xs)) :
  ∃ (a9:List Value) (n:Nat),bU xs a9/\s.heap.get? p=some { cls:=.type "list",data:=.seq a9.toArray n }/\xs.length <= sizeLine:=by
 obtain ⟨z,a9,n,r,e⟩:=J.a4 p _ h;exact ⟨a9,n,r,e,z⟩
theorem al2 (lo ah:Option Int) (n:Nat):(sliceBounds lo ah none n).1=((fZ.dc n 0 lo:Nat):Int)/\(sliceBounds lo ah none n).2.1=((fZ.dc n n ah:Nat):Int)/\(sliceBounds lo ah none n).2.2=1:=by
 refine ⟨?_,?_,rfl⟩
 .cases lo with
  | none=>simp [sliceBounds,fZ.dc]
  | some i=>
   simp only [sliceBounds,fZ.dc,ae2,show (1:Int) > 0 by decide,if_true];by_cases h:i < 0
   .simp only [h,if_true] <;> omega
   .simp only [h,if_false] <;> omega
 .cases ah with
  | none=>simp [sliceBounds,fZ.dc]
  | some i=>
   simp only [sliceBounds,fZ.dc,ae2,show (1:Int) > 0 by decide,if_true];by_cases h:i < 0
   .simp only [h,if_true] <;> omega
   .simp only [h,if_false] <;> omega
theorem ac4 (a9:List Value) (lo ah:Option Int):slicePick a9.toArray lo ah none=((a9.drop (fZ.dc a9.length 0 lo)).take (fZ.dc a9.length a9.length ah - fZ.dc a9.length 0 lo)).toArray:=by
 obtain ⟨af,aj,a'⟩:=al2 lo ah a9.toArray.size;unfold slicePick;rw [af,aj,a'];simp only [sliceRange_one,pick_run,el] <;> rfl
noncomputable def HJ (K:a_):V->Option Int->Option Int->au->cJ->Prop:=fun x lo ah H Q=>∃ a xs,x=.ref a/\aB K H a xs/\∀ p,H p=none->Q (.ref p) (upd H p (.lst (mm xs lo ah)))
theorem Up:zN X (HJ X.K):=by
 intro aa s σ H x v jF jy lo ah bt Q J bb ay pl pu h;obtain ⟨a,xs,rfl,ag,q⟩:=h;cases bb;obtain ⟨a9,r,cK,aJ⟩:=J.list ag;have hlen:=r.length;refine ⟨"list",_,slot_list_getitem.lookup,cK.isList.typeIs,?_⟩;refine wpAny_getItem_list_slice cK.isList ay pl pu .none (by simp) ?_ (by rw [el] <;> omega);rw [ac4,<- hlen];refine ⟨.ref s.heap.objs.size,_,J.laid (t':=s.toks) (o:=.lst (mm xs lo ah)) (fun b bV q=>dE _ q) (bW _) ?_,rfl,q _ (J.a4.fresh (bW _))⟩;exact ⟨cP (UU xs lo ah) aJ,_,0,(r.drop (fZ.dc xs.length 0 lo)).take (fZ.dc xs.length xs.length ah - fZ.dc xs.length 0 lo),hc _ rfl⟩
noncomputable def iT:V->Bool
 | .bO=>true
 | .bo _=>true
 | .int _=>true
 | .str _=>true
 | _=>false
noncomputable def iW:V->V->Bool
 | .bO,.bO=>true
 | .bo a,.bo b=>a == b
 | .bo a,.int b=>(if a then 1 else 0) == b
 | .int a,.bo b=>a == (if b then 1 else 0)
 | .int a,.int b=>a == b
 | .str a,.str b=>a == b
 | _,_=>false
theorem KO {A:Around} {y x:V} (bg:bD y u) (bb:bD x v) (ago:iT y=true) (la:iT x=true):I2 A s u v (iW y x):=by
 cases y with
 | bO=>
  cases bg;cases x with
  | bO=>cases bb;exact VH _
  | bo b=>cases bb;exact SeqAt.EqAt.none_bool b
  | int b=>obtain ⟨t,rfl⟩:=bb;exact SeqAt.EqAt.none_int b t
  | str b=>obtain ⟨t,rfl⟩:=bb;exact SeqAt.EqAt.none_str b t
  | _=>exact absurd (show false=true from la) fK
 | bo a=>
  cases bg;cases x with
  | bO=>cases bb;exact SeqAt.EqAt.bool_none a
  | bo b=>cases bb;exact SeqAt.EqAt.bool_bool a b
  | int b=>obtain ⟨t,rfl⟩:=bb;exact SeqAt.EqAt.bool_int a b t
  | str b=>obtain ⟨t,rfl⟩:=bb;exact SeqAt.EqAt.bool_str a b t
  | _=>exact absurd (show false=true from la) fK
 | int a=>
  obtain ⟨t',rfl⟩:=bg;cases x with
  | bO=>cases bb;exact SeqAt.EqAt.int_none a t'
  | bo b=>cases bb;exact SeqAt.EqAt.int_bool a t' b
  | int b=>obtain ⟨t,rfl⟩:=bb;exact SeqAt.EqAt.int_int a t' b t
  | str b=>obtain ⟨t,rfl⟩:=bb;exact ajD a t' b t
  | _=>exact absurd (show false=true from la) fK
 | str a=>
  obtain ⟨t',rfl⟩:=bg;cases x with
  | bO=>cases bb;exact SeqAt.EqAt.str_none a t'
  | bo b=>cases bb;exact SeqAt.EqAt.str_bool a t' b
  | int b=>obtain ⟨t,rfl⟩:=bb;exact Xi a t' b t
  | str b=>obtain ⟨t,rfl⟩:=bb;exact SeqAt.EqAt.str_str a t' b t
  | _=>exact absurd (show false=true from la) fK
 | _=>exact absurd (show false=true from ago) fK
noncomputable def ky (x:V) (u:Value):Bool:=match u with
 | .none=>iW .bO x
 | .bool b=>iW (.bo b) x
 | .int i _=>iW (.int i) x
 | .str z _=>iW (.str z) x
 | _=>false
theorem Uk {x y:V} (r:bD y u) (f:iT y=true):ky x u=iW y x:=by
 cases y with
 | bO=>cases r;rfl
 | bo b=>cases r;rfl
 | int i=>obtain ⟨t,rfl⟩:=r;rfl
 | str z=>obtain ⟨t,rfl⟩:=r;rfl
 | _=>exact absurd (show false=true from f) fK
theorem vm {x:V}:∀ {xs:List V} {us:List Value},bU xs us->xs.all iT=true->us.any (ky x)=xs.any fun y=>iW y x
 | _,_,.nil,_=>rfl
 | y :: xs,u :: us,.cons r t,f=>by
  rw [aiG,iE] at f;rw [xC,xC,Uk r f.1,vm t f.2]
theorem xd {A:Around} {x:V} (bb:bD x v) (la:iT x=true):∀ {xs:List V} {us:List Value},bU xs us->xs.all iT=true->∀ u ∈ us,I2 A s u v (ky x u)
 | _,_,.nil,_=>fun u br=>by cases br
 | y :: xs,u :: us,.cons r t,f=>fun oa br=>by
  rw [aiG,iE] at f;rcases fi.mp br with rfl | br
  .rw [Uk r f.1];exact KO r bb f.1 la
  .exact xd bb la t f.2 oa br
noncomputable def tF (x:V) (xs:List V):Bool:=xs.any fun y=>iW y x
noncomputable def Bj (K:a_) (neg:Bool):eQ:=fun x y H Q=>∃ p xs,y=.ref p/\(aB K H p xs\/c0 K H p xs)/\iT x=true/\xs.all iT=true/\Q (.bo (if neg then !tF x xs else tF x xs)) H
theorem FY:hs X (compareOp .In) (Bj X.K false):=by
 intro aa s σ H x y v u Q J bb bg h;obtain ⟨p,xs,rfl,aI,la,aK,q⟩:=h;cases bg;rcases aI with aI | aI
 .obtain ⟨a9,r,pl,aJ⟩:=J.list aI;refine SeqAt.in_listAt (ky x) pl.isList (fun w hw=>xd bb la r aK w (by simpa using hw)) ⟨.bo _,H,J,rfl,?_⟩;rw [show a9.toArray.any (ky x)=a9.any (ky x) by simp,vm r aK];exact q
 .obtain ⟨a9,r,pl,aJ⟩:=J.tuple aI;refine SeqAt.in_tupleAt (ky x) pl (fun w hw=>xd bb la r aK w (by simpa using hw)) ⟨.bo _,H,J,rfl,?_⟩;rw [show a9.toArray.any (ky x)=a9.any (ky x) by simp,vm r aK];exact q
theorem E_:hs X (compareOp .NotIn) (Bj X.K true):=by
 intro aa s σ H x y v u Q J bb bg h;obtain ⟨p,xs,rfl,aI,la,aK,q⟩:=h;cases bg;rcases aI with aI | aI
 .obtain ⟨a9,r,pl,aJ⟩:=J.list aI;refine SeqAt.notIn_listAt (ky x) pl.isList (fun w hw=>xd bb la r aK w (by simpa using hw)) ⟨.bo _,H,J,rfl,?_⟩;rw [show a9.toArray.any (ky x)=a9.any (ky x) by simp,vm r aK];exact q
 .obtain ⟨a9,r,pl,aJ⟩:=J.tuple aI;refine SeqAt.notIn_tupleAt (ky x) pl (fun w hw=>xd bb la r aK w (by simpa using hw)) ⟨.bo _,H,J,rfl,?_⟩;rw [show a9.toArray.any (ky x)=a9.any (ky x) by simp,vm r aK];exact q
theorem h4:k7 X (.builtin "len") (fun xs H Q=>mD xs fun x=>fa x fun p=>∃ ys,(aB X.K H p ys\/c0 X.K H p ys)/\Q (.int ys.length) H):=by
 intro aa s σ H xs us Q J r h;obtain ⟨agg,rfl,i8⟩:=mD.out h;obtain ⟨p,rfl,ys,aI,q⟩:=fa.out i8;obtain ⟨u,rfl,bb⟩:=kP r;cases bb;have aY:=tA;rcases aI with aI | aI
 .obtain ⟨a9,cV,pl,aJ⟩:=J.list aI;have hlen:=cV.length;exact Calls.call_len_list pl.isList (by simp only [el] <;> omega) ⟨.int ys.length,H,J.tok _,⟨s.toks + 1,by rw [el,hlen]⟩,q⟩
 .obtain ⟨a9,cV,pl,aJ⟩:=J.tuple aI;have hlen:=cV.length;exact len_tuple pl (by simp only [el] <;> omega) ⟨.int ys.length,H,J.tok _,⟨s.toks + 1,by rw [el,hlen]⟩,q⟩
theorem ZG:k7 X (.builtin "len") (fun xs H Q=>∃ z,xs=[.str z]/\z.length <= sizeLine/\Q (.int z.length) H):=by
 intro aa s σ H xs us Q J r h;obtain ⟨z,rfl,aJ,q⟩:=h;obtain ⟨u,rfl,t,rfl⟩:=kP r;have aY:=tA;exact len_str (by omega) ⟨.int z.length,H,J.tok _,⟨_,rfl⟩,q⟩
theorem Oe:k7 X (.type "list") (fun xs H Q=>∃ p ys,xs=[.ref p]/\(aB X.K H p ys\/c0 X.K H p ys)/\∀ l,H l=none->Q (.ref l) (upd H l (.lst ys))):=by
 intro aa s σ H xs us Q J r h;obtain ⟨p,ys,rfl,aI,q⟩:=h;obtain ⟨u,rfl,bb⟩:=kP r;cases bb;have fin:∀ (a9:List Value),bU ys a9->ys.length <= sizeLine->∀ (h':Heap) (c':Nat),(∀ b dx,s.heap.get? b=some dx->h'.get? b=some dx) ->
   h'.get? s.heap.objs.size=some { cls:=.type "list",dict:=none,data:=.seq a9.toArray c',slots:=#[] }->f7 X aa σ Q (.ref s.heap.objs.size) { s with heap:=h' }:=fun a9 cV aJ h' c' bH e=>
  ⟨.ref s.heap.objs.size,_,J.laid (t':=s.toks) bH (bW _) (show dy X.prog X.w _ h' _ (.lst ys) from ⟨aJ,a9,c',cV,e⟩),rfl,q _ (J.a4.fresh (bW _))⟩
 rcases aI with aI | aI
 .obtain ⟨a9,cV,pl,aJ⟩:=J.list aI;have hlen:=cV.length;obtain ⟨o,aQ,av,n,hd⟩:=pl.isList;exact call_list_seq p (.inl rfl) aQ av hd (fun h' c' bH e=>fin a9 cV aJ h' c' bH e) (by simp only [el] <;> omega)
 .obtain ⟨a9,cV,pl,aJ⟩:=J.tuple aI;have hlen:=cV.length;obtain ⟨o,aQ,av,n,hd⟩:=pl;exact call_list_seq p (.inr rfl) aQ av hd (fun h' c' bH e=>fin a9 cV aJ h' c' bH e) (by simp only [el] <;> omega)
def zc (K:a_) (T:String) (x:V) (H:au):Prop:=match x with
 | .str _=>T = "str"
 | .int _=>T = "int"
 | .ref p=>(T = "list" /\ ∃ xs,aB K H p xs)\/(T = "tuple" /\ ∃ o,K.lookup p=some o/\o.cls=.type "tuple" /\ o.dict=none) \/
   (T = "dict" /\ ((∃ kvs,H p=some (.bx kvs))\/∃ kvs,H p=some (.f9 kvs)))\/(T = "set" /\ ∃ S n,H p=some (.set S n))
 | _=>False
theorem Wj {x:V} (J:Inv X aa σ H s) (r:bD x v) (ty:zc X.K T x H) :
  s.TypeIs v T/\∀ a,v=.ref a->∃ bV,s.heap.get? a=some bV/\bV.dict=none:=by
 cases x with
 | str z=>
  obtain ⟨t,rfl⟩:=r;cases (show T = "str" from ty);exact ⟨typeIs_str s z t,fun _ e=>nomatch e⟩
 | int i=>
  obtain ⟨t,rfl⟩:=r;cases (show T = "int" from ty);exact ⟨typeIs_int s i t,fun _ e=>nomatch e⟩
 | ref p=>
  cases r;rcases ty with ⟨rfl,xs,aI⟩ | ⟨rfl,o,aC,av,hd⟩ | ⟨rfl,aC⟩ | ⟨rfl,S,n,aC⟩
  .obtain ⟨a9,_,pl,_⟩:=J.list aI;refine ⟨pl.isList.typeIs,fun a e=>?_⟩;cases e;obtain ⟨o,n,e,c,hd,_⟩:=pl;exact ⟨o,e,hd⟩
  .refine ⟨⟨o,J.fz p o aC,av⟩,fun a e=>?_⟩;cases e;exact ⟨o,J.fz _ o aC,hd⟩
  .have z:∃ o,s.heap.get? p=some o/\o.ExactDict:=by
    rcases aC with ⟨kvs,aC⟩ | ⟨kvs,aC⟩
    .obtain ⟨_,_,_,_,o,_,_,e,ex,_⟩:=J.a4 p _ aC;exact ⟨o,e,ex⟩
    .obtain ⟨_,_,_,_,o,_,_,e,ex,_⟩:=J.a4 p _ aC;exact ⟨o,e,ex⟩
   obtain ⟨o,e,ex⟩:=z;refine ⟨⟨o,e,ex.1⟩,fun a aD=>?_⟩;cases aD;exact ⟨o,e,ex.2.1⟩
  .obtain ⟨o,_,_,_,e,ex,_⟩:=J.a4 p _ aC;refine ⟨⟨o,e,ex.1⟩,fun a aD=>?_⟩;cases aD;exact ⟨o,e,ex.2.1⟩
 | _=>exact hP ty
noncomputable def Mt (K:a_) (T:String) (r:V->List V->au->cJ->Prop) (to:TE):TE:=fun σ H Q=>to σ H fun x H1=>zc K T x H1/\r x [] H1 Q
noncomputable def Ke (K:a_) (T:String) (r:V->List V->au->cJ->Prop) (to:TE) (t:e_):TE:=fun σ H Q=>to σ H fun x H1=>zc K T x H1/\t σ H1 fun xs aw=>r x xs aw Q
variable {o e:Expr} {aV:List Expr} {to:TE} {t:e_} {name:Str} {eT hM:Pos} {T id:String} {r:V->List V->au->cJ->Prop}
theorem vP (iO:PlainAttrs T) (slot:Slot T name id) (K7:typeOf (.builtin id)=pure (.type "method_descriptor")) (hm:uh X id r) (aQ:bp X o to)
  (E2:attributeBase o name X.env (eval o X.env)=eval o X.env:=by rfl) (FH:(eT.endLine == hM.line)=true:=by rfl):bp X (.Call (.Attribute o name eT) [] [] hM) (Mt X.K T r to):=by
 intro aa s σ H Q J h;refine wpAny_Call_method0_late E2 FH (bA (aQ aa s σ H _ J h) fun v s1 cF=>?_);obtain ⟨x,H1,aN,cE,ty,bS⟩:=cF;obtain ⟨af,aj⟩:=Wj aN cE ty;exact ⟨T,id,iO,slot,K7,af,aj,Nu rfl (PySem.evalArgs_none (hm aa s1 σ H1 x [] v [] Q aN cE .nil bS))⟩
theorem gm (iO:PlainAttrs T) (slot:Slot T name id) (K7:typeOf (.builtin id)=pure (.type "method_descriptor")) (hm:uh X id r) (aQ:bp X o to) (aO:iY X (e :: aV) t)
  (E2:attributeBase o name X.env (eval o X.env)=eval o X.env:=by rfl)
  (ag5:((backTo hM (starEach (e :: aV) X.env)).all (fun x=>!x.1) && (backToKw hM (keywordEach [] X.env)).all (fun x=>x.1.isSome)
   && decide ((e :: aV).length + ([]:List Keyword).length + (if ([]:List Keyword).isEmpty then 0 else 1) < 30))=true:=by rfl)
  (FH:(eT.endLine == hM.line)=true:=by rfl) (ay:starEach (e :: aV) X.env=(false,eval e X.env) :: starEach aV X.env:=by rfl) (hplain:(backTo hM (starEach aV X.env)).any (·.1)=false:=by rfl) :
  bp X (.Call (.Attribute o name eT) (e :: aV) [] hM) (Ke X.K T r to t):=by
 intro aa s σ H Q J h;refine wpAny_Call_method_late E2 ag5 FH rfl (bA (aQ aa s σ H _ J h) fun v s1 cF=>?_);obtain ⟨x,H1,aN,cE,ty,bS⟩:=cF;obtain ⟨af,aj⟩:=Wj aN cE ty;refine ⟨T,id,iO,slot,K7,af,aj,?_⟩;have hN:=aO hM aa s1 σ H1 _ aN bS;rw [ay] at hN ⊢;refine Nu (by show (false || (backTo hM (starEach aV X.env)).any (·.1))=false;rw [hplain] <;> rfl) (YR ?_);exact bA hN fun us s2 ⟨vs,aw,bu,fW,dn⟩=>hm aa s2 σ aw x vs v us Q bu cE fW dn
end
def yH (X:a3) (id:String) (r:V->List V->au->cJ->Prop):Prop:=
 ∀ (aa:List (Addr × Obj)) (s:Shared) (σ:St) (H:au) (x:V) (xs:List V) (v:Value) (us:List Value) (Q:cJ),Inv X aa σ H s->bD x v->bU xs us->r x xs H Q ->
  wpAny (model X.prog X.w) X.A (call (.builtin id) (v :: us)) (f7 X aa σ Q) X.du s
theorem bU.one:∀ {x:V} {us:List Value},bU [x] us->∃ u,us=[u]/\bD x u
 | _,_,.cons r .nil=>⟨_,rfl,r⟩
theorem bU.two:∀ {x y:V} {us:List Value},bU [x,y] us->∃ u v,us=[u,v]/\bD x u/\bD y v
 | _,_,_,.cons r (.cons q .nil)=>⟨_,_,rfl,r,q⟩
theorem bU.zero:∀ {us:List Value},bU [] us->us=[]
 | _,.nil=>rfl
theorem bU.reverse (h:bU xs us):bU xs.reverse us.reverse:=by
 induction h with
 | nil=>exact .nil
 | cons r t b'=>rw [Zp,Zp];exact bU.append b' (.cons r .nil)
section
variable {X:a3} {aa:List (Addr × Obj)} {σ:St} {H:au} {s:Shared} {l b:Addr} {xs ys zs:List V}
theorem Inv.y4 {a9 its':List Value} (J:Inv X aa σ H s) (jB:H l=some (.lst xs))
  (e:s.heap.get? l=some { cls:=.type "list",data:=.seq a9.toArray n }) (hf:f a9.toArray=its'.toArray) (aF:bU ys its') (aJ:ys.length <= sizeLine) :
  Inv X aa σ (upd H l (.lst ys)) { s with heap:=s.heap.update l (vv f),toks:=t' }:=by
 have q:=PySem.IsL.update e f;rw [hf] at q;refine J.write (x:=l) (e:=l) (by rw [jB];exact trivial) (.inl rfl) (fun l4 u ab br=>(k4 s.heap (vv f) (dg ab)).trans br) ⟨_,q⟩ ?_;exact ⟨aJ,its',_,aF,q⟩
theorem Inv.fresh (J:Inv X aa σ H s):H s.heap.objs.size=none:=J.a4.fresh (bW _)
theorem Inv.vx (J:Inv X aa σ H s) (jB:H l=some (.lst xs)):xs.length <= sizeLine/\∃ (a9:List Value) (n:Nat),bU xs a9/\xs.length=a9.length/\s.heap.get? l=some { cls:=.type "list",data:=.seq a9.toArray n }:=by
 obtain ⟨z,a9,n,r,e⟩:=J.a4 l _ jB;exact ⟨z,a9,n,r,r.length,e⟩
theorem ac5 (h:n <= sizeLine):NS n=false:=by
 unfold NS;exact decide_eq_false (by omega)
end
section
variable {X:a3}
noncomputable def HC:V->List V->au->cJ->Prop:=fun x vs H Q=>fa x fun l=>mD vs fun y=>∃ xs,H l=some (.lst xs)/\xs.length < sizeLine/\Q .bO (upd H l (.lst (xs ++ [y])))
theorem Re:yH X "list.append" HC:=by
 intro aa s σ H x vs v us Q J bb cG h;obtain ⟨l,rfl,i8⟩:=fa.out h;obtain ⟨y,rfl,xs,jB,aJ,q⟩:=mD.out i8;cases bb;obtain ⟨u,rfl,eo⟩:=cG.one;obtain ⟨z,a9,n,r,aA,e⟩:=J.vx jB;refine call_meets lE ⟨_,e,rfl⟩ F.entry_list_append (F.args_list_append_2 _ _) (PySem.list_append l a9.toArray n u (by rw [el];omega)) ⟨e,?_⟩;refine ⟨.bO,_,J.y4 (its':=a9 ++ [u]) jB e (by simp) (r.append (.cons eo .nil)) ?_,rfl,q⟩;rw [ec,J6];omega
noncomputable def LG:V->List V->au->cJ->Prop:=fun x vs H Q=>∃ l b xs zs,x=.ref l/\vs=[.ref b]/\H l=some (.lst xs)/\H b=some (.lst zs)/\xs.length + zs.length <= sizeLine/\Q .bO (upd H l (.lst (xs ++ zs)))
theorem IS:yH X "list.extend" LG:=by
 intro aa s σ H x vs v us Q J bb cG h;obtain ⟨l,b,xs,zs,rfl,rfl,jB,hg,aJ,q⟩:=h;cases bb;obtain ⟨u,rfl,eo⟩:=cG.one;cases eo;obtain ⟨z,a9,n,r,aA,e⟩:=J.vx jB;obtain ⟨d9,C5,cI,fW,Ka,aD⟩:=J.vx hg;have hsz:a9.toArray.size + C5.toArray.size <= sizeLine:=by rw [el,el];omega
 have aji:¬ (!a9.toArray.isEmpty && NS (a9.toArray.size + C5.toArray.size))=true:=by
  rw [ac5 hsz,afM];exact fK
 refine call_meets Gk ⟨_,e,rfl⟩ F.entry_list_extend (F.args_list_extend_2 _ _)
  (AutoSeq1.list_extend_list_list_0 l a9.toArray n b C5.toArray cI aji (by rw [el];omega) (by omega)) ⟨e,aD,?_⟩
 refine ⟨.bO,_,J.y4 (its':=a9 ++ C5) jB e (by simp) (r.append fW) ?_,rfl,q⟩;rw [ec];omega
noncomputable def Jv:V->List V->au->cJ->Prop:=fun x vs H Q=>∃ l xs,x=.ref l/\vs=[]/\H l=some (.lst xs)/\Q .bO (upd H l (.lst []))
theorem YP:yH X "list.clear" Jv:=by
 intro aa s σ H x vs v us Q J bb cG h;obtain ⟨l,xs,rfl,rfl,jB,q⟩:=h;cases bb;have afN:=cG.zero;subst afN;obtain ⟨z,a9,n,r,aA,e⟩:=J.vx jB;refine call_meets aah ⟨_,e,rfl⟩ F.entry_list_clear (F.args_list_clear_1 _) (AutoSeq1.list_clear_list_0 l a9.toArray n (by rw [el];omega)) ⟨e,?_⟩;exact ⟨.bO,_,J.y4 (its':=[]) (ys:=[]) jB e rfl .nil (fC _),rfl,q⟩
end
section
variable {prog:Program} {w:World} {A:Around} {E:Value->Shared->Prop} {s:Shared}
end
section
variable {X:a3}
end
section
variable {ey:Type} [DecidableEq ey]
noncomputable def cY (kvs:List (ey × V)) (k:ey):Option V:=(kvs.find? fun cD=>decide (cD.1=k)).map (·.2)
noncomputable def eb (kvs:List (ey × V)) (k:ey) (v:V):List (ey × V):=
 if (kvs.any fun cD=>decide (cD.1=k))=true then kvs.map (fun cD=>if cD.1=k then (cD.1,v) else cD) else kvs ++ [(k,v)]
noncomputable def p3 (kvs:List (ey × V)) (k:ey):List (ey × V):=kvs.filter fun cD=>decide (cD.1 ≠ k)
theorem nE {p:ey × V} {k:ey} (e:p.1=k):cY (p :: r) k=some p.2:=by simp [cY,qy,e]
theorem m8 {p:ey × V} {k:ey} (e:¬ p.1=k):cY (p :: r) k=cY r k:=by simp [cY,qy,e]
theorem Cf (k:ey):∀ kvs:List (ey × V),(kvs.any fun cD=>decide (cD.1=k))=(cY kvs k).isSome
 | []=>rfl
 | p :: r=>by
  rw [xC];by_cases e:p.1=k
  .simp only [nE e,decide_eq_true e,su,Option.isSome_some]
  .rw [m8 e,decide_eq_false e,lN];exact Cf k r
theorem TP (k j:ey) (y:V):∀ kvs:List (ey × V),cY (kvs.map fun cD=>if cD.1=k then (cD.1,y) else cD) j=(cY kvs j).map fun x=>if j=k then y else x
 | []=>rfl
 | p :: r=>by
  have b':=TP k j y r;rw [eN];by_cases h:p.1=k
  .rw [if_pos h];by_cases e:p.1=j
   .rw [nE (p:=(p.1,y)) e,nE e,C0,if_pos (e.symm.trans h)]
   .rw [m8 (p:=(p.1,y)) e,m8 e,b']
  .rw [if_neg h];by_cases e:p.1=j
   .rw [nE (p:=p) e,nE e,C0,if_neg (fun z=>h (e.trans z))]
   .rw [m8 (p:=p) e,m8 e,b']
theorem Tv (k j:ey) (y:V):∀ kvs:List (ey × V),cY kvs k=none->cY (kvs ++ [(k,y)]) j=if j=k then some y else cY kvs j
 | [],_=>by
  by_cases e:k=j
  .rw [if_pos e.symm];exact nE (p:=(k,y)) e
  .rw [if_neg (fun z=>e z.symm)];exact m8 (p:=(k,y)) e
 | p :: r,aY=>by
  rw [yD];have aC:¬ p.1=k:=fun z=>by rw [nE z] at aY;cases aY
  rw [m8 aC] at aY;have b':=Tv k j y r aY;by_cases e:p.1=j
  .rw [nE e,nE e,if_neg (fun z=>aC (e.trans z))]
  .rw [m8 e,m8 e,b']
theorem VG (kvs:List (ey × V)) (k j:ey) (y:V):cY (eb kvs k y) j=if j=k then some y else cY kvs j:=by
 unfold eb;by_cases a:(kvs.any fun cD=>decide (cD.1=k))=true
 .rw [if_pos a,TP];rw [Cf] at a;by_cases e:j=k
  .obtain ⟨x,ag⟩:=Z7.mp a;rw [if_pos e,e,ag,C0,if_pos rfl]
  .rw [if_neg e];cases cY kvs j with
   | none=>rfl
   | some x=>rw [C0,if_neg e]
 .rw [if_neg a];refine Tv k j y kvs ?_;rw [Cf] at a;cases q:cY kvs k with
  | none=>rfl
  | some x=>rw [q] at a;exact (a rfl).elim
theorem Lo (kvs:List (ey × V)) (k:ey) (v:V):(eb kvs k v).length <= kvs.length + 1:=by
 unfold eb;split
 .rw [a0];omega
 .rw [ec,hi,x4];omega
theorem hr.wC (r:hr o u):o.isSome=u.isSome:=by
 cases o with
 | none=>cases u with
  | none=>rfl
  | some _=>exact (show False from r).elim
 | some _=>cases u with
  | none=>exact (show False from r).elim
  | some _=>rfl
theorem hr.getD (r:hr o u) (kc:bD d d'):bD (o.getD d) (u.getD d'):=by
 cases o with
 | none=>cases u with
  | none=>exact kc
  | some _=>exact (show False from r).elim
 | some _=>cases u with
  | none=>exact (show False from r).elim
  | some _=>exact r
theorem ee.val (r:ee kvs vs) (k:ey):hr (cY kvs k) (valueAt vs k):=by
 unfold ee at r
 induction r with
 | nil=>exact iu
 | @cons p q ps qs h t b'=>
  obtain ⟨af,aj⟩:=h;by_cases e:p.1=k
  .have bQ:q.1=k:=af.symm.trans e;have b:valueAt (q :: qs) k=some q.2:=by simp [valueAt,qy,bQ]
   rw [nE e,b];exact aj
  .have bQ:¬ q.1=k:=fun z=>e (af.trans z)
   have b:valueAt (q :: qs) k=valueAt qs k:=by simp [valueAt,qy,bQ]
   rw [m8 e,b];exact b'
theorem ee.any (r:ee kvs vs) (k:ey):(kvs.any fun cD=>decide (cD.1=k))=vs.any fun cD=>decide (cD.1=k):=by
 unfold ee at r
 induction r with
 | nil=>rfl
 | cons h t b'=>rw [xC,xC,b',h.1]
theorem ee.JO (r:ee kvs vs) (k:ey) (bg:bD y u) :
  ee (kvs.map fun cD=>if cD.1=k then (cD.1,y) else cD) (vs.map fun cD=>if cD.1=k then (cD.1,u) else cD):=by
 unfold ee at r ⊢
 induction r with
 | nil=>exact .nil
 | @cons p q ps qs h t b'=>
  rw [eN,eN];refine .cons ?_ b';obtain ⟨af,aj⟩:=h;by_cases e:p.1=k
  .rw [if_pos e,if_pos (af.symm.trans e)];exact ⟨af,bg⟩
  .rw [if_neg e,if_neg (fun z=>e (af.trans z))];exact ⟨af,aj⟩
theorem ee.put (r:ee kvs vs) (k:ey) (bg:bD y u):ee (eb kvs k y) (stored vs k u):=by
 unfold eb stored;rw [r.any k];by_cases e:(vs.any fun cD=>decide (cD.1=k))=true
 .rw [if_pos e,if_pos e];exact r.JO k bg
 .rw [if_neg e,if_neg e];exact VZ r ⟨rfl,bg⟩
theorem ee.drop (r:ee kvs vs) (k:ey):ee (p3 kvs k) (without vs k):=by
 unfold ee at r ⊢;unfold p3 without
 induction r with
 | nil=>exact .nil
 | @cons p q ps qs h t b'=>
  obtain ⟨af,aj⟩:=h;rw [Zv,Zv];by_cases e:p.1=k
  .have a:¬ decide (p.1 ≠ k)=true:=by simp [e]
   have b:¬ decide (q.1 ≠ k)=true:=by simp [af.symm.trans e]
   rw [if_neg a,if_neg b];exact b'
  .have bQ:¬ q.1=k:=fun z=>e (af.trans z)
   have a:decide (p.1 ≠ k)=true:=by simp [e]
   have b:decide (q.1 ≠ k)=true:=by simp [bQ]
   rw [if_pos a,if_pos b];exact .cons ⟨af,aj⟩ b'
theorem ee.keys {kvs:List (ey × V)} {vs:List (ey × Value)} (r:ee kvs vs):kvs.map (·.1)=vs.map (·.1):=by
 unfold ee at r
 induction r with
 | nil=>rfl
 | cons h t b'=>rw [eN,eN,b',h.1]
theorem ee.length (r:ee kvs vs):kvs.length=vs.length:=FI r
theorem akn (kvs:List (ey × V)) (k:ey):(p3 kvs k).length <= kvs.length:=B8 _ _
end
theorem qJ {w:World} {k:Key} (r:bD (cM k) u):(gM P w).is k u=true:=by
 cases k with
 | inl i=>obtain ⟨t,e⟩:=(show ∃ t,u=mN i t from r);subst e;exact ZF P w i t
 | inr x=>obtain ⟨t,e⟩:=(show ∃ t,u=qe x t from r);subst e;exact AC P w x t
theorem OL {w:World}:∀ {cb:List Key} {us:List Value},bU (cb.map cM) us->ItemsAre (gM P w) cb us
 | [],_,r=>by rw [p'] at r;cases r;exact .nil
 | k :: cb,_,r=>by
  rw [eN] at r;cases r with
  | cons h t=>exact .cons (qJ h) (OL t)
noncomputable abbrev KT (H:au):List (List Key × V)->List (List Key × Addr × Value)->Prop:=Paired fun p q=>p.1=q.1/\H q.2.1=some (.tup (p.1.map cM))/\bD p.2 q.2.2
theorem KT.val (r:KT H kvs xs) (k:List Key):hr (cY kvs k) ((atKey xs k).map (·.2)):=by
 induction r with
 | nil=>exact iu
 | @cons p q ps qs h t b'=>
  obtain ⟨af,_,aj⟩:=h;by_cases e:p.1=k
  .have bQ:q.1=k:=af.symm.trans e;have b:atKey (q :: qs) k=some q.2:=by simp [atKey,qy,bQ]
   rw [nE e,b];exact aj
  .have bQ:¬ q.1=k:=fun z=>e (af.trans z)
   have b:atKey (q :: qs) k=atKey qs k:=by simp [atKey,qy,bQ]
   rw [m8 e,b];exact b'
theorem KT.JO (r:KT H kvs xs) (k:List Key) (bg:bD y u) :
  KT H (kvs.map fun cD=>if cD.1=k then (cD.1,y) else cD) (xs.map (putAt k u)):=by
 induction r with
 | nil=>exact .nil
 | @cons p q ps qs h t b'=>
  rw [eN,eN];refine .cons ?_ b';obtain ⟨af,aj,a'⟩:=h;unfold putAt;by_cases e:p.1=k
  .rw [if_pos e,if_pos (af.symm.trans e)];exact ⟨af,aj,bg⟩
  .rw [if_neg e,if_neg (fun z=>e (af.trans z))];exact ⟨af,aj,a'⟩
theorem KT.put (r:KT H kvs xs) (k:List Key) (ab:H b=some (.tup (k.map cM))) (bg:bD y u) :
  KT H (eb kvs k y) (storedH xs k b u):=by
 have e:(kvs.any fun cD=>decide (cD.1=k))=(atKey xs k).isSome:=by
  rw [Cf,(r.val k).wC,UI]
 unfold eb storedH;rw [e];by_cases q:(atKey xs k).isSome=true
 .rw [if_pos q,if_pos q];exact r.JO k bg
 .rw [if_neg q,if_neg q];exact VZ r ⟨rfl,ab,bg⟩
theorem KT.keeps (r:KT H kvs xs) (cK:∀ b ys,H b=some (.tup ys)->I b=some (.tup ys)):KT I kvs xs:=
 Paired.p7 r fun _ _ z=>⟨z.1,cK _ _ z.2.1,z.2.2⟩
section
variable {P:Program} {w:World} {H:au} {h:Heap} {a:Addr}
theorem TZ (ok:eh P w H h) (e:jv H a u):dy P w H h a u:=e.ok ok
theorem u3 (ok:eh P w H h) (e:jv H a (.bx kvs)):kvs.length <= sizeLine/\(a == sysModules)=false/\∃ vs,ee kvs vs/\h.DictOf (gM P w) a vs:=
 show dy P w H h a (.bx kvs) from TZ ok e
theorem nK (ok:eh P w H h) (e:H a=some (.bx kvs)):kvs.length <= sizeLine/\(a == sysModules)=false/\∃ vs,ee kvs vs/\h.DictOf (gM P w) a vs:=u3 ok (.inl e)
theorem s7 {cb:List Key} (ok:eh P w H h) (e:H a=some (.tup (cb.map cM))):(tupleKind (gM P w)).is h cb a:=by
 obtain ⟨_,a9,r,o,af,aj,n,a'⟩:=(show dy P w H h a (.tup (cb.map cM)) from ok a _ e);exact ⟨o,a9.toArray,n,af,aj,a',by simpa using OL r⟩
theorem uQ (ok:eh P w H h) (e:jv H a (.f9 kvs)):kvs.length <= sizeLine/\(a == sysModules)=false /\
  ∃ xs,KT H kvs xs/\h.DictOfH (tupleKind (gM P w)) a xs:=by
 obtain ⟨z,y,xs,r,o,aV,ep,af,aj,a',c7,eM⟩:=(show dy P w H h a (.f9 kvs) from TZ ok e);refine ⟨z,y,xs,r,o,aV,ep,af,aj,a',c7,fun x ag=>?_,eM⟩;have all:∀ {l:List (List Key × V)} {m:List (List Key × Addr × Value)},KT H l m->∀ x ∈ m,(tupleKind (gM P w)).is h x.1 x.2.1:=by
  intro l m q
  induction q with
  | nil=>intro x ag;exact nomatch ag
  | @cons p q ps qs aI t b'=>
   intro x ag;rcases fi.mp ag with e | ag
   .subst e;exact s7 ok (by rw [<- aI.1];exact aI.2.1)
   .exact b' x ag
 exact all r x ag
theorem Mx (ok:eh P w H h) (e:H a=some (.f9 kvs)):kvs.length <= sizeLine/\(a == sysModules)=false /\
  ∃ xs,KT H kvs xs/\h.DictOfH (tupleKind (gM P w)) a xs:=uQ ok (.inl e)
end
def fT (H:au) (a:Addr) (y:V) (r:Option V):Prop:=
 (∃ kvs k,jv H a (.bx kvs)/\y=cM k/\r=cY kvs k)\/∃ kvs k b,jv H a (.f9 kvs)/\y=.ref b/\H b=some (.tup (k.map cM))/\r=cY kvs k
def kf (H:au) (a:Addr) (y v:V) (I:au):Prop:=
 (∃ kvs k,H a=some (.bx kvs)/\y=cM k/\kvs.length < sizeLine/\I=upd H a (.bx (eb kvs k v))) \/
 ∃ kvs k b,H a=some (.f9 kvs)/\y=.ref b/\H b=some (.tup (k.map cM))/\kvs.length < sizeLine/\I=upd H a (.f9 (eb kvs k v))
theorem fT.k {k:Key} (e:H a=some (.bx kvs)):fT H a (cM k) (cY kvs k):=.inl ⟨kvs,k,.inl e,rfl,rfl⟩
theorem fT.t {k:List Key} (e:H a=some (.f9 kvs)) (eO:H b=some (.tup (k.map cM))):fT H a (.ref b) (cY kvs k):=.inr ⟨kvs,k,b,.inl e,rfl,eO,rfl⟩
theorem kf.k {k:Key} (e:H a=some (.bx kvs)) (aA:kvs.length < sizeLine):kf H a (cM k) v (upd H a (.bx (eb kvs k v))):=.inl ⟨kvs,k,e,rfl,aA,rfl⟩
theorem kf.t {k:List Key} (e:H a=some (.f9 kvs)) (eO:H b=some (.tup (k.map cM))) (aA:kvs.length < sizeLine) :
  kf H a (.ref b) v (upd H a (.f9 (eb kvs k v))):=.inr ⟨kvs,k,b,e,rfl,eO,aA,rfl⟩
section
variable {X:a3} {aa:List (Addr × Obj)} {σ:St} {H:au} {s:Shared} {a:Addr} {y v:V} {u r:Value} {o:Option V} {A:Around} {E:Value->Shared->Prop}
theorem Inv.big (J:Inv X aa σ H s):sysModules < s.heap.objs.size:=by
 have h:mainGlobals < s.heap.objs.size:=(J.mod.glob.keeps J.cA).lt;exact Ve (by decide) h
theorem ajP (br:A.units + 1 < cLine) (J:Inv X aa σ H s) (g:fT H a y (some v)) (bg:bD y u) (h:∀ d8 s',Inv X aa σ H s'->bD v d8->Q d8 s') :
  wpAny (model X.prog X.w) A (getItem (.ref a) u) Q E s:=by
 rcases g with ⟨kvs,k,e,h6,l⟩ | ⟨kvs,k,b,e,h6,eO,l⟩
 .subst h6;obtain ⟨z,hd,vs,rel,b7⟩:=u3 J.a4 e;obtain ⟨d8,hw,h9⟩:=hr.some_of (v:=v) (o:=valueAt vs k) (by rw [l];exact rel.val k);exact wpAny_getItem_of (qJ bg) b7.mapOf hw (h d8 _ (J.tok _) h9)
 .subst h6;cases (show u=dz b from bg);obtain ⟨z,hd,xs,rel,b7⟩:=uQ J.a4 e;obtain ⟨d8,hw,h9⟩:=hr.some_of (v:=v) (o:=(atKey xs k).map (·.2)) (by rw [l];exact rel.val k);obtain ⟨p,ar,gB⟩:=vf.mp hw;refine wpAny_getItem_heap (tupleKind_room_in1 br) (s7 J.a4 eO) b7 ar ?_;rw [gB];exact h d8 _ (J.tok _) h9
theorem GT (br:A.units + 1 < cLine) (J:Inv X aa σ H s) (g:fT H a y o) (bg:bD y u) (h:∀ s',Inv X aa σ H s'->Q (.bool o.isSome) s') :
  wpAny (model X.prog X.w) A (compareOp .In u (.ref a)) Q E s:=by
 rcases g with ⟨kvs,k,e,h6,l⟩ | ⟨kvs,k,b,e,h6,eO,l⟩
 .subst h6;obtain ⟨z,hd,vs,rel,b7⟩:=u3 J.a4 e;refine wpAny_in_of (qJ bg) hd b7.mapOf ?_;rw [<- (rel.val k).wC,<- l];exact h _ (J.tok _)
 .subst h6;cases (show u=dz b from bg);obtain ⟨z,hd,xs,rel,b7⟩:=uQ J.a4 e;refine wpAny_in_heap (tupleKind_room_in1 br) (s7 J.a4 eO) hd b7 ?_;have q:=(rel.val k).wC;rw [UI] at q;rw [<- q,<- l];exact h _ (J.tok _)
theorem afa (br:A.units + 1 < cLine) (J:Inv X aa σ H s) (g:fT H a y o) (bg:bD y u) (h:∀ s',Inv X aa σ H s'->Q (.bool (!o.isSome)) s') :
  wpAny (model X.prog X.w) A (compareOp .NotIn u (.ref a)) Q E s:=by
 rcases g with ⟨kvs,k,e,h6,l⟩ | ⟨kvs,k,b,e,h6,eO,l⟩
 .subst h6;obtain ⟨z,hd,vs,rel,b7⟩:=u3 J.a4 e;refine wpAny_notIn_of (qJ bg) hd b7.mapOf ?_;rw [<- (rel.val k).wC,<- l];exact h _ (J.tok _)
 .subst h6;cases (show u=dz b from bg);obtain ⟨z,hd,xs,rel,b7⟩:=uQ J.a4 e;refine wpAny_notIn_heap (tupleKind_room_in1 br) (s7 J.a4 eO) hd b7 ?_;have q:=(rel.val k).wC;rw [UI] at q;rw [<- q,<- l];exact h _ (J.tok _)
theorem Ae (J:Inv X aa σ H s) (fe:l8 (H a)) (ay:t_ a s.heap h') (he:∃ q,h'.get? a=some q) (new:dy X.prog X.w (upd H a bV) h' a bV) :
  Inv X aa σ (upd H a bV) { s with heap:=h',toks:=t' }:=
 J.write (x:=a) (e:=a) fe (.inl rfl) (fun b q ab z=>(ay.2 b ab).trans z) he new
theorem Mh {w:World} (z:kvs.length <= sizeLine) (hd:(a == sysModules)=false) (rel:ee kvs vs) (b7:h'.DictOf (gM P w) a vs) :
  dy P w I h' a (.bx kvs):=⟨z,hd,vs,rel,b7⟩
theorem NJ (br:A.units + 1 < cLine) (J:Inv X aa σ H s) (g:kf H a y v I) (bg:bD y u) (cG:bD v r) (h:∀ s',Inv X aa σ I s'->Q () s') :
  wpAny (model X.prog X.w) A (setItem (.ref a) u r) Q E s:=by
 rcases g with ⟨kvs,k,e,h6,l,w4⟩ | ⟨kvs,k,b,e,h6,eO,l,w4⟩
 .subst h6 w4;obtain ⟨z,hd,vs,rel,b7⟩:=nK J.a4 e;have aJ:vs.length <= sizeLine:=by rw [<- rel.length];exact z
  have aA:(eb kvs k v).length <= sizeLine:=by have:=Lo kvs k v;omega
  refine wpAny_setItem_pairs (hsz:=aJ) (qJ bg) b7 fun h' oL ay=>h _ ?_
  have he:∃ q,h'.get? a=some q:=let ⟨q,_,_,aI,_⟩:=oL;⟨q,aI⟩;exact Ae J (by rw [e];exact iu) ay he (Mh aA hd (rel.put k cG) oL)
 .subst h6 w4;cases (show u=dz b from bg);obtain ⟨z,hd,xs,rel,b7⟩:=Mx J.a4 e;have aJ:xs.length <= sizeLine:=by rw [<- FI rel];exact z
  have aA:(eb kvs k v).length <= sizeLine:=by have:=Lo kvs k v;omega
  refine wpAny_setItem_heap (hsz:=aJ) (tupleKind_room_in1 br) (s7 J.a4 eO) b7 fun h' oL ay=>h _ ?_
  obtain ⟨q,aV,ep,aI,aj,a',c7,_,eM⟩:=oL;refine Ae J (by rw [e];exact iu) ay ⟨q,aI⟩ ⟨aA,hd,_,(rel.put k eO cG).keeps fun c ys kg=>?_,q,aV,ep,aI,aj,a',c7,eM⟩;rw [aH (b0 kg e (fun z=>nomatch z))];exact kg
end
section
variable {X:a3} {aa:List (Addr × Obj)} {σ:St} {H:au} {s:Shared} {a:Addr} {kvs:List (Key × V)} {k:Key} {u:Value} {A:Around} {E:Value->Shared->Prop}
theorem ama (J:Inv X aa σ H s) (e:H a=some (.bx kvs)) (bg:bD (cM k) u) (l:cY kvs k=some v) (hm:more=[]\/∃ x,more=[x])
  (h:∀ d8 s',Inv X aa σ (upd H a (.bx (p3 kvs k))) s'->bD v d8->Q d8 s'):wpAny (model X.prog X.w) A (call (.builtin "dict.pop") (.ref a :: u :: more)) Q E s:=by
 obtain ⟨z,hd,vs,rel,b7⟩:=nK J.a4 e;obtain ⟨d8,hw,h9⟩:=hr.some_of (v:=v) (o:=valueAt vs k) (by rw [<- l];exact rel.val k);have ar:(keyPart u).isSome=true:=by
  cases k with
  | inl i=>obtain ⟨t,q⟩:=(show ∃ t,u=mN i t from bg);subst q;rfl
  | inr x=>obtain ⟨t,q⟩:=(show ∃ t,u=qe x t from bg);subst q;rfl
 have aO:argsOk "dict.pop" ⟨.ref a :: u :: more,[]⟩:=by
  rcases hm with q | ⟨x,q⟩
  .subst q;exact PySem.F.args_dict_pop_2 _ _
  .subst q;exact aek _ _ _
 refine call_meetsIn Ua b7.typeIs Zf aO (meets_dict_pop_there (gM X.prog X.w) a (qJ bg) more hm ar)
  ⟨vs,d8,b7,by rw [<- rel.length];exact z,hw,fun h' oL ay=>h d8 _ ?_ h9⟩
 have he:∃ q,h'.get? a=some q:=let ⟨q,_,_,aI,_⟩:=oL;⟨q,aI⟩;exact Ae J (by rw [e];exact iu) ay he (Mh (cP (akn kvs k) z) hd (rel.drop k) oL)
theorem abk (J:Inv X aa σ H s) (e:H a=some (.bx kvs)) (bg:bD (cM k) u) (l:cY kvs k=none) (h:∀ s',Inv X aa σ H s'->Q r s') :
  wpAny (model X.prog X.w) A (call (.builtin "dict.pop") [.ref a,u,r]) Q E s:=by
 obtain ⟨z,hd,vs,rel,b7⟩:=nK J.a4 e;have aY:valueAt vs k=none:=hr.none_of (by rw [<- l];exact rel.val k);have ar:(keyPart u).isSome=true:=by
  cases k with
  | inl i=>obtain ⟨t,q⟩:=(show ∃ t,u=mN i t from bg);subst q;rfl
  | inr x=>obtain ⟨t,q⟩:=(show ∃ t,u=qe x t from bg);subst q;rfl
 exact call_meetsIn Ua b7.typeIs Zf (aek _ _ _) (meets_dict_pop_default (gM X.prog X.w) a (qJ bg) hd ar r) ⟨vs,b7,aY,h _ (J.tok _)⟩
end
def G4 (i:Expr):Prop:=∀ d0 ma,subscripted i false d0 ma=operate [d0,ma] (getItem d0 ma)
theorem V9 {prog:Program} {w:World} {A:Around} {E:Value->Shared->Prop} {s:Shared} {env:Env} {value slice:Expr} {pos:Pos} {T id:String} {Q:Value->Shared->Prop}
  (aA:typeLookup (.type T) "__getitem__"=pure (some (.builtin id))) (ay:G4 slice)
  (h:wpAny (model prog w) A (eval value env) (fun o dd=>wpAny (model prog w) A (eval slice env) (fun i dV=>dV.TypeIs o T/\wpAny (model prog w) A (getItem o i) Q E dV) E dd) E s) :
  wpAny (model prog w) A (eval (.Subscript value slice pos) env) Q E s:=by
 refine Subscript_ (wpAny_mono h (fun o dd h₁=>wpAny_mono h₁ (fun i dV xq=>?_) fun _ _ x=>x) fun _ _ x=>x);obtain ⟨et,xq⟩:=xq;unfold subscriptTail;refine wpAny_bind ?_;rw [getitemInPython_of_ne et.not_modules];refine wpAny_bind (wpAny_specialOf et aA ?_);have fin:wpAny (model prog w) A (subscripted slice false o i) (fun r l6=>wpAny (model prog w) A (letTemporaryGo value o r >>= fun _=>pure r) Q E l6) E dV:=by
  rw [ay o i];exact wpAny_operating (wpAny_mono xq (fun r l6 za=>wpAny_bind (wpAny_letTemporaryGo (wpAny_pure za))) fun _ _ x=>x)
 first
  | exact wpAny_pure (wpAny_bind fin)
  | exact wpAny_bind (wpAny_pure (wpAny_bind fin))
  | exact wpAny_bind fin
theorem aca (J:Inv X aa σ H s) (g:fT H a y o):s.TypeIs (.ref a) "dict" := by
 rcases g with ⟨kvs,k,e,_,_⟩ | ⟨kvs,k,b,e,_,_,_⟩
 .obtain ⟨_,_,vs,_,b7⟩:=u3 J.a4 e;exact b7.typeIs
 .obtain ⟨_,_,xs,_,b7⟩:=uQ J.a4 e;exact b7.typeIs
noncomputable def K1 (fg ty:TE):TE:=fun σ H Q=>fg σ H fun x H1=>ty σ H1 fun y aw=>fa x fun a=>∃ v,fT aw a y (some v)/\Q v aw
noncomputable def GW (ty fg:TE):TE:=fun σ H Q=>ty σ H fun y H1=>fg σ H1 fun x aw=>fa x fun a=>∃ o,fT aw a y o/\Q (.bo o.isSome) aw
noncomputable def Kb (ty fg:TE):TE:=fun σ H Q=>ty σ H fun y H1=>fg σ H1 fun x aw=>fa x fun a=>∃ o,fT aw a y o/\Q (.bo (!o.isSome)) aw
noncomputable def IY (fg ty e3:TE):dF:=fun D σ H=>e3 σ H fun v H1=>fg σ H1 fun x aw=>ty σ aw fun y bw=>fa x fun a=>∃ cS,kf bw a y v cS/\D.b2 σ cS
section
variable {X:a3} {o i e value:Expr} {pos pos' vT:Pos} {fg ty e3:TE}
theorem ny (br:X.A.units + 1 < cLine) (aQ:bp X o fg) (ah:bp X i ty) (ay:G4 i):bp X (.Subscript o i pos) (K1 fg ty):=by
 intro aa s σ H Q J h;refine V9 acF.lookup ay (bA (aQ aa s σ H _ J h) fun u s1 b4=>ea b4 fun x H1 aN bb bS=>bA (ah aa s1 σ H1 _ aN bS) fun ma s2 b4=>ea b4 fun y aw bu bg gv=>?_);obtain ⟨a,ex,v,g,dn⟩:=fa.out gv;subst ex;obtain rfl:u=dz a:=bb;exact ⟨aca bu g,ajP br bu g bg fun d8 s3 ed h9=>⟨v,aw,ed,h9,dn⟩⟩
theorem KM (br:X.A.units + 1 < cLine) (ah:bp X i ty) (aQ:bp X o fg):Ew X .In i o (GW ty fg):=by
 intro aa s σ H Q J h;refine bA (ah aa s σ H _ J h) fun ma s1 b4=>ea b4 fun y H1 aN bg bS=>bA (aQ aa s1 σ H1 _ aN bS) fun u s2 b4=>ea b4 fun x aw bu bb gv=>?_
 obtain ⟨a,ex,d0,g,dn⟩:=fa.out gv;subst ex;obtain rfl:u=dz a:=bb;exact GT br bu g bg fun s3 ed=>⟨.bo d0.isSome,aw,ed,rfl,dn⟩
theorem Fg (br:X.A.units + 1 < cLine) (ah:bp X i ty) (aQ:bp X o fg):Ew X .NotIn i o (Kb ty fg):=by
 intro aa s σ H Q J h;refine bA (ah aa s σ H _ J h) fun ma s1 b4=>ea b4 fun y H1 aN bg bS=>bA (aQ aa s1 σ H1 _ aN bS) fun u s2 b4=>ea b4 fun x aw bu bb gv=>?_
 obtain ⟨a,ex,d0,g,dn⟩:=fa.out gv;subst ex;obtain rfl:u=dz a:=bb;exact afa br bu g bg fun s3 ed=>⟨.bo (!d0.isSome),aw,ed,rfl,dn⟩
theorem p0 (br:X.A.units + 1 < cLine) (aQ:bp X o fg) (ah:bp X i ty) (aF:bp X value e3) (ay:swapsWith value (some (.Subscript o i pos')) pos.line X.env=pure false) :
  gJ X (.Assign [.Subscript o i pos'] value pos) (IY fg ty e3):=by
 intro aa s σ H D J h;refine wpAny_Assign_Subscript (bA (aF aa s σ H _ J h) fun r s1 b4=>ea b4 fun v H1 aN cG bS=>bA (aQ aa s1 σ H1 _ aN bS) fun u s2 b4=>ea b4 fun x aw bu bb dn=>bA (ah aa s2 σ aw _ bu dn) fun ma s3 b4=>ea b4 fun y bw ed bg gv=>?_) ay;obtain ⟨a,ex,cS,g,fJ⟩:=fa.out gv;subst ex;obtain rfl:u=dz a:=bb;exact NJ br ed g bg cG fun s4 hB=>⟨σ,cS,hB,fJ⟩
end
theorem Rq {w:World} (h:Heap) (ab:sysModules < h.objs.size):dy P w H (h.push { cls:=.type "dict",data:=.dict #[] }) h.objs.size (.bx []):=
 ⟨fC _,beq_eq_false_iff_ne.mpr (dg (fR ab)),[],.nil,Heap.DictOf.new h⟩
theorem aiN {w:World} (h:Heap) (ab:sysModules < h.objs.size):dy P w H (h.push { cls:=.type "dict",data:=.dict #[] }) h.objs.size (.f9 []):=
 ⟨fC _,beq_eq_false_iff_ne.mpr (dg (fR ab)),[],.nil,_,#[],0,hc _ rfl,⟨rfl,rfl,rfl⟩,rfl,rfl,Kx⟩
noncomputable def Ll:TE:=fun _ H Q=>∀ p,H p=none->Q (.ref p) (upd H p (.bx []))
noncomputable def Js:TE:=fun _ H Q=>∀ p,H p=none->Q (.ref p) (upd H p (.f9 []))
section
variable {X:a3} {pos:Pos}
theorem vM:bp X (.Dict [] [] pos) Ll:=fun aa s σ H Q J h=>
 wpAny_Dict_empty ⟨.ref s.heap.objs.size,_,J.laid (a:=s.heap.objs.size) (o:=.bx []) (t':=s.toks) (fun _ _ q=>dE _ q) (bW _) (Rq s.heap J.big),rfl,h _ (J.a4.fresh (bW _))⟩
theorem afH:bp X (.Dict [] [] pos) Js:=fun aa s σ H Q J h=>
 wpAny_Dict_empty ⟨.ref s.heap.objs.size,_,J.laid (a:=s.heap.objs.size) (o:=.f9 []) (t':=s.toks) (fun _ _ q=>dE _ q) (bW _) (aiN s.heap J.big),rfl,h _ (J.a4.fresh (bW _))⟩
end
noncomputable def zT:List (TE × TE)->St->au->(List (V × V)->au->Prop)->Prop
 | [],_,H,Q=>Q [] H
 | (tk,e3) :: r,σ,H,Q=>tk σ H fun x H1=>e3 σ H1 fun y aw=>zT r σ aw fun ps bw=>Q ((x,y) :: ps) bw
noncomputable abbrev VL:List (V × V)->List (Value × Value)->Prop:=Paired fun p q=>bD p.1 q.1/\bD p.2 q.2
def z9 (X:a3) (pos:Pos) (keys:List (Option Expr)) (values:List Expr) (rR:List (TE × TE)):Prop:=
 ∀ (aa:List (Addr × Obj)) (s:Shared) (σ:St) (H:au) (Q:List (V × V)->au->Prop),Inv X aa σ H s->zT rR σ H Q ->
  wpAny (model X.prog X.w) X.A (evalPairs (pairTrees keys values X.env pos)) (fun vs s'=>∃ ps I,Inv X aa σ I s'/\VL ps vs/\Q ps I) X.du s
theorem agt:z9 X pos [] [] []:=fun aa s σ H Q J h=>pairTrees_nil_walk ⟨[],H,J,.nil,h⟩
theorem VF {k v:Expr} {cb:List (Option Expr)} (aC:bp X k tk) (aF:bp X v e3) (ak:z9 X pos cb vs rR) :
  z9 X pos (some k :: cb) (v :: vs) ((tk,e3) :: rR):=fun aa s σ H Q J h=>
 pairTrees_cons_walk (bA (aC aa s σ H _ J h) fun u s1 b4=>ea b4 fun x H1 aN bb bS=>bA (aF aa s1 σ H1 _ aN bS) fun dH s2 ⟨y,aw,bu,bg,dn⟩=>
  bA (ak aa s2 σ aw _ bu dn) fun ws s3 ⟨ps,bw,ed,rel,fJ⟩=>⟨(x,y) :: ps,bw,ed,.cons ⟨bb,bg⟩ rel,fJ⟩)
noncomputable def r_ (kvs more:List (Key × V)):List (Key × V):=more.foldl (fun acc cD=>eb acc cD.1 cD.2) kvs
theorem ee.merge:∀ {more:List (Key × V)} {rs:List (Key × Value)} {kvs:List (Key × V)} {vs:List (Key × Value)},ee more rs->ee kvs vs->ee (r_ kvs more) (merged vs rs):=by
 intro more rs kvs vs r;unfold ee at r
 induction r generalizing kvs vs with
 | nil=>intro q;exact q
 | @cons p q ps qs h t b'=>
  intro xg;have e:ee (eb kvs p.1 p.2) (stored vs q.1 q.2):=by
   have:=xg.put p.1 h.2;rw [<- h.1];exact this
  exact b' e
theorem P':∀ (more kvs:List (Key × V)),(r_ kvs more).length <= kvs.length + more.length
 | [],kvs=>by show kvs.length <= kvs.length + 0;omega
 | p :: r,kvs=>by
  have af:=P' r (eb kvs p.1 p.2);have aj:=Lo kvs p.1 p.2;show (r_ (eb kvs p.1 p.2) r).length <= _;rw [hi];omega
theorem OB {w:World}:∀ {kvs:List (Key × V)} {ws:List (Value × Value)},VL (kvs.map fun cD=>(cM cD.1,cD.2)) ws->∃ rs,Carries (gM P w) ws rs/\ee kvs rs
 | [],_,r=>by rw [p'] at r;cases r;exact ⟨[],iu,.nil⟩
 | p :: kvs,_,r=>by
  rw [eN] at r;cases r with
  | @cons a b as bs h t=>
   obtain ⟨rs,c,q⟩:=OB (P:=P) (w:=w) t;obtain ⟨gY,e9⟩:=b;exact ⟨(p.1,e9) :: rs,⟨qJ h.1,rfl,c⟩,.cons ⟨rfl,h.2⟩ q⟩
noncomputable def IV (rR:List (TE × TE)):TE:=fun σ H Q=>∀ p,H p=none->zT rR σ (upd H p (.bx [])) fun ps aw=>aw p=some (.bx [])/\∃ kvs:List (Key × V),ps=kvs.map (fun cD=>(cM cD.1,cD.2))/\kvs.length <= 15/\Q (.ref p) (upd aw p (.bx (r_ [] kvs)))
theorem ait {keys:List (Option Expr)} (h:z9 X pos keys values rR) (pj:keys.all (·.isSome)=true) (aA:keys.length=values.length) (h0:keys ≠ [])
  (ajG:keys.length <= 15):bp X (.Dict keys values pos) (IV rR):=by
 intro aa s σ H Q J q;have aY:=J.a4.fresh (bW s.heap.objs.size);have aN:=J.laid (a:=s.heap.objs.size) (o:=.bx []) (h':=s.heap.push { cls:=.type "dict",data:=.dict #[] }) (t':=s.toks) (fun _ _ q=>dE _ q) (bW _) (Rq s.heap J.big);refine wpAny_Dict_walk (knd:=gM X.prog X.w) pj aA h0 ajG (bA (h aa _ σ _ _ aN (q _ aY)) fun ws s2 cF=>?_);obtain ⟨ps,aw,bu,rel,e,kvs,ep,lk,dn⟩:=cF;subst ep;obtain ⟨rs,c,Gm⟩:=OB (P:=X.prog) (w:=X.w) rel;obtain ⟨z,hd,abo,xg,b7⟩:=nK bu.a4 e;cases xg;refine ⟨rs,c,b7,fun h' oL ay=>⟨.ref s.heap.objs.size,_,?_,rfl,dn⟩⟩;have aJ:(r_ [] kvs).length <= sizeLine:=by
  have af:=P' kvs [];rw [x4] at af;rw [sizeLine_eq];omega
 have he:∃ q,h'.get? s.heap.objs.size=some q:=let ⟨q,_,_,aI,_⟩:=oL;⟨q,aI⟩;exact Ae bu (by rw [e];exact iu) ay he (Mh aJ hd (Gm.merge .nil) oL)
structure anK (X:a3) (o:Expr) (m:Str) (eT:Pos) (e:Expr) (hM:Pos):Prop where
 base:attributeBase o m X.env (eval o X.env)=eval o X.env
 QA:((backTo hM (starEach [e] X.env)).all (fun x=>!x.1) && (backToKw hM (keywordEach [] X.env)).all (fun x=>x.1.isSome)
  && decide (([e]:List Expr).length + ([]:List Keyword).length + (if ([]:List Keyword).isEmpty then 0 else 1) < 30))=true
 line:(eT.endLine == hM.line)=true
 trees:backTo hM (starEach [e] X.env)=[(false,eval e X.env)]
structure M2 (X:a3) (o:Expr) (m:Str) (eT:Pos) (e f:Expr) (hM:Pos):Prop where
 base:attributeBase o m X.env (eval o X.env)=eval o X.env
 QA:((backTo hM (starEach [e,f] X.env)).all (fun x=>!x.1) && (backToKw hM (keywordEach [] X.env)).all (fun x=>x.1.isSome)
  && decide (([e,f]:List Expr).length + ([]:List Keyword).length + (if ([]:List Keyword).isEmpty then 0 else 1) < 30))=true
 line:(eT.endLine == hM.line)=true
 trees:backTo hM (starEach [e,f] X.env)=[(false,eval e X.env),(false,eval f X.env)]
def F0 (H:au) (a:Addr):Prop:=(∃ kvs,jv H a (.bx kvs))\/∃ kvs,jv H a (.f9 kvs)
theorem aik (J:Inv X aa σ H s) (d:F0 H a) :
  s.TypeIs (.ref a) "dict" /\ (∀ b,dz a=.ref b->∃ bV,s.heap.get? b=some bV/\bV.dict=none)/\(a == sysModules)=false:=by
 rcases d with ⟨kvs,e⟩ | ⟨kvs,e⟩
 .obtain ⟨_,hd,vs,_,b7⟩:=u3 J.a4 e;refine ⟨b7.typeIs,fun b q=>?_,hd⟩;cases q;obtain ⟨bV,_,_,af,aj,_⟩:=b7;exact ⟨bV,af,aj.2.1⟩
 .obtain ⟨_,hd,xs,_,b7⟩:=uQ J.a4 e;refine ⟨b7.typeIs,fun b q=>?_,hd⟩;cases q;obtain ⟨bV,_,_,af,aj,_⟩:=b7;exact ⟨bV,af,aj.2.1⟩
section
variable {X:a3} {aa:List (Addr × Obj)} {σ:St} {H:au} {s:Shared} {a:Addr} {y d:V} {u r:Value} {o:Option V} {A:Around} {E:Value->Shared->Prop}
end
noncomputable def O' (fg ty rd:TE):TE:=fun σ H Q=>fg σ H fun x H1=>∃ a,x=.ref a/\F0 H1 a/\ty σ H1 fun y aw=>rd σ aw fun z bw=>∃ kvs k,bw a=some (.bx kvs)/\y=cM k /\
 (∀ v,cY kvs k=some v->Q v (upd bw a (.bx (p3 kvs k))))/\(cY kvs k=none->Q z bw)
section
variable {X:a3} {o e f:Expr} {eT hM:Pos} {fg ty rd:TE}
theorem VX (aQ:bp X o fg) (he:bp X e ty) (hf:bp X f rd) (m:M2 X o "pop" eT e f hM):bp X (.Call (.Attribute o "pop" eT) [e,f] [] hM) (O' fg ty rd):=by
 intro aa s σ H Q J h;refine wpAny_Call_method m.base m.QA m.line E7 Ua PySem.F.type_dict_pop (bA (aQ aa s σ H _ J h) fun u s1 cF=>?_);obtain ⟨x,H1,aN,bb,a,ex,d,bS⟩:=cF;subst ex;obtain rfl:u=dz a:=bb;obtain ⟨t1,fy,_⟩:=aik aN d;refine ⟨t1,fy,?_⟩;rw [m.trees];refine Nu rfl (YR (Rd (bA (he aa s1 σ H1 _ aN bS) fun ma s2 ⟨y,aw,bu,bg,dn⟩=>
  Rd (bA (hf aa s2 σ aw _ bu dn) fun adb s3 ⟨z,bw,ed,I5,kvs,k,ei,h6,fJ,v7⟩=>Y' ?_))))
 subst h6;cases l:cY kvs k with
 | some v=>exact ama ed ei bg l (.inr ⟨adb,rfl⟩) fun d8 s4 hB h9=>⟨v,_,hB,h9,fJ v l⟩
 | none=>exact abk ed ei bg l fun s4 hB=>⟨z,bw,hB,I5,v7 l⟩
end
section
variable {X:a3} {aa:List (Addr × Obj)} {σ:St} {H:au} {s:Shared} {a:Addr} {kvs:List (Key × V)} {A:Around} {E:Value->Shared->Prop}
end
section
variable {X:a3} {aa:List (Addr × Obj)} {σ:St} {H:au} {s:Shared} {a:Addr} {y:V} {u:Value} {A:Around} {E:Value->Shared->Prop}
end
end L2
namespace PI
open PySem PySem.W PySem.Calls PyProof.Rows
theorem al_ {h:Heap}:∀ (ns:List Int) (vs:List Value),WellAll P h vs (ns.map aeo)->IntsAre vs ns:=by
 intro ns
 induction ns with
 | nil=>
  intro vs w;rw [p'] at w;cases w;exact .nil
 | cons n ns b'=>
  intro vs w;rw [eN] at w;cases w with
  | cons a b=>
   cases a;exact .cons _ _ (b' _ b)
theorem adx {l:OpenLaw} {n:Nat} (aY:l.most=some n) {P:Params} {h:Heap} {args:List WData} {FO:List Value}
  (DJ:l.row.toRowW.claim.pre args=true) (gs:WellAll P h FO args) :
  ∃ a vs ns,FO=[dz a]/\args=[WData.list (ns.map aeo)]/\h.get? a=some { cls:=.type "list",data:=.seq vs.toArray }/\IntsAre vs ns/\ns.length <= n:=by
 have gn:WShape.hasAll [] args [.list .int]=true:=(pre_splitW DJ).1;have av:l.pre.holds [] { args:=args }=true:=(pre_splitW DJ).2;obtain ⟨d,r,rfl,af,aj⟩:=hasAllW_cons gn;obtain rfl:=hasAllW_nil aj;obtain ⟨xs,rfl,a'⟩:=hasW_list af;obtain ⟨ns,rfl⟩:=items_int a';have hlen:ns.length <= n:=by
  unfold OpenLaw.pre at av;have c7:(WTm.not (.lt (.lit (.int (n:Int))) (.len (.arg 0)))).holds [] { args:=[.list (ns.map .int)] }=true:=by
   have c7:=(holds_andW av).1;rw [aY] at c7;exact c7
  have eM:=condW_of c7 (w_not (w_lt w_lit (w_len_list (w_arg rfl))));rw [a0] at eM;refine X_ fun q=>?_
  have cW:(n:Int) < ((ns.length:Nat):Int):=by omega
  first
   | (rw [decide_eq_true cW] at eM;exact absurd eM (by decide))
   | (simp at eM;omega)
 cases gs with
 | cons c9 dH=>
  cases dH;cases c9 with
  | list aQ pj=>exact ⟨_,_,ns,rfl,rfl,aQ,al_ ns _ pj,hlen⟩
theorem abA (l:OpenLaw) (args:List WData):l.row.toRowW.claim.post args (.bool true) args=true:=
 postW_of (r:=l.row.toRowW) (X:=(true == true))
  (show ah3 [] (.bool true) .bool=true by first | rfl | decide | simp [ah3,WShape.arms,WShape.armsAll])
  (show (WTm.eq .res (.lit (.bool true))).value [] { args:=args,res:=some (.bool true),after:=args }=some (.bool (true == true)) from w_eq_bool (w_res rfl) w_lit) rfl
theorem al3 {l:OpenLaw} {n:Nat} {q:Program} {loose:List Str} {CH:(Str->Option Value)->Heap->Prop} {uE:World->Heap->Prop} {d:DefRec}
  (aY:l.most=some n) (Mr:d.params.defaults=[])
  (call:∀ (w:World) (fv dd:Shared) (mg mx:Str->Option Value) (gd:Addr) (o:Obj) (pm cd doc:Value) (a:Addr) (vs:List Value) (ns:List Int),
   Ground q loose [] CH w fv mg mx dd.heap->uE w dd.heap ->
   dd.heap.get? gd=some o->o.data=.func (docDef d.name d.params d.body d.scope pm cd doc)->dd.heap.CodeRec cd d.name->mg d.name=some (.ref gd) ->
   dd.heap.get? a=some { cls:=.type "list",data:=.seq vs.toArray }->IntsAre vs ns->ns.length <= n->dd.gens=#[] ->
   codeAny (model l.prog w) callerA (.call (.ref gd) ⟨[.ref a],[]⟩) (fun r s'=>r=.ok (.ret (.bool true))/\OldK dd.heap s'.heap/\s'.os=dd.os/\AllBare s'.gens) dd) :
  WalkO q loose CH uE l.row.toRowW d [] (fun f vs=>ahh f vs):=by
 intro w fv dd mg mx G Y gd o pm cd doc BA cM aQ hd jG cL xc a5 args FO as DJ an' apj gs vW;obtain rfl:BA=.none:=Dflts.none cL Mr;obtain rfl:cM=.none:=Dflts.noKw cL;obtain ⟨a,vs,ns,rfl,rfl,Ii,hints,hlen⟩:=adx aY DJ gs;refine enter_call (codeAny_mono (call w fv dd mg mx gd o pm cd doc a vs ns G Y aQ (fd_plain hd) jG xc Ii hints hlen a5) fun r s' aI=>?_);obtain ⟨rfl,aj,a',c7⟩:=aI;exact ⟨.inl ⟨.bool true,.bool true,[],rfl,fun _=>rfl,.bool true,abA l _,fun _=>⟨apm,fun _ hm=>(nomatch hm)⟩⟩,aj,a',c7⟩
section
variable {prog:Program} {w:World} {A:Around} {E:Value->Shared->Prop} {s:Shared} {K:Frag}
end
end PI
namespace L2
open PySem PySem.Spec PyProof.Rows
theorem Po:∀ {vs:List Value} {ns:List Int},IntsAre vs ns->bU (ns.map V.int) vs
 | _,_,.nil=>.nil
 | _,_,.cons n t h=>.cons ⟨t,rfl⟩ (Po h)
noncomputable abbrev GO {K:a_} {h:Heap} (_:K.In h):a_:=K
noncomputable def eR (s:Stmt) (j:Nat):Stmt:=match s with
 | .ClassDef _ _ _ body _ _ _ _ _ _ _=>body.getD j (.Pass ⟨0,0,0,0⟩)
 | _=>.Pass ⟨0,0,0,0⟩
noncomputable def Bt (s:Stmt):Arguments:=match s with
 | .FunctionDef _ a _ _ _ _ _ _ _ _=>a
 | _=>{ posonlyargs:=[],args:=[],vararg:=none,kwonlyargs:=[],kw_defaults:=[],kwarg:=none,defaults:=[] }
noncomputable def p5 (s:Stmt):List Stmt:=match s with
 | .FunctionDef _ _ b _ _ _ _ _ _ _=>b
 | _=>[]
noncomputable def bz (s:Stmt):Scope:=match s with
 | .FunctionDef _ _ _ _ _ _ sc _ _ _=>sc
 | _=>{ kind:=.function,names:=[],isGenerator:=false,isCoroutine:=false }
noncomputable abbrev dr:jc:=fun _ _ _ _ _ _=>False
noncomputable abbrev sO:dZ:=fun _ _ _=>False
theorem cx:n3 dr X sO:=fun _ _ _ _ _ _ _ h=>h.elim
structure b8 (K:a_) (x qual:Str) (st:Stmt) (f:Addr) (fd:FuncData):Prop where
 ex:∃ (md:Value) (bk:Option Addr) (cM doc pm:Value) (an:Option Addr) (eP eH:Value) (qf:Array (Option Value)),
  fd=we x qual (Bt st) (p5 st) (bz st) .none cM doc pm an eP eH/\K.lookup f=some ⟨md,bk,.func fd,qf⟩/\VQ K eP qual=true
 bH:qr K (.ref f)=true
section
variable {P:Program} {w:World} {K:a_} {mg:Str->Option Value} {base:Heap}
theorem b8.ok {x qual:Str} {st:Stmt} {fd:FuncData} {N ps:List Str} {k:Nat} (F:b8 K x qual st f fd) (S:ck N ps (bz st)) (len:∀ vs H Q E,sp vs H Q E->vs.length=ps.length)
  (nv:∀ (eP:Value) (A:Around) (outer:List Env) (s:Shared) (H:au) (vs:List V) (Q:cJ) (E:dZ),dX k (A.deeper (envOfC qual (bz st) s.heap.objs.size f eP))->sp vs H Q E ->
   ∃ t,iR (mr dr P w K mg base N qual (bz st) f eP A outer s H E).lD (p5 st) t/\t { b2:=fun _ I=>Q .bO I,ku:=Q } (start N vs) H):b_ P w K mg base dr (k + 1) f fd ps sp:=by
 obtain ⟨md,bk,cM,doc,pm,an,eP,eH,qf,rfl,lk,jG⟩:=F.ex;refine Mb lk jG S len fun A outer s H vs Q E ak mG=>?_
 obtain ⟨t,h,q⟩:=nv eP A outer s H vs Q E ak mG;exact ⟨t,h.lD,q⟩
theorem b8.binds {x qual:Str} {st:Stmt} {fd:FuncData} (F:b8 K x qual st f fd)
  (h:∀ (cM doc pm:Value) (an:Option Addr) (eP eH:Value) (us:List Value),us.length=ps.length->bindArgs (we x qual (Bt st) (p5 st) (bz st) .none cM doc pm an eP eH) ⟨us,[]⟩=pure (ps.zip us)):bY K fd ps []:=by
 obtain ⟨md,bk,cM,doc,pm,an,eP,eH,qf,rfl,lk,jG⟩:=F.ex;exact .all (h cM doc pm an eP eH)
theorem ad_ {x qual:Str} {st:Stmt} {cM doc pm eP eH:Value} (l:K.lookup f=some ⟨md,bk,.func (we x qual (Bt st) (p5 st) (bz st) .none cM doc pm an eP eH),qf⟩)
  (c:VQ K eP qual=true) (k:qr K (.ref f)=true):b8 K x qual st f (we x qual (Bt st) (p5 st) (bz st) .none cM doc pm an eP eH):=⟨⟨md,bk,cM,doc,pm,an,eP,eH,qf,rfl,l,c⟩,k⟩
end
def ajU (A:Around):Prop:=A.units + 1 < cLine
def acA (A:Around):Prop:=A.units + 64 < cLine
theorem Ql {A:Around} {k:Nat} (ak:dX k A):acA A:=ak.units
theorem hh {A:Around} {k:Nat} (ak:dX k A):ajU A:=gQ (Nat.add_le_add_left (by decide:1 <= 64) _) ak.units
section
variable {X:a3}
theorem U (i:Nat) {x:Str} (bf:X.N[i]? = some x:=by rfl) (aF:Cs X.env.scope x:=by first | exact oj rfl | exact m3 (oj rfl) | exact m3 (m3 rfl)) (hd:(x == ("__debug__" : Str))=false:=by decide)
  (jG:(x == ("__classdict__" : Str))=false:=by decide):bp X (.Name x pos) (BS i):=aie bf aF hd jG
end
def aS (H I:au):Prop:=∀ b o,H b=some o->I b=some o
theorem aS.refl (H:au):aS H H:=fun _ _ h=>h
theorem aS.trans (a:aS H H1) (b:aS H1 aw):aS H aw:=fun c o h=>b c o (a c o h)
theorem aS.free (e:aS H I) (h:I l=tp):H l=tp:=by
 cases q:H l with
 | none=>rfl
 | some o=>
  rw [e l o q] at h;cases h
theorem aS.seq {K:a_} (e:aS H I) (h:aB K H a xs):aB K I a xs:=by
 rcases h with (h | ⟨o,h⟩) | h
 .exact .inl (.inl (e _ _ h))
 .exact .inl (.inr ⟨o,e _ _ h⟩)
 .exact .inr h
section
variable {ey:Type} [DecidableEq ey]
end
end L2
set_option maxHeartbeats 4000000
namespace L2
open PySem PySem.Spec PyProof.Rows
noncomputable def jg (cells:List (Str × Addr)):List (Str × NameKind)->List (Str × Addr)->List (Str × Addr)
 | [],acc=>acc
 | (n,k) :: r,acc=>if k == .free then (match cells.lookup n with | some c=>jg cells r ((n,c) :: acc) | none=>jg cells r acc) else jg cells r acc
theorem DP {env:Env}:∀ (names:List (Str × NameKind)) (acc:List (Str × Addr)),(∀ y ∈ names,y.2=.free->∃ c,env.cells.lookup y.1=some c) ->
  (forIn names acc (fun (x:Str × NameKind) (cs:List (Str × Addr))=>(if (x.2 == .free)=true then do let a <- cellOf env x.1;pure (vo ((x.1,a) :: cs)) else pure (vo cs):Sem (ForInStep (List (Str × Addr))))))=pure (jg env.cells names acc)
 | [],acc,_=>rfl
 | (n,k) :: r,acc,h=>by
  have ak:∀ y ∈ r,y.2=.free->∃ c,env.cells.lookup y.1=some c:=fun y bh=>h y (hS _ bh)
  rw [List.forIn_cons];by_cases aC:(k == qL)=true
  .have e:k=.free:=by simpa using aC
   obtain ⟨c,av⟩:=h (n,k) lp e;have rh:env.cells.lookup n=some c:=av;simp only [jg,aC,if_true,rh,cellOf];exact DP r _ ak
  .simp only [jg,aC];exact DP r _ ak
theorem NP {env:Env} (h:∀ y ∈ scope.names,y.2=.free->∃ c,env.cells.lookup y.1=some c):closureFor scope env=pure (jg env.cells scope.names []):=by
 unfold closureFor;exact congrArg (fun t=>t >>= pure) (DP scope.names [] h)
theorem Dw {cells:List (Str × Addr)}:∀ (names:List (Str × NameKind)) (acc:List (Str × Addr)) {x:Str} {c:Addr},(jg cells names acc).lookup x=some c->acc.lookup x=some c\/cells.lookup x=some c
 | [],acc,x,c,h=>.inl h
 | (n,k) :: r,acc,x,c,h=>by
  unfold jg at h;split at h
  .cases q:cells.lookup n with
   | none=>rw [q] at h;exact Dw r acc h
   | some d=>
    rw [q] at h;rcases Dw r _ h with z | z
    .rw [j5] at z;by_cases ag:(x == n)=true
     .rw [ag] at z;have e:x=n:=by simpa using ag
      subst e
      right;rw [q];exact z
     .have d7:(x == n)=false:=by simpa using ag
      rw [d7] at z;exact .inl z
    .exact .inr z
  .exact Dw r acc h
theorem y7 {cells:List (Str × Addr)}:∀ (names:List (Str × NameKind)) (acc:List (Str × Addr)) {x:Str} {c:Addr},acc.lookup x=some c->cells.lookup x=some c->(jg cells names acc).lookup x=some c
 | [],acc,x,c,h,_=>h
 | (n,k) :: r,acc,x,c,h,av=>by
  unfold jg;split
  .cases q:cells.lookup n with
   | none=>exact y7 r acc h av
   | some d=>
    refine y7 r _ ?_ av;rw [j5];by_cases ag:(x == n)=true
    .have e:x=n:=by simpa using ag
     subst e;rw [ag];rw [q] at av;exact av
    .have d7:(x == n)=false:=by simpa using ag
     rw [d7];exact h
  .exact y7 r acc h av
theorem x6 {cells:List (Str × Addr)}:∀ (names:List (Str × NameKind)) (acc:List (Str × Addr)) {x:Str} {c:Addr},(x,qL) ∈ names->cells.lookup x=some c->(jg cells names acc).lookup x=some c
 | [],_,_,_,h,_=>nomatch h
 | (n,k) :: r,acc,x,c,h,av=>by
  rcases fi.mp h with e | h
  .cases e;unfold jg;rw [if_pos (by decide),av];refine y7 r _ ?_ av;rw [j5];simp
  .unfold jg;split
   .cases q:cells.lookup n with
    | none=>exact x6 r acc h av
    | some d=>exact x6 r _ h av
   .exact x6 r acc h av
theorem Lr:∀ {l:List (Str × α)} {x:Str} {a:α},l.lookup x=some a->(x,a) ∈ l
 | [],_,_,h=>by simp at h
 | (n,b) :: r,x,a,h=>by
  rw [j5] at h;by_cases ag:(x == n)=true
  .have e:x=n:=by simpa using ag
   subst e;rw [ag] at h;have aD:b=a:=dU h;subst aD;exact lp
  .have d7:(x == n)=false:=by simpa using ag
   rw [d7] at h;exact hS _ (Lr h)
theorem agf {env:Env} {x:Str} {k:NameKind} (h:(relabel scope env).names.lookup x=some k) (aC:k=.cell\/k=.free) (av:∀ y ∈ scope.names,y.2 ≠ .cell):(x,qL) ∈ scope.names:=by
 have af:=Lr h;obtain ⟨⟨n,j⟩,hm,e⟩:=b1.mp af;have bQ:(if (j == qL && env.scope.kind == .function && env.kindOf n == some .cell)=true then (n,PE) else (n,j))=(x,k):=e;split at bQ
 .rename_i Sx;have aq:n=x:=(Ux bQ).1;subst aq;have aM:j=.free:=by
   simp only [iE] at Sx;simpa using Sx.1.1
  subst aM;exact hm
 .have aq:n=x:=(Ux bQ).1;have aD:j=k:=(Ux bQ).2;subst aq;subst aD;rcases aC with z | z
  .exact absurd z (av _ hm)
  .subst z;exact hm
theorem jp {env:Env} {x:Str} (h:scope.names.lookup x=some .free):(relabel scope env).names.lookup x=some .cell\/(relabel scope env).names.lookup x=some .free:=by
 have all:∀ (names:List (Str × NameKind)),names.lookup x=some .free ->
   (names.map fun (n,k)=>if (k == qL && env.scope.kind == .function && env.kindOf n == some .cell) then (n,PE) else (n,k)).lookup x=some .cell \/
   (names.map fun (n,k)=>if (k == qL && env.scope.kind == .function && env.kindOf n == some .cell) then (n,PE) else (n,k)).lookup x=some .free:=by
  intro names
  induction names with
  | nil=>intro h;simp at h
  | cons p r b'=>
   obtain ⟨n,k⟩:=p;intro h;rw [eN];by_cases ag:(x == n)=true
   .simp only [j5,ag] at h;have aC:k=.free:=dU h;subst aC;by_cases av:(qL == qL && env.scope.kind == .function && env.kindOf n == some .cell)=true
    .left;simp only [if_pos av,j5,ag]
    .right;simp only [if_neg av,j5,ag]
   .have d7:(x == n)=false:=by simpa using ag
    simp only [j5,d7] at h;by_cases av:(k == qL && env.scope.kind == .function && env.kindOf n == some .cell)=true
    .simp only [if_pos av,j5,d7];exact b' h
    .simp only [if_neg av,j5,d7];exact b' h
 exact all scope.names h
noncomputable abbrev a3.block (X:a3) (scope:Scope) (C:Addr) (N:List Str) (s:Shared) (H:au) (bI:List Addr):a3 where
 prog:=X.prog
 w:=X.w
 K:=X.K
 mg:=X.mg
 base:=X.base
 A:=X.A
 N:=N
 fv:=s
 q5:=H
 env:=compEnvC scope (jg X.env.cells scope.names []) C X.env
 outer:=X.stack
 stack:=X.stack
 ex:=bI
 fn:=fun _=>false
 calm:=X.calm
 dN:=[]
 du:=fun _ _=>False
structure qW (env:Env) (scope:Scope):Prop where
 kind:scope.kind=.function
 uy:∀ y ∈ scope.names,y.2 ≠ .cell
 fr:∀ y ∈ scope.names,y.2=.free->env.kindOf y.1=some .cell\/env.kindOf y.1=some .free
 loc:∀ x ∈ scope.names,x.2=.local->scope.names.lookup x.1=some .local
noncomputable def blk (sel:List (Option Nat)) (σ:St):St:=sel.map fun o=>o.bind fun j=>(σ[j]?).join
def xH (M:List Str) (scope:Scope) (N:List Str) (sel:List (Option Nat)):Prop:=
 sel.length=N.length/\∀ (i j:Nat) (x:Str),sel[i]? = some (some j)->N[i]? = some x->M[j]? = some x/\scope.names.lookup x=some .free
section
variable {X:a3} {aa:List (Addr × Obj)} {σ:St} {H:au} {s:Shared} {scope:Scope} {bI:List Addr} {C:Addr} {N:List Str}
theorem qW.cells (S:qW X.env scope) (ok:X.Ok):∀ y ∈ scope.names,y.2=.free->∃ c,X.env.cells.lookup y.1=some c:=fun y bh e=>ok.has y.1 (S.fr y bh e)
theorem uX {x:Str} (h:(jg X.env.cells scope.names []).lookup x=some c):X.env.cells.lookup x=some c:=by
 rcases Dw _ _ h with z | z
 .simp at z
 .exact z
theorem GE (J:Inv X aa σ H s) (S:qW X.env scope) (hf:∀ b ∈ bI,je X aa H b) (ay:∀ b ∈ bI,b < s.heap.objs.size) (cj:s.heap.objs.size <= C):(X.block scope C N s H bI).Ok where
 mod:=J.ok.mod
 kind:=S.kind
 glob:=J.ok.glob
 blt:=J.ok.blt
 above:=cj
 inj:=fun x y c af aj=>J.ok.inj x y c (uX af) (uX aj)
 has:=fun x h=>by
  have aC:∃ k,(relabel scope X.env).names.lookup x=some k/\(k=.cell\/k=.free):=by
   rcases h with h | h
   .exact ⟨_,h,.inl rfl⟩
   .exact ⟨_,h,.inr rfl⟩
  obtain ⟨k,af,aj⟩:=aC;have hm:=agf af aj S.uy;obtain ⟨c,av⟩:=S.cells J.ok _ hm rfl;exact ⟨c,x6 _ _ hm av⟩
 pQ:=fun _ _ h _=>nomatch h
 hd:=J.ok.hd
 frames:=J.ok.frames
 q6:=.inl rfl
 tE:=fun b ab=>⟨fR (hp (ay b ab) cj),fun x c e=>(hf b ab).2.2.2.2.1 x c (uX e)⟩
 bs:=J.bs
 jP:=cP J.ok.jP J.kO
 oY:=fun b o e ab=>by
  rcases (hf b ab).2.2.2.1 with z | z
  .exact J.ok.oY b o e z
  .exact absurd (hp (hp (dJ e) J.ok.jP) z) (kA _)
 o_:=fun b ab aJ=>by
  rcases fi.mp (J.Ds b aJ) with z | z
  .exact (hf b ab).2.1 z
  .exact (hf b ab).2.2.1 z
 jL:=J.stack
 l7:=J.xt
theorem alF (J:Inv X aa σ H s) (S:qW X.env scope) (hf:∀ b ∈ bI,je X aa H b) (ay:∀ b ∈ bI,b < s.heap.objs.size) (cj:s.heap.objs.size <= C)
  (k:∀ b o,s.heap.get? b=some o->h'.get? b=some o) (aY:h'.Ns C m) (pV:xH X.N scope N sel):Inv (X.block scope C N s H bI) [] (blk sel σ) H { s with heap:=h',toks:=t' } where
 ok:=GE J S hf ay cj
 os:=rfl
 bare:=J.bare
 base:=eJ.kept k
 loc:=by
  refine ⟨m,aY,fun i x v aq aD bL=>?_⟩;obtain ⟨m0,oZ,aA⟩:=J.loc;obtain ⟨j,Fz,af4⟩:∃ j,sel[i]? = some (some j)/\σ[j]? = some (some v):=by
   unfold blk at aD;rw [da] at aD;cases q:sel[i]? with
   | none=>rw [q] at aD;cases aD
   | some o=>
    rw [q] at aD;cases o with
    | none=>cases aD
    | some j=>
     refine ⟨j,rfl,?_⟩;have z3:(σ[j]?).join=some v:=dU aD;cases r:σ[j]? with
     | none=>rw [r] at z3;cases z3
     | some z=>rw [r] at z3;exact congrArg some z3
  obtain ⟨ab1,oI⟩:=pV.2 i j x Fz aq;have hm:=Lr oI;have aC:=S.fr _ hm rfl;have aF:Cs X.env.scope x:=aC.elim (fun z=>.inr (.inl z)) fun z=>.inr (.inr z)
  obtain ⟨u,r,l⟩:=aA j x v ab1 af4 aF;refine ⟨u,r,?_⟩;rcases l with ⟨adN,_⟩ | ⟨_,c,av,Cv⟩
  .rcases aC with z | z <;> (have hv:X.env.kindOf x=_:=z;rw [adN] at hv;cases hv)
  .refine .inr ⟨?_,c,x6 _ _ hm av,?_⟩
   .exact jp oI
   .obtain ⟨o,aQ,hd⟩:=Cv;exact ⟨o,k _ _ aQ,hd⟩
 cell:=fun x c e=>by
  obtain ⟨v,o,aQ,hd⟩:=J.cell x c (uX e);exact ⟨v,o,k _ _ aQ,hd⟩
 free:=J.a4.fresh cj
 h3:=fun x c e=>J.h3 x c (uX e)
 pin:=fun p ar=>nomatch ar
 a4:=J.a4.kept k
 len:=by unfold blk;rw [a0];exact pV.1
theorem Inv.adopt (J:Inv X aa σ H s) (hu:je X aa H a) (new:dy X.prog X.w (upd H a o) s.heap a o):Inv X aa σ (upd H a o) s:=by
 obtain ⟨aY,e4,uU,hex,pM,jQ⟩:=hu;refine J.step (g':=s.gens) (d':=s.drawn) (t':=s.toks) (h':=s.heap) (ch:=[a]) (fun b ab=>?_) (fun b o _ _ _ e _=>e) (fun b o _ _ _ e _=>⟨o.slots,e⟩) (fun b o ab e n=>?_) (fun b o _ e=>⟨o,e⟩)
  (fun b xs e=>?_) (fun b o u e=>?_) (fun b ps e=>⟨#[],?_⟩) (fun m hm=>hm) (fun b u e=>?_) J.bare
 .have e:b=a:=by simpa using ab
  subst e;exact ⟨hex,e4,pM,jQ⟩
 .rw [aH (fun z=>ab (by simp [z]))];exact n
 .rw [aH (dj e aY)];exact e
 .rw [aH (dj e aY)];exact e
 .rw [aH (dj e aY),e];simp
 .by_cases ab:b=a
  .subst ab;rw [aX] at e;cases e;exact new
  .rw [aH ab] at e;exact (J.a4 b u e).mF (fun c v _ q=>q) (fun c q=>by rw [aH (dj q aY)];exact q) fun c xs q=>by rw [aH (dj q aY)];exact q
end
theorem aeS {prog:Program} {w:World} {A:Around} {it acc:Value} {env:Env} (J:Nat->Shared->Prop)
  (turn:∀ n s,J n s->wpAny (model prog w) A (pyNext it) (fun r dd=>match r with
   | none=>R (.ok .next) dd
   | some v=>wpAny (model prog w) A (letOwnedTupleGo xb it v) (fun _ fv=>wpAny (model prog w) A (assign xb env v) (fun _ dV=>
     wpAny (model prog w) A (forIn ifs true fun c r=>if r=true then do let ok <- isTrue c env (eval c env);pure (vo ok) else pure (vo r)) (fun ok l6=>
      if ok=true then wpAny (model prog w) A (eval elt env) (fun x Cu=>
       wpAny (model prog w) A (call (.builtin "list.append") [acc,x]) (fun _ Qs=>∃ m,m < n/\J m Qs) (fun _ _=>False) Cu) (fun _ _=>False) l6
      else ∃ m,m < n/\J m l6) (fun _ _=>False) dV) (fun _ _=>False) fv) (fun _ _=>False) dd) (fun _ _=>False) s)
  (n:Nat) (h:J n s) :
  codeAny (model prog w) A (.compLoop (.ListComp elt [⟨xb,iter,ifs,0⟩] scope pos) 0 it acc env) R s:=by
 refine codeAny_loop rfl J (fun n s Ku=>?_) n h;show wpAny _ A ((compTurn (.ListComp elt [⟨xb,iter,ifs,0⟩] scope pos) 0 it acc env).onRaise (fun x=>do noteFrame x env;theTreesLotGoes x)) _ _ s;refine wpAny_noted (wpAny_noRaise ?_);rw [compTurn_list];refine wpAny_bind (wpAny_standAt (wpAny_bind (wpAny_mono (turn n s Ku) (fun r dd h₁=>?_) fun _ _ h'=>h')));cases r with
 | none=>exact wpAny_pure h₁
 | some v=>
  refine wpAny_bind (wpAny_mono h₁ (fun _ fv h₀=>?_) fun _ _ h'=>h');refine wpAny_bind (wpAny_mono h₀ (fun _ dV xq=>wpAny_bind (wpAny_mono xq (fun ok l6 za=>?_) fun _ _ h'=>h')) fun _ _ h'=>h');cases ok with
  | false=>exact wpAny_pure ⟨rfl,za⟩
  | true=>
   exact wpAny_bind (wpAny_bind (wpAny_mono za (fun x Cu WZ=>wpAny_bind (wpAny_mono WZ (fun _ Qs aeb=>wpAny_pure (wpAny_pure ⟨rfl,aeb⟩)) fun _ _ h'=>h')) fun _ _ h'=>h'))
def s9 (X:a3) (ifs:List Expr) (t:TT):Prop:=
 ∀ (aa:List (Addr × Obj)) (s:Shared) (σ:St) (H:au) (Q:Bool->au->Prop),Inv X aa σ H s->t σ H Q ->
  wpAny (model X.prog X.w) X.A (forIn ifs true fun c r=>if r=true then do let ok <- isTrue c X.env (eval c X.env);pure (vo ok) else pure (vo r)) (zO X aa σ Q) X.du s
noncomputable def oU:TT:=fun _ H Q=>Q true H
theorem ix:s9 X [] oU:=fun _ _ _ H _ J h=>wpAny_tests_nil ⟨H,J,h⟩
theorem sG {t:TT} (h:ja X c t):s9 X [c] t:=fun aa s σ H Q J q=>wpAny_tests_one (h aa s σ H Q J q)
def Sub (σ ax:St):Prop:=ax.length=σ.length/\∀ (i:Nat) (v:V),σ[i]? = some (some v)->ax[i]? = some (some v)
theorem Sub.refl (σ:St):Sub σ σ:=⟨rfl,fun _ _ h=>h⟩
theorem Sub.set {x:Option V} (h:Sub σ ax) (e:σ[i]? = some none):Sub σ (ax.set i x):=by
 refine ⟨by rw [XR];exact h.1,fun j v q=>?_⟩;have aM:i ≠ j:=fun z=>by subst z;rw [e] at q;cases q
 rw [yg aM];exact h.2 j v q
def rH (bE:jm) (g:gH) (dk:TT) (bJ:TE) (dv:St) (Q:cJ) (W:Nat->Nat->List V->au->Prop):Prop:=∀ i m ys H,W i m ys H ->
 (bE.stop i H/\∀ p,H p=none->Q (.ref p) (upd H p (.lst ys))) \/
 (bE.go i H/\ys.length < sizeLine/\∀ x I,bE.ph i H x I->g x dv I fun cz aw=>Sub dv cz/\dk cz aw fun c bw=>if c=true then bJ cz bw fun y cS=>∃ dt,dt < m/\W (i + 1) dt (ys ++ [y]) cS else ∃ dt,dt < m/\W (i + 1) dt ys bw)
noncomputable def JJ (gC:TI) (g:gH) (dk:TT) (bJ:TE) (sel:List (Option Nat)):TE:=fun σ H Q=>gC σ H fun bE H1=>∃ W:Nat->Nat->List V->au->Prop,(∃ m,W 0 m [] H1)/\rH bE g dk bJ (blk sel σ) Q W
section
variable {X:a3} {elt df iter:Expr} {ifs:List Expr} {scope:Scope} {pos:Pos} {gC:TI} {g:gH} {dk:TT} {bJ:TE} {N:List Str} {sel:List (Option Nat)}
structure fA (X:a3) (scope:Scope) (N:List Str) (df elt:Expr) (ifs:List Expr) (g:gH) (dk:TT) (bJ:TE):Prop where
 Se:∀ C s H bI,mT (X.block scope C N s H bI) df g
 tests:∀ C s H bI,s9 (X.block scope C N s H bI) ifs dk
 elem:∀ C s H bI,bp (X.block scope C N s H bI) elt bJ
theorem fA.of {N:List Str} (af:∀ C s H bI,mT (X.block scope C N s H bI) df g)
  (aj:∀ C s H bI,∃ t,s9 (X.block scope C N s H bI) ifs t/\t=dk) (a':∀ C s H bI,∃ t,bp (X.block scope C N s H bI) elt t/\t=bJ):fA X scope N df elt ifs g dk bJ:=
 ⟨af,fun C s H bI=>by obtain ⟨t,h,rfl⟩:=aj C s H bI;exact h,fun C s H bI=>by obtain ⟨t,h,rfl⟩:=a' C s H bI;exact h⟩
theorem MD {aa:List (Addr × Obj)} {dV:Shared} {σ:St} {iH:au} {Q:cJ} {it:Addr} {bI:List Addr} {hY:Nat->Heap->Prop} {bE:jm} {W:Nat->Nat->List V->au->Prop} {E:Value->Shared->Prop} {RR:Value->Addr->Result->Shared->Prop}
  (av:X.calm=true) (S:qW X.env scope) (pV:xH X.N scope N sel) (B:fA X scope N df elt ifs g dk bJ) (bu:Inv X aa σ iH dV) (T:oR X.prog X.w X.K df bE bI it hY) (p6:hY 0 dV.heap) (f2:∀ b ∈ bI,je X aa iH b)
  (m1:∃ m,W 0 m [] iH) (fw:rH bE g dk bJ (blk sel σ) Q W)
  (fin:∀ D C ys I s',Inv X aa σ (upd I D (.lst ys)) s'->(∃ m,s'.heap.Ns C m)->je X aa (upd I D (.lst ys)) C->Q (.ref D) (upd I D (.lst ys))->RR (.ref D) C (.ok .next) s') :
  wpAny (model X.prog X.w) X.A (newList []) (fun acc l6=>wpAny (model X.prog X.w) X.A (newFunctionEnv scope X.env.globals (jg X.env.cells scope.names []) [] X.env.qual none .none (some X.env)) (fun NZ Cu=>
   codeAny (model X.prog X.w) X.A (.compStart (.ListComp elt [⟨df,iter,ifs,0⟩] scope pos) 0 (.ref it) acc { NZ with scope:=relabel scope X.env }) (RR acc NZ.locals) Cu) E l6) E dV:=by
 refine wpAny_newObj_type (wpAny_newFunctionEnv S.uy (by intro y bh;simp at bh) (fun h₁ GG Ax=>?_) S.kind);dsimp only at GG Ax ⊢;generalize Gd:dV.heap.push { cls:=.type "list",dict:=none,data:=.seq ([]:List Value).toArray }=aw at GG Ax ⊢;have cj:aw.objs.size=dV.heap.objs.size + 1:=by rw [<- Gd,R3]
 have xy:dV.heap.objs.size ≠ aw.objs.size:=by rw [cj];exact fR (Lg _)
 have Km:dV.heap.objs.size <= aw.objs.size:=by rw [cj];exact v_ _
 have below:∀ b,b < dV.heap.objs.size->b ≠ aw.objs.size/\b ≠ dV.heap.objs.size:=fun b ab=>⟨by rw [cj];exact fR (Nat.lt_succ_of_lt ab),fR ab⟩
 have old:∀ b o,dV.heap.get? b=some o->h₁.get? b=some o:=fun b o e=>Ax.extBut b o (below b (dJ e)).1 (dE _ (Gd ▸ dE _ e))
 have wq:h₁.get? dV.heap.objs.size=some { cls:=.type "list",data:=.seq ([]:List Value).toArray }:=Ax.extBut _ _ xy (dE _ (Gd ▸ hc _ rfl));have xF:∀ b ∈ bI,b < dV.heap.objs.size:=fun b ab=>by
  obtain ⟨o,e,_⟩:=T.obj _ _ p6 b ab;exact dJ e
 generalize aoE:aw.objs.size=C at *;generalize nO:dV.heap.objs.size=D at *;have T3:hY 0 h₁:=T.keep _ _ _ p6 fun b _ o e=>old b o e
 have afi:Inv (X.block scope C N dV iH bI) [] (blk sel σ) iH { dV with heap:=h₁,toks:=dV.toks + ([]:List (Str × Value)).length }:=
  alF bu S f2 (fun b ab=>by rw [nO];exact xF b ab) (by rw [nO];exact Km) old GG pV
 have Mn:D ∉ (X.block scope C N dV iH bI).aK:=fun z=>by
  have hv:=bu.Ds D z;rcases fi.mp hv with e | e
  .exact absurd bu.lt (by rw [<- e,nO];exact kA _)
  .exact bu.Em (by rw [nO];exact bW _) e
 have loop:∀ l6:Shared,l6 = { dV with heap:=h₁,toks:=dV.toks + ([]:List (Str × Value)).length } ->
   codeAny (model X.prog X.w) X.A (.compLoop (.ListComp elt [⟨df,iter,ifs,0⟩] scope pos) 0 (.ref it) (.ref D) (compEnvC scope (jg X.env.cells scope.names []) C X.env)) (RR (.ref D) C) l6:=by
  rintro l6 rfl;obtain ⟨m0,m1⟩:=m1;refine aeS (fun k s'=>∃ i ys us n I,Inv (X.block scope C N dV iH bI) [(D,{ cls:=.type "list",data:=.seq us n })] (blk sel σ) I s'/\(∃ vs:List Value,us=vs.toArray/\bU ys vs)/\ys.length <= sizeLine/\hY i s'.heap/\(∀ b ∈ bI,I b=none)/\W i k ys I) ?_ m0
   ⟨0,[],_,0,iH,afi.rp fun p ar=>?_,⟨[],rfl,.nil⟩,fC _,T3,fun b ab=>(f2 b ab).1,m1⟩
  .rintro k s' ⟨i,ys,us,n,I,LU,⟨vs,rfl,cG⟩,N6,st,fr,w⟩;have I0:∀ {pl:List (Addr × Obj)} {iV:au},(∀ p ∈ pl,p.1=D)->(∀ b ∈ bI,iV b=none)->∀ b ∈ bI,je (X.block scope C N dV iH bI) pl iV b:=fun {pl iV} ar aY b ab=>
    ⟨aY b ab,(below b (xF b ab)).1,(GE (N:=N) (C:=C) bu S f2 (fun b ab=>by rw [nO];exact xF b ab) (by rw [nO];exact Km)).o_ b ab,.inl ab,fun x c e=>(f2 b ab).2.2.2.2.1 x c (uX e),fun p Fx z=>by
     have aee:p ∈ pl:=by simpa using Fx
     exact (below b (xF b ab)).2 (by rw [<- z];exact ar p aee)⟩
   have LQ:∀ p ∈ [((D,{ cls:=.type "list",data:=.seq vs.toArray n }):Addr × Obj)],p.1=D:=fun p ar=>by
    have e:p=(D,{ cls:=.type "list",data:=.seq vs.toArray n }):=by simpa using ar
    rw [e]
   rcases fw i k ys I w with ⟨stop,yy⟩ | ⟨go,hlen,step⟩
   .refine bA (T.done (X.block scope C N dV iH bI) rfl rfl rfl av i _ s' _ I _ LU (I0 LQ fr) st stop) fun r s4 cF=>?_
    obtain ⟨ak,hB⟩:=cF;subst ak;have rx:=hB.pin (D,{ cls:=.type "list",data:=.seq vs.toArray n }) (by simp);have Ot:I D=none:=rx.2.1;have abf:Inv X aa σ I s4:=bu.xi (ch:=bI) hB.os hB.base hB.a4 hB.bare fun b ab=>⟨(f2 b ab).2.2.2.1,(f2 b ab).2.1,(f2 b ab).2.2.2.2.1,(f2 b ab).2.2.2.2.2⟩
    have rI:je X aa I D:=bu.nH (by rw [nO];exact bW _) Ot;have JU:Inv X aa σ (upd I D (.lst ys)) s4:=abf.adopt rI ⟨N6,vs,n,cG,rx.1⟩;obtain ⟨abw,ahU,_⟩:=hB.loc;refine fin D C ys I s4 JU ⟨abw,ahU⟩ (bu.nH (by rw [nO];exact Km) ?_) (yy D Ot);rw [aH (dg xy)];exact hB.free
   .refine bA (T.item (X.block scope C N dV iH bI) rfl rfl rfl av i _ s' _ I _ LU (I0 LQ fr) st go) fun r s4 cF=>?_
    obtain ⟨u,ak,c7⟩:=cF;subst ak;refine bA c7 fun _ s5 cF=>?_
    obtain ⟨x,d1,wY,LF,uf,r8,Ea⟩:=cF;have Hq:=wY.pinned (I0 LQ Ea) (T.obj _ _ r8);refine bA (B.Se C dV iH bI _ s5 _ d1 x u _ Hq LF (step x d1 uf)) fun _ h2 cF=>?_
    obtain ⟨mX,fL,mY,oh,K_⟩:=cF;refine bA (B.tests C dV iH bI _ h2 mX fL _ mY K_) fun c mP cF=>?_
    obtain ⟨g9,kp,nB⟩:=cF;have again:∀ {t7:St} {fM:au} {kG:Shared},Inv (X.block scope C N dV iH bI) ([(D,{ cls:=.type "list",data:=.seq vs.toArray n })] ++ vC bI s5.heap) t7 fM kG->hY (i + 1) kG.heap/\(∀ b ∈ bI,fM b=none):=fun {t7 fM kG} oP=>by
     refine ⟨T.keep _ _ _ r8 fun b ab o e=>(oP.pin (b,o) (ko _ (ko _ (Am ab e)))).1,fun b ab=>?_⟩;obtain ⟨o,e,d⟩:=T.obj _ _ r8 b ab;exact (oP.pin (b,o) (ko _ (ko _ (Am ab e)))).2.1
    have back:∀ {fM:au} {kG:Shared} {pl:List (Addr × Obj)},Inv (X.block scope C N dV iH bI) pl mX fM kG->Inv (X.block scope C N dV iH bI) pl (blk sel σ) fM kG:=fun {fM kG pl} oP=>oP.weak oh.1.symm oh.2
    cases c with
    | false=>
     obtain ⟨dt,hm,d8⟩:=nB;obtain ⟨t1,fy⟩:=again kp;exact ⟨dt,hm,i + 1,ys,_,n,g9,back kp.Bn,⟨vs,rfl,cG⟩,N6,t1,fy,d8⟩
    | true=>
     refine bA (B.elem C dV iH bI _ mP mX g9 _ kp nB) fun v kG cF=>?_
     obtain ⟨y,fM,oP,aen,dt,hm,d8⟩:=cF;obtain ⟨t1,fy⟩:=again oP;have rx:=oP.pin (D,{ cls:=.type "list",data:=.seq vs.toArray n }) (by simp);refine append_at (hsz:=by have:=cG.length;rw [el];omega) rx.1 fun vS MH akY=>?_
     have Z_:Inv (X.block scope C N dV iH bI) [] (blk sel σ) fM kG:=(back oP).rp fun p ar=>nomatch ar
     have rI:je (X.block scope C N dV iH bI) [] fM D:=⟨rx.2.1,xy,Mn,.inr (by show dV.heap.objs.size <= D;rw [nO];exact bW _),(fun x c e z=>by
      obtain ⟨am1,o,aQ,hd⟩:=oP.cell x c e;rw [z,rx.1] at aQ;cases aQ;cases hd),(fun p ar=>nomatch ar)⟩
     have akj:Inv (X.block scope C N dV iH bI) [] (blk sel σ) fM { kG with heap:=vS }:=Z_.turned (t':=kG.toks) (it:=D) (fun b o ab e=>(MH.2 b ab).trans e) rI.1 rI.2.1 rI.2.2.2.1 rI.2.2.2.2.1 rI.2.2.2.2.2;refine ⟨dt,hm,i + 1,ys ++ [y],vs.toArray.push v,n + 1,fM,akj.rp fun p ar=>?_,⟨vs ++ [v],by simp,VZ cG aen⟩,by rw [ec,J6];omega,T.keep _ _ _ t1 fun b ab o e=>(MH.2 b (below b (xF b ab)).2).trans e,fy,d8⟩;have e:p=(D,{ cls:=.type "list",data:=.seq (vs.toArray.push v) (n + 1) }):=by simpa using ar
     subst e;exact ⟨akY,rx.2.1,xy,Mn,fun v z=>by cases z⟩
  .have e:p=(D,{ cls:=.type "list",data:=.seq ([]:List Value).toArray }):=by simpa using ar
   subst e;exact ⟨wq,bu.a4.fresh (by rw [nO];exact bW _),xy,Mn,fun v z=>by cases z⟩
 exact codeAny_compStart_list (loop _ rfl) (T.self _ 0 _ _ _ T3 (loop _ rfl))
theorem hl (av:X.calm=true) (ah:oF X df iter gC) (S:qW X.env scope) (pV:xH X.N scope N sel) (B:fA X scope N df elt ifs g dk bJ)
  (ay:∀ x,foldedSetIterable iter X.env x=pure x:=by intro _;rfl):bp X (.ListComp elt [⟨df,iter,ifs,0⟩] scope pos) (JJ gC g dk bJ sel):=by
 intro aa s σ H Q J h;rw [eval_ListComp];refine wpAny_comprehension_free (use:=none) rfl ay (NP (S.cells J.ok)) S.kind S.loc ?_;refine bA (ah aa s σ H _ J h) fun v s1 af=>bA af fun zD s2 aj=>?_
 obtain ⟨it,bI,hY,bE,aw,e,bu,T,p6,f2,W,m1,fw⟩:=aj;subst e;refine MD (RR:=fun acc C=>compPost (model X.prog X.w) X.A X.du none (f7 X aa σ Q) acc C) av S pV B bu T p6 f2 m1 fw fun D C ys I s' gT ⟨m,hm⟩ hu q=>?_
 exact ⟨m,hm,fun h' tR=>⟨.ref D,_,gT.turned (t':=s'.toks) (it:=C) (fun b o ab e=>(tR.2 b ab).trans e) hu.1 hu.2.1 hu.2.2.2.1 hu.2.2.2.2.1 hu.2.2.2.2.2,rfl,q⟩⟩
theorem Ln {i:Nat} {y:Str} {py Pn:Pos} (bf:X.N.Nodup) (ah:X.N[i]? = some y) (ag:Loc X.env.scope y) (av:X.calm=true) (hit:oF X df iter gC) (S:qW X.env scope) (pV:xH X.N scope N sel) (B:fA X scope N df elt ifs g dk bJ)
  (aiX:swapsWith (.ListComp elt [⟨df,iter,ifs,0⟩] scope pos) (some (.Name y py)) Pn.line X.env=pure true) (hf:X.fn y=true\/X.env.scope.names.lookup y=some .local:=by first | exact .inl rfl | exact .inr rfl | assumption)
  (ay:∀ x,foldedSetIterable iter X.env x=pure x:=by intro _;rfl):gJ X (.Assign [.Name y py] (.ListComp elt [⟨df,iter,ifs,0⟩] scope pos) Pn) (uz (JJ gC g dk bJ sel) (ht i)):=by
 intro aa s σ H D J h;rw [exec_Assign_Name_used _ _ _ _ aiX];refine wpAny_bind (wpAny_standAt (wpAny_bind ?_));show wpAny _ X.A (do let _ <- comprehension (.ListComp elt [⟨df,iter,ifs,0⟩] scope pos) scope X.env _ (newList []) false (eval iter X.env) (some (assign (.Name y py) X.env))) _ _ s;refine wpAny_bind (wpAny_mono (wpAny_comprehension_free (use:=some (assign (.Name y py) X.env)) (Q:=fun _ s'=>oA X aa D .next s') rfl ay (NP (S.cells J.ok)) S.kind S.loc ?_) (fun _ s' aI=>wpAny_pure (wpAny_pure aI)) fun _ _ e=>e);refine bA (hit aa s σ H _ J h) fun v s1 af=>bA af fun zD s2 aj=>?_
 obtain ⟨it,bI,hY,bE,aw,e,bu,T,p6,f2,W,m1,fw⟩:=aj;subst e;refine MD (RR:=fun acc C=>compPost (model X.prog X.w) X.A X.du (some (assign (.Name y py) X.env)) (fun _ s'=>oA X aa D .next s') acc C) av S pV B bu T p6 f2 m1 fw fun Da C ys I s' gT ⟨m,hm⟩ hu q=>?_
 show wpAny _ X.A (assign (.Name y py) X.env (.ref Da)) _ _ _;refine wpAny_assign_Name (NK gT bf ah ag (show bD (.ref Da) (.ref Da) from rfl) (fun s3 ed cF=>?_) hf);obtain ⟨a,tR,aO⟩:=cF;have aao:C ≠ a:=by
  rcases aO with z | z
  .rw [z];exact hu.2.1
  .exact fun w=>hu.2.2.2.2.1 y a z w.symm
 refine ⟨m,hm.sameBut tR aao,fun h' ak4=>⟨_,_,ed.turned (t':=s3.toks) (it:=C) (fun b o ab e=>(ak4.2 b ab).trans e) hu.1 hu.2.1 hu.2.2.2.1 hu.2.2.2.2.1 hu.2.2.2.2.2,q⟩⟩
end
def pE (Pv:Nat->List V->au->Prop) (g:gH) (dk:TT) (bJ:TE) (dv:St) (i:Nat) (x:V) (ys:List V) (H:au):Prop:=
 ∀ N:List V->au->Prop,(∀ jx I,Pv (i + 1) jx I->N jx I)->g x dv H fun cz aw=>Sub dv cz/\dk cz aw fun c bw=>if c=true then bJ cz bw fun y cS=>N (ys ++ [y]) cS else N ys bw
theorem akE {K:a_} (Pv:Nat->List V->au->Prop) (aJ:xs.length <= sizeLine) (h0:Pv 0 [] H) (aA:∀ i ys H,i <= xs.length->Pv i ys H->aB K H a xs/\ys.length <= i)
  (ay:∀ i x ys H,xs[i]? = some x->Pv i ys H->pE Pv g dk bJ dv i x ys H) (hd:∀ ys H,Pv xs.length ys H->∀ p,H p=none->Q (.ref p) (upd H p (.lst ys))) :
  ∃ W:Nat->Nat->List V->au->Prop,(∃ m,W 0 m [] H)/\rH (m' K a) g dk bJ dv Q W:=by
 refine ⟨fun i m ys H=>m=xs.length - i/\i <= xs.length/\Pv i ys H,⟨xs.length,by simp,fC _,h0⟩,?_⟩;rintro i m ys H ⟨rfl,ah,p⟩;have q:=(aA i ys H ah p).1;have vc:=(aA i ys H ah p).2;by_cases dD:i < xs.length
 .refine .inr ⟨⟨xs,xs[i],q,by simp [dD]⟩,by omega,fun x I y=>?_⟩;obtain ⟨e,y⟩:=y;subst e;exact ay i x ys _ (y xs q) p (fun jx I=>∃ dt,dt < xs.length - i/\dt=xs.length - (i + 1)/\i + 1 <= xs.length/\Pv (i + 1) jx I) fun jx I r=>⟨xs.length - (i + 1),by omega,rfl,dD,r⟩
 .have e:i=xs.length:=by omega
  subst e;exact .inl ⟨⟨xs,q,bW _⟩,hd ys H p⟩
theorem agD {K:a_} (Pv:Nat->List V->au->Prop) (aJ:xs.length <= sizeLine) (h0:Pv 0 [] H) (aA:∀ i ys H,i <= xs.length->Pv i ys H->c0 K H a xs/\ys.length <= i)
  (ay:∀ i x ys H,xs[i]? = some x->Pv i ys H->pE Pv g dk bJ dv i x ys H) (hd:∀ ys H,Pv xs.length ys H->∀ p,H p=none->Q (.ref p) (upd H p (.lst ys))) :
  ∃ W:Nat->Nat->List V->au->Prop,(∃ m,W 0 m [] H)/\rH (CN K a) g dk bJ dv Q W:=by
 refine ⟨fun i m ys H=>m=xs.length - i/\i <= xs.length/\Pv i ys H,⟨xs.length,by simp,fC _,h0⟩,?_⟩;rintro i m ys H ⟨rfl,ah,p⟩;have q:=(aA i ys H ah p).1;have vc:=(aA i ys H ah p).2;by_cases dD:i < xs.length
 .refine .inr ⟨⟨xs,xs[i],q,by simp [dD]⟩,by omega,fun x I y=>?_⟩;obtain ⟨e,y⟩:=y;subst e;exact ay i x ys _ (y xs q) p (fun jx I=>∃ dt,dt < xs.length - i/\dt=xs.length - (i + 1)/\i + 1 <= xs.length/\Pv (i + 1) jx I) fun jx I r=>⟨xs.length - (i + 1),by omega,rfl,dD,r⟩
 .have e:i=xs.length:=by omega
  subst e;exact .inl ⟨⟨xs,q,bW _⟩,hd ys H p⟩
theorem abr {lo:Int} {n:Nat} {g:gH} {dk:TT} {bJ:TE} {dv:St} {Q:cJ} {H:au} (Pv:Nat->List V->au->Prop) (aJ:n <= sizeLine) (h0:Pv 0 [] H) (aA:∀ i ys H,i <= n->Pv i ys H->ys.length <= i)
  (ay:∀ i ys H,i < n->Pv i ys H->pE Pv g dk bJ dv i (.int (lo + i)) ys H) (hd:∀ ys H,Pv n ys H->∀ p,H p=none->Q (.ref p) (upd H p (.lst ys))) :
  ∃ W:Nat->Nat->List V->au->Prop,(∃ m,W 0 m [] H)/\rH (nM lo n) g dk bJ dv Q W:=by
 refine ⟨fun i m ys H=>m=n - i/\i <= n/\Pv i ys H,⟨n,by simp,fC _,h0⟩,?_⟩;rintro i m ys H ⟨rfl,ah,p⟩;have vc:=aA i ys H ah p;by_cases dD:i < n
 .refine .inr ⟨dD,by omega,fun x I y=>?_⟩;obtain ⟨e,y⟩:=y;subst e y;exact ay i ys _ dD p (fun jx I=>∃ dt,dt < n - i/\dt=n - (i + 1)/\i + 1 <= n/\Pv (i + 1) jx I) fun jx I r=>⟨n - (i + 1),by omega,rfl,dD,r⟩
 .have e:i=n:=by omega
  subst e;exact .inl ⟨bW _,hd ys H p⟩
noncomputable def pF (xs:List V):jm:=⟨fun i _=>i < xs.length,fun i H x I=>I=H/\xs[i]? = some x,fun i _=>xs.length <= i⟩
theorem Ix {w:World} {K:a_} {it:Addr} {St:Nat->Heap->Prop} (fw:∀ A:Around,A.handled=none->Walks P w A it [it] [it] xs.length acW St)
  (ct:∀ i v,acW i v->∃ x,xs[i]? = some x/\bD x v)
  (ux:∀ i h,St i h->∃ o n vs,h.get? it=some o/\o.cls=.type n/\o.data=.fields vs/\["enumerate","zip","dict_itemiterator","dict_reverseitemiterator","odict_iterator","itertools.zip_longest","itertools.pairwise"].contains n=false)
  (oI:∀ i h h',St i h->(∀ o,h.get? it=some o->h'.get? it=some o)->St i h')
  (aiY:∀ (A:Around) (i:Nat) (s:Shared) (Q:Value->Shared->Prop) (E:Value->Shared->Prop),St i s.heap->Q (.ref it) s->wpAny (model P w) A (pyIter (.ref it)) Q E s) :
  oR P w K df (pF xs) [it] it (fun i h=>i <= xs.length/\St i h) where
 mem:=by simp
 obj:=fun i h st b ab=>by
  have e:b=it:=by simpa using ab
  subst e;obtain ⟨o,n,vs,e,_,d,_⟩:=ux i h st.2;exact ⟨o,e,fun v z=>by rw [d] at z;cases z⟩
 keep:=fun i h h' st k=>⟨st.1,oI i h h' st.2 fun o e=>k it (by simp) o e⟩
 item:=by
  intro X K6 hw fl av i aa s σ H E J hf st a5;subst K6 hw fl;obtain ⟨f0,f1,f2,en,f4,eW⟩:=hf it (by simp);refine (fw X.A (J.ok.hd av)).item i s _ _ a5 st.2 fun v h' tk aF kZ jw=>?_
  obtain ⟨x,ag,bb⟩:=ct i v aF;have aN:Inv X aa σ H { s with heap:=h',toks:=tk }:=J.turned (fun b o ab e=>jw b o (by simpa using ab) e) f0 f1 en f4 eW;obtain ⟨o,n,vs,e,c,d,nm⟩:=ux _ _ kZ;exact ⟨v,rfl,vY (s:={ s with heap:=h',toks:=tk }) e c d nm ⟨x,H,aN,bb,⟨rfl,ag⟩,⟨a5,kZ⟩,fun b ab=>(hf b ab).1⟩⟩
 done:=by
  intro X K6 hw fl av i aa s σ H E J hf st a5;subst K6 hw fl;obtain ⟨f0,f1,f2,en,f4,eW⟩:=hf it (by simp);have e:i=xs.length:=Nat.le_antisymm st.1 a5;subst e;exact (fw X.A (J.ok.hd av)).done s _ _ st.2 fun h' tk jw=>⟨rfl,J.turned (fun b o ab e=>jw b o (by simpa using ab) e) f0 f1 en f4 eW⟩
 self:=fun A i s Q E st h=>aiY A i s Q E st.2 h
noncomputable def ji (c:Nat):Str:=⟨#[c]⟩
noncomputable def mZ (x:Str):List V:=x.cps.toList.map fun c=>V.str (ji c)
theorem Od (x:Str):(mZ x).length=x.cps.size:=by unfold mZ;simp
theorem ak5 {x:Str} {i c:Nat} (h:x.cps[i]? = some c):(mZ x)[i]? = some (.str (ji c)):=by
 unfold mZ;rw [da,Vl,h];rfl
theorem Pk {x:Str} {i:Nat} {v:Value} (h:SignAt x i v):∃ y,(mZ x)[i]? = some y/\bD y v:=by
 obtain ⟨c,u,av,rfl⟩:=h;exact ⟨.str (ji c),ak5 av,u,rfl⟩
section
variable {X:a3} {df:Expr}
noncomputable def DY (cZ:TE):TI:=fun σ H R=>cZ σ H fun x H1=>∃ z,x=.str z/\R (pF (mZ z)) H1
theorem ajJ (aA:bp X l cZ):oF X df l (DY cZ):=by
 intro aa s σ H R J h;refine bA (aA aa s σ H _ J h) fun v s1 b4=>ea b4 fun x H1 aN cE bS=>?_
 obtain ⟨z,e,q⟩:=bS;subst e;obtain ⟨t,rfl⟩:=cE;have hu:∀ b ∈ [s1.heap.objs.size],je X aa H1 b:=fun b ab=>by
  have e:b=s1.heap.objs.size:=by simpa using ab
  subst e;exact aN.nH (bW _) (aN.a4.fresh (bW _))
 have aJ:=Od z;cases aO:z.cps.all (· < 128) with
 | false=>
  refine wpAny_pyIter_wide aO ⟨s1.heap.objs.size,[s1.heap.objs.size],fun i h=>i <= (mZ z).length/\h.IsStrIter s1.heap.objs.size "str_iterator" z t i,_,H1,rfl,aN.kept (t':=s1.toks) fun b o e=>dE _ e,
   Ix (fun A hN=>by rw [aJ];exact Walks.strWide hN _ z t) (fun i v=>Pk) (fun i h ⟨o,e,c,d⟩=>⟨o,_,_,e,c,d,by decide⟩) (fun i h h' ⟨o,e,r⟩ k=>⟨o,k o e,r⟩) (fun A i s Q E st q=>wpAny_pyIter_striter_wide st q),
   ⟨fC _,_,hc _ rfl,rfl,rfl⟩,hu,q⟩
 | true=>
  refine wpAny_pyIter_ascii aO ⟨s1.heap.objs.size,[s1.heap.objs.size],fun i h=>i <= (mZ z).length/\h.IsStrIter s1.heap.objs.size "str_ascii_iterator" z t i,_,H1,rfl,aN.kept (t':=s1.toks) fun b o e=>dE _ e,
   Ix (fun A hN=>by rw [aJ];exact Walks.strAscii hN _ z t) (fun i v=>Pk) (fun i h ⟨o,e,c,d⟩=>⟨o,_,_,e,c,d,by decide⟩) (fun i h h' ⟨o,e,r⟩ k=>⟨o,k o e,r⟩) (fun A i s Q E st q=>wpAny_pyIter_striter_ascii st q),
   ⟨fC _,_,hc _ rfl,rfl,rfl⟩,hu,q⟩
end
theorem aku {xs:List V} {g:gH} {bK:dF} {D:gO} {σ:St} {H:au} (Pv:Nat->St->au->Prop) (h0:Pv 0 σ H)
  (ay:∀ i x σ H,xs[i]? = some x->Pv i σ H->g x σ H fun cz aw=>bK { D with b2:=Pv (i + 1),eH:=Pv (i + 1),cA:=D.b2 } cz aw) (hd:∀ σ H,Pv xs.length σ H->D.b2 σ H) :
  ∃ W:Nat->Nat->St->au->Prop,(∃ m,W 0 m σ H)/\∀ i m σ H,W i m σ H ->
   ((pF xs).stop i H/\D.b2 σ H)\/((pF xs).go i H/\∃ N:St->au->Prop,(∀ ax I,N ax I->∃ dt,dt < m/\W (i + 1) dt ax I)/\∀ x I,(pF xs).ph i H x I->g x σ I fun cz aw=>bK { D with b2:=N,eH:=N,cA:=D.b2 } cz aw):=by
 refine ⟨fun i m σ H=>m=xs.length - i/\i <= xs.length/\Pv i σ H,⟨xs.length,by simp,fC _,h0⟩,?_⟩;rintro i m σ H ⟨rfl,ah,p⟩;by_cases dD:i < xs.length
 .refine .inr ⟨dD,Pv (i + 1),fun ax I ju=>⟨xs.length - (i + 1),by omega,rfl,dD,ju⟩,fun x I y=>?_⟩;obtain ⟨e,y⟩:=y;subst e;exact ay i x σ _ y p
 .have e:i=xs.length:=by omega
  subst e;exact .inl ⟨bW _,hd σ H p⟩
theorem ajB (Pv:Nat->List V->au->Prop) (aJ:xs.length <= sizeLine) (h0:Pv 0 [] H) (aA:∀ i ys H,i <= xs.length->Pv i ys H->ys.length <= i)
  (ay:∀ i x ys H,xs[i]? = some x->Pv i ys H->pE Pv g dk bJ dv i x ys H) (hd:∀ ys H,Pv xs.length ys H->∀ p,H p=none->Q (.ref p) (upd H p (.lst ys))) :
  ∃ W:Nat->Nat->List V->au->Prop,(∃ m,W 0 m [] H)/\rH (pF xs) g dk bJ dv Q W:=by
 refine ⟨fun i m ys H=>m=xs.length - i/\i <= xs.length/\Pv i ys H,⟨xs.length,by simp,fC _,h0⟩,?_⟩;rintro i m ys H ⟨rfl,ah,p⟩;have vc:=aA i ys H ah p;by_cases dD:i < xs.length
 .refine .inr ⟨dD,by omega,fun x I y=>?_⟩;obtain ⟨e,y⟩:=y;subst e;exact ay i x ys _ y p (fun jx I=>∃ dt,dt < xs.length - i/\dt=xs.length - (i + 1)/\i + 1 <= xs.length/\Pv (i + 1) jx I) fun jx I r=>⟨xs.length - (i + 1),by omega,rfl,dD,r⟩
 .have e:i=xs.length:=by omega
  subst e;exact .inl ⟨bW _,hd ys H p⟩
section
variable {X:a3}
noncomputable def Iy:V->Option Int->Option Int->au->cJ->Prop:=fun x lo ah H Q=>∃ z,x=.str z/\z.length <= sizeLine/\Q (.str (lP z lo ah)) H
theorem zB:zN X Iy:=by
 intro aa s σ H x v jF jy lo ah bt Q J bb ay pl pu h;obtain ⟨z,rfl,aJ,q⟩:=h;obtain ⟨t,rfl⟩:=bb;refine ⟨"str",_,F.slot_str_getitem.lookup,typeIs_str s z t,?_⟩;have fin:∀ t' k,f7 X aa σ Q (.str (lP z lo ah) t') { s with toks:=k }:=fun t' k=>⟨.str _,H,J.tok _,⟨_,rfl⟩,q⟩
 cases pl with
 | none=>
  cases pu with
  | none=>exact wpAny_getItem_str_slice (l:=none) (u:=none) (st:=none) ay rfl (post_val_or_str ⟨cP (tS z _ _) aJ,fin⟩)
  | int j Es=>exact wpAny_getItem_str_slice (l:=none) (u:=some (j,Es)) (st:=none) ay rfl (post_val_or_str ⟨cP (tS z _ _) aJ,fin⟩)
 | int i Pl=>
  cases pu with
  | none=>exact wpAny_getItem_str_slice (l:=some (i,Pl)) (u:=none) (st:=none) ay rfl (post_val_or_str ⟨cP (tS z _ _) aJ,fin⟩)
  | int j Es=>exact wpAny_getItem_str_slice (l:=some (i,Pl)) (u:=some (j,Es)) (st:=none) ay rfl (post_val_or_str ⟨cP (tS z _ _) aJ,fin⟩)
noncomputable def aL (ys:List Str):List V:=ys.map V.str
theorem ajj:∀ {ys:List Str} {us:List Value},bU (aL ys) us->StrsAre us ys:=by
 intro ys
 induction ys with
 | nil=>intro us r;cases r;exact .nil
 | cons y ys b'=>
  intro us r;cases r with
  | cons cE fW=>
   obtain ⟨t,rfl⟩:=cE;exact .cons y t (b' fW)
theorem Rn:∀ (l:List (Str × Tok)),bU (aL (l.map (·.1))) (strValues l)
 | []=>.nil
 | (x,t) :: r=>.cons ⟨t,rfl⟩ (Rn r)
noncomputable def FK (K:a_):V->List V->au->cJ->Prop:=fun x vs H Q=>∃ sep p ys,x=.str sep/\vs=[.ref p]/\aB K H p (aL ys)/\(ys.map (·.length)).sum + ys.length * sep.length <= 16777216/\Q (.str (pB sep ys)) H
theorem xT:uh X "str.join" (FK X.K):=by
 intro aa s σ H x xs v us Q J bb cG h;obtain ⟨sep,p,ys,rfl,rfl,aI,aJ,q⟩:=h;obtain ⟨t,rfl⟩:=bb;obtain ⟨u,rfl,eo⟩:=kP cG;cases eo;obtain ⟨a9,r,pl,_⟩:=J.list aI;exact join_list pl.isList (by simpa using ajj r) aJ fun t' k=>⟨.str _,H,J.tok _,⟨_,rfl⟩,q⟩
end
theorem YA {prog:Program} {w:World} {A:Around} {x y:Str} {t u:Tok} (bh:(y.length == 0)=false)
  (h:∀ l k,l.map (·.1)=ij x y->Q (.ref s.heap.objs.size) { s with heap:=s.heap.push { cls:=.type "list",data:=.seq (strValues l).toArray },toks:=k }) (hsz:x.length + 2 <= sizeLine) :
  wpAny (model prog w) A (call (.builtin "str.split") [.str x t,.str y u]) Q E s:=by
 have aY:(afe x (sC x y 0 x.length (x.length + 1)) y.length).length <= sizeLine:=by
  have aq:=StrLaws.occ_length_le x y 0 x.length (x.length + 1);rw [length_partsBetween];omega
 cases af:(decide (x.length < y.length) || decide (ahL x < ahL y))
 .cases hf:(sC x y 0 x.length (x.length + 1)).isEmpty
  .refine call_meets B4 (typeIs_str _ _ _) Nf (RI _ _) (meets_str_split_sep x y t u af bh hf (by omega) aY) ?_;show wants Q E _ { s with toks:=_,heap:=s.heap.push { cls:=.type "list",data:=.seq (strsFrom s.toks (afe x (sC x y 0 x.length (x.length + 1)) y.length)).toArray } };rw [strsFrom_eq];exact h (numbered s.toks _) _ ((numbered_texts _ _).trans ((if_neg (ne_true_of_eq_false af)).trans (if_neg (ne_true_of_eq_false hf))).symm)
  .exact call_meets B4 (typeIs_str _ _ _) Nf (RI _ _) (meets_str_split_not_found x y t u af bh hf)
    (h [(x,t)] s.toks ((if_neg (ne_true_of_eq_false af)).trans (if_pos hf)).symm)
 .exact call_meets B4 (typeIs_str _ _ _) Nf (RI _ _) (meets_str_split_cannot_occur x y t u af)
   (h [(x,t)] s.toks (if_pos af).symm)
section
variable {X:a3}
noncomputable def Mq:V->List V->au->cJ->Prop:=fun x vs H Q=>∃ z y,x=.str z/\vs=[.str y]/\y.length ≠ 0/\z.length + 2 <= sizeLine/\(ij z y).length <= sizeLine/\∀ p,H p=none->Q (.ref p) (upd H p (.lst (aL (ij z y))))
theorem P8:uh X "str.split" Mq:=by
 intro aa s σ H x xs v us Q J bb cG h;obtain ⟨z,y,rfl,rfl,bh,aJ,aY,q⟩:=h;obtain ⟨t,rfl⟩:=bb;obtain ⟨u,rfl,eo⟩:=kP cG;obtain ⟨aoC,rfl⟩:=eo;refine YA (by simpa using bh) (fun l k aA=>?_) aJ;refine ⟨.ref s.heap.objs.size,_,J.laid (t':=k) (o:=.lst (aL (ij z y))) (fun b o e=>dE _ e) (bW _) ⟨by unfold aL;rw [a0];exact aY,strValues l,0,by rw [<- aA];exact Rn l,hc _ rfl⟩,rfl,q _ (J.a4.fresh (bW _))⟩
theorem af8:k7 X (.type "int") (fun xs H Q=>∃ z n,xs=[.str z]/\intText? z=some n/\z.length <= 640/\Q (.int n) H):=by
 intro aa s σ H xs us Q J r h;obtain ⟨z,n,rfl,aY,aJ,q⟩:=h;obtain ⟨u,rfl,t,rfl⟩:=kP r;exact PySem.W.KIN.call_text aY aJ ⟨.int n,H,J.tok _,⟨_,rfl⟩,q⟩
theorem Ft:∀ {bs:List Bool} {us:List Value},bU (bs.map V.bo) us->us=bs.map jz
 | [],_,.nil=>rfl
 | b :: bs,_,.cons r t=>by
  have e:_=jz b:=r;rw [e,Ft t];rfl
theorem Uv {A:Around} (bs:List Bool):TruthOf X.prog X.w A (fun i v=>(bs.map jz).toArray[i]? = some v) (fun i=>bs.getD i true):=by
 intro i v s Q E ct a8;have e:(bs.map jz)[i]? = some v:=by simpa using ct
 rw [da] at e;cases q:bs[i]? with
 | none=>rw [q] at e;cases e
 | some b=>
  rw [q] at e;have bQ:jz b=v:=dU e;subst bQ;refine wpAny_truthy_bool ?_;have:bs.getD i true=b:=by simp [Cd,q]
  have A9:Q (bs.getD i true) s:=a8;rw [this] at A9;exact A9
theorem ach (bs:List Bool):(fF bs.length).all (fun i=>bs.getD i true)=bs.all id:=by
 rw [j'];simp only [nX,n_,id];constructor
 .intro h b ab;obtain ⟨i,ah,e⟩:=XK.mp ab;have:=h i ah;simp [Cd,ah,e] at this;exact this
 .intro h i ah;simp [Cd,ah];exact h _ (jq ah)
theorem Y0 (bs:List Bool):(fF bs.length).any (fun i=>bs.getD i true)=bs.any id:=by
 rw [j'];simp only [qV,n_,id];constructor
 .rintro ⟨i,ah,h⟩;refine ⟨bs[i],jq ah,?_⟩;simp [Cd,ah] at h;exact h
 .rintro ⟨b,ab,h⟩;obtain ⟨i,ah,e⟩:=XK.mp ab;refine ⟨i,ah,?_⟩;simp [Cd,ah,e];exact h
theorem Xb (av:X.calm=true):k7 X (.builtin "all") (fun xs H Q=>∃ (p:Addr) (bs:List Bool),xs=[.ref p]/\aB X.K H p (bs.map V.bo)/\Q (.bo (bs.all id)) H):=by
 intro aa s σ H xs us Q J r h;obtain ⟨p,bs,rfl,aI,q⟩:=h;obtain ⟨u,rfl,eo⟩:=kP r;cases eo;obtain ⟨a9,cG,pl,_⟩:=J.list aI;have e:=Ft cG;subst e;refine call_all_walk (wpAny_pyIter_list pl.isList ?_);have bX:p ≠ s.heap.objs.size:=fR (by obtain ⟨o,_,aQ,_⟩:=pl;exact dJ aQ);refine ⟨s.heap.objs.size,_,_,_,_,_,fun i=>bs.getD i true,rfl,zG (show X.A.in1.handled=none from J.ok.hd av) _ p bX (bs.map jz).toArray,⟨⟨_,hc _ rfl,rfl,rfl⟩,pl.isList.at fun o e=>dE _ e⟩,Uv bs,fun h' tk jw=>?_⟩;refine ⟨.bo (bs.all id),H,J.kept fun b o e=>jw b o (by simpa using fR (dJ e)) (dE _ e),?_,q⟩;show jz _=jz _;rw [show (bs.map jz).toArray.size=bs.length by simp,ach]
theorem Zb (av:X.calm=true):k7 X (.builtin "any") (fun xs H Q=>∃ (p:Addr) (bs:List Bool),xs=[.ref p]/\aB X.K H p (bs.map V.bo)/\Q (.bo (bs.any id)) H):=by
 intro aa s σ H xs us Q J r h;obtain ⟨p,bs,rfl,aI,q⟩:=h;obtain ⟨u,rfl,eo⟩:=kP r;cases eo;obtain ⟨a9,cG,pl,_⟩:=J.list aI;have e:=Ft cG;subst e;refine call_any_walk (wpAny_pyIter_list pl.isList ?_);have bX:p ≠ s.heap.objs.size:=fR (by obtain ⟨o,_,aQ,_⟩:=pl;exact dJ aQ);refine ⟨s.heap.objs.size,_,_,_,_,_,fun i=>bs.getD i true,rfl,zG (show X.A.in1.handled=none from J.ok.hd av) _ p bX (bs.map jz).toArray,⟨⟨_,hc _ rfl,rfl,rfl⟩,pl.isList.at fun o e=>dE _ e⟩,Uv bs,fun h' tk jw=>?_⟩;refine ⟨.bo (bs.any id),H,J.kept fun b o e=>jw b o (by simpa using fR (dJ e)) (dE _ e),?_,q⟩;show jz _=jz _;rw [show (bs.map jz).toArray.size=bs.length by simp,Y0]
end
theorem er {X:a3} {N:List Str} (h:N.Nodup) (e:X.N=N):X.N.Nodup:=e ▸ h
noncomputable def ND (sc scope:Scope):Bool:=
 (scope.kind == .function) && scope.names.all (fun y=>y.2 != .cell) && scope.names.all (fun y=>y.2 != .free || sc.names.lookup y.1 == some .cell || sc.names.lookup y.1 == some .free) &&
  scope.names.all (fun y=>y.2 != .local || scope.names.lookup y.1 == some .local)
theorem gz {env:Env} (he:env.scope=sc) (h:ND sc scope=true):qW env scope:=by
 subst he;unfold ND at h;simp only [iE,nX] at h;obtain ⟨⟨⟨af,aj⟩,a'⟩,c7⟩:=h;refine ⟨by simpa using af,fun y bh e=>?_,fun y bh e=>?_,fun y bh e=>?_⟩
 .have:=aj y bh;rw [e] at this;exact absurd this (by decide)
 .have:=a' y bh;rw [e] at this;simp only [w3] at this;rcases this with (z | z) | z
  .exact absurd z (by decide)
  .exact .inl (show env.scope.names.lookup y.1=some .cell by simpa using z)
  .exact .inr (show env.scope.names.lookup y.1=some .free by simpa using z)
 .have:=c7 y bh;rw [e] at this;simp only [w3] at this;rcases this with z | z
  .exact absurd z (by decide)
  .simpa using z
noncomputable def S1 (M:List Str) (scope:Scope) (N:List Str) (sel:List (Option Nat)):Bool:=
 sel.length == N.length && (sel.zip N).all fun p=>match p.1 with | none=>true | some j=>M[j]? == some p.2 && scope.names.lookup p.2 == some .free
theorem gA {N:List Str} (h:S1 M scope N sel=true):xH M scope N sel:=by
 unfold S1 at h;simp only [iE,nX] at h;refine ⟨by simpa using h.1,fun i j x aq aD=>?_⟩;have hm:(some j,x) ∈ sel.zip N:=by
  rw [List.mem_iff_getElem?];exact ⟨i,by rw [List.getElem?_zip_eq_some];exact ⟨aq,aD⟩⟩
 have:=h.2 _ hm;simp only [iE] at this;exact ⟨by simpa using this.1,by simpa using this.2⟩
noncomputable def o8:e2->Bool
 | .f9 _=>false
 | .d6 _ u=>o8 u
 | _=>true
def aP (H:au):Prop:=∀ b o,H b=some o->o8 o=true
theorem dy.back {w:World} {h h':Heap}:∀ (o:e2),o8 o=true->dy P w I h' a o->dy P w H h a o->dy P w H h' a o
 | .lst _,_,x,_=>x
 | .tup _,_,x,_=>x
 | .bx _,_,x,_=>x
 | .f9 _,e,_,_=>absurd e (by unfold o8;decide)
 | .set _ _,_,x,_=>x
 | .ins _ _ _,_,x,y=>⟨y.1,x.2⟩
 | .own _,_,x,_=>x
 | .yW _,_,x,_=>x
 | .met _ _,_,x,_=>x
 | .zQ _ _,_,x,_=>x
 | .d6 bV u,e,x,y=>⟨x.1,dy.back u (by unfold o8 at e;exact e) x.2 y.2⟩
 | .gF _,_,x,_=>x
 | .ext _,_,x,_=>x
section
variable {P:Program} {w:World} {K:a_} {mg:Str->Option Value} {base:Heap}
theorem b_.forget {k:Nat} {fd:FuncData} (F:b_ P w K mg base dr k f fd ps sp)
  (h:∀ vs H Q E,yx vs H Q E->aP H/\sp vs H (fun v I=>aS H I/\Q v H) E):b_ P w K mg base dr k f fd ps yx:=by
 refine ⟨fun vs H Q E q=>F.len vs H _ E (h vs H Q E q).2,fun A outer s H args us vs Q E ak he ab aF ay=>?_⟩;obtain ⟨bN,q⟩:=h vs H Q E ay;refine codeAny_mono (F.run A outer s H args us vs _ E ak he ab aF q) fun r s' aI=>?_
 cases r with
 | error e=>exact aI
 | ok cR=>
  cases cR with
  | next=>exact aI
  | brk=>exact aI
  | cont=>exact aI
  | ret u=>
   obtain ⟨v,I,os,bare,un,a4,cG,bR,cW⟩:=aI;exact ⟨v,H,os,bare,⟨un.keep,un.slot,fun _ _ _ n _=>n,un.there,fun _ _ z=>z,fun _ _ _ z=>z,fun _ ps z=>⟨#[],by rw [z];simp⟩⟩,fun a o e=>(a4 a o (bR a o e)).back o (bN a o e) (he.a4 a o e),cG,cW⟩
end
theorem bq {p:Addr} (h:H p=none):aS H (upd H p o):=fun b u q=>by rw [aH (dj q h)];exact q
theorem aS.fY {p:Addr} (s:aS H H1) (h:H p=none):aS H (upd H1 p o):=fun b u q=>by rw [aH (dj q h)];exact s b u q
structure Sc (K:a_) (a:Addr) (ns:List Int) (H:au):Prop where
 vz:(∃ o,H a=some (.d6 o (.lst (ns.map V.int))))\/∃ (o:Obj) (a9:Array Value) (n:Nat),K.lookup a=some o/\o.cls=.type "list" /\ o.dict=none/\o.data=.seq a9 n/\a9.size <= sizeLine/\bU (ns.map V.int) a9.toList
 bN:aP H
section
variable {K:a_} {a p:Addr} {ns:List Int} {H I:au} {o:e2}
theorem Sc.seq (s:Sc K a ns H):aB K H a (ns.map V.int):=by
 rcases s.vz with ⟨o,h⟩ | h
 .exact .inl (.inr ⟨o,h⟩)
 .exact .inr h
theorem Sc.new (s:Sc K a ns H) (ar:H p=none) (aQ:o8 o=true:=by rfl):Sc K a ns (upd H p o):=by
 refine ⟨?_,fun b u e=>?_⟩
 .rcases s.vz with ⟨bV,h⟩ | h
  .exact .inl ⟨bV,by rw [aH (dj h ar)];exact h⟩
  .exact .inr h
 .by_cases ab:b=p
  .subst ab;rw [aX] at e;cases e;exact aQ
  .rw [aH ab] at e;exact s.bN b u e
theorem Sc.set (s:Sc K a ns H) (ar:H p=some u) (br:∀ bV z,u ≠ .d6 bV z) (aQ:o8 o=true:=by rfl):Sc K a ns (upd H p o):=by
 refine ⟨?_,fun b x e=>?_⟩
 .rcases s.vz with ⟨bV,h⟩ | h
  .refine .inl ⟨bV,?_⟩;have bX:a ≠ p:=fun z=>by subst z;rw [ar] at h;exact br _ _ (dU h)
   rw [aH bX];exact h
  .exact .inr h
 .by_cases ab:b=p
  .subst ab;rw [aX] at e;cases e;exact aQ
  .rw [aH ab] at e;exact s.bN b x e
end
theorem hW:bootBuiltins "len"=some (.builtin "len"):=PySem.boot_len
theorem Xf:bootBuiltins "all"=some (.builtin "all"):=by ac_nf
theorem alv:bootBuiltins "any"=some (.builtin "any"):=by ac_nf
theorem Lu:bootBuiltins "max"=some (.builtin "max"):=by ac_nf
theorem Je:bootBuiltins "int"=some (.type "int"):=by ac_nf
theorem vl:bootBuiltins "str"=some (.type "str"):=by ac_nf
theorem yd:bootBuiltins "list"=some (.type "list"):=by ac_nf
theorem jv.same (h:jv H a o) (s:aS H I):jv I a o:=by
 rcases h with h | ⟨bV,h⟩
 .exact .inl (s _ _ h)
 .exact .inr ⟨bV,s _ _ h⟩
theorem aB.same {K:a_} (h:aB K H a xs) (s:aS H I):aB K I a xs:=by
 rcases h with h | h
 .exact .inl (h.same s)
 .exact .inr h
theorem c0.same {K:a_} (h:c0 K H a xs) (s:aS H I):c0 K I a xs:=by
 rcases h with h | h
 .exact .inl (h.same s)
 .exact .inr h
theorem aP.upd {p:Addr} (h:aP H) (aQ:o8 o=true:=by rfl):aP (upd H p o):=fun b u e=>by
 by_cases ab:b=p
 .subst ab;rw [aX] at e;cases e;exact aQ
 .rw [aH ab] at e;exact h b u e
theorem Sc.same {K:a_} {ns:List Int} (s:Sc K a ns H) (bR:aS H I) (bN:aP I):Sc K a ns I:=by
 refine ⟨?_,bN⟩;rcases s.vz with ⟨o,h⟩ | h
 .exact .inl ⟨o,bR _ _ h⟩
 .exact .inr h
structure VE (K:a_) (C:Addr) (m:Str) (f:Addr):Prop where
 kc:YT K C (.type "type")=true
 fd:agK K (.ref C) (.type "type") m=some (.val (.ref f))
 ga:sP K (.ref C) "__getattribute__"=some (some (.builtin "type.__getattribute__"))
 bH:qr K (.ref f)=true
structure pk (P:Program) (w:World) (K:a_) (mg:Str->Option Value) (base:Heap) (CX:jc) (k:Nat) (oy:Addr->Prop) (m:Str) (ps:List Str) (n8:Addr->bP):Prop where
 ok:∀ C,oy C->∃ f fd,gP K C/\fE K C m f/\b_ P w K mg base CX k f fd ps (n8 C)/\bY K fd ps []
noncomputable def Rr (oy:Addr->Prop) (m:Str) (n8:Addr->bP) (E:dZ) (a7:TE) (t:e_):TE:=fun σ H Q=>a7 σ H fun x H1=>∃ a C ao aK,x=.ref a/\H1 a=some (.ins C ao aK)/\oy C/\aK.lookup m=none /\
 t σ H1 fun vs aw=>n8 C (x :: vs) aw Q E
section
variable {X:a3} {CX:jc} {k:Nat} {f C:Addr} {fd:FuncData} {ps:List Str} {sp:bP} {dvs:List V} {ds:List Value} {E:dZ} {x m:Str} {p pos eT:Pos} {e o:Expr} {aV:List Expr} {a7:TE} {t:e_}
theorem LP (a5:j7 X x) (hm:X.mg x=some (.ref C)) (c:VE X.K C m f) (F:b_ X.prog X.w X.K X.mg X.base CX k f fd ps sp) (ak:dX k X.A) (ab:bY X.K fd ps ds) (hd:bU dvs ds) (ag:n3 CX X E) (aO:iY X (e :: aV) t)
  (i6:(x == ("__debug__" : Str))=false:=by decide) (fO:starEach (e :: aV) X.env=(false,eval e X.env) :: starEach aV X.env:=by rfl) (cO:(backTo pos (starEach aV X.env)).any (·.1)=false:=by rfl)
  (cK:eval (.Call (.Attribute (.Name x p) m eT) (e :: aV) [] pos) X.env=(do
   let d0 <- eval (.Name x p) X.env
   standAt eT.atName
   let (f,first) <- holding [d0] (getMethod d0 m pl)
   callWith pos f first (backTo pos (starEach (e :: aV) X.env)) (backToKw pos (keywordEach [] X.env))):=by rfl) :
  bp X (.Call (.Attribute (.Name x p) m eT) (e :: aV) [] pos) (vK sp dvs E t):=by
 intro aa s σ H Q J h;refine yk (pl:=pl) (sa J a5 hm ?_ i6) cK;refine ae1 J.fz c.ga (akk J.fz c.kc c.fd rfl ?_);have aN:=J.tok (s.toks + 1);refine vG (first:=[]) (h₀:=X.base) J.ok.mod.qA c.bH (bA (aO pos aa _ σ H _ aN h) fun us s2 ⟨vs,aw,bu,r,dn⟩=>⟨bu.fz,?_⟩) fO cO;exact xZ F ak ab hd ag bu r dn
variable {oy:Addr->Prop} {n8:Addr->bP}
theorem z2 (he:bp X o a7) (V:pk X.prog X.w X.K X.mg X.base CX k oy m ps n8) (ak:dX k X.A) (ag:n3 CX X E)
  (cK:eval (.Call (.Attribute o m eT) [] [] pos) X.env=(do
   let d0 <- eval o X.env
   standAt eT.atName
   let (f,first) <- holding [d0] (getMethod d0 m pl)
   callWith pos f first (backTo pos (starEach [] X.env)) (backToKw pos (keywordEach [] X.env))):=by rfl) :
  bp X (.Call (.Attribute o m eT) [] [] pos) (Rr oy m n8 E a7 wR):=by
 intro aa s σ H Q J h;refine yk (pl:=pl) (bA (he aa s σ H _ J h) fun u s1 cF=>?_) cK;obtain ⟨x,H1,aN,bb,a,C,ao,aK,ex,ei,ok,l,q⟩:=cF;subst ex;obtain rfl:u=dz a:=bb;obtain ⟨f,fd,c,hm,F,ab⟩:=V.ok C ok;refine Ag aN ei c hm l ?_;exact Yg (first:=[.ref a]) aN.fz hm.bH (xZ (us:=[.ref a]) (vs:=[.ref a]) (dvs:=[]) F ak ab .nil ag aN (.cons rfl .nil) q)
end
section
variable {X:a3} {x:Str} {p pos:Pos} {i:Expr} {ty:TE} {u:Value} {kvs:List (Str × V)}
end
theorem gh:∀ {aK:List (Str × V)} (cb:List Str),aK.map (·.1)=cb->cb.contains f=false->c2 f v aK=aK ++ [(f,v)]
 | [],_,_,_=>rfl
 | (g,y) :: r,cb,e,h=>by
  cases e;rw [eN,zi] at h;have af:=(Ct.mp h);have bX:¬ g=f:=fun z=>by
   have:=af.1;rw [z] at this;simp at this
  show (if g=f then _ else _)=_;rw [if_neg bX,gh _ rfl af.2];rfl
theorem g7 {aK:List (Str × V)} (h:aK.length < n):(c2 f v aK).length < n + 1:=gQ (Ek f v aK) (by omega)
theorem gr:∀ {aK:List (Str × V)} (cb:List Str) (i:Nat),aK.map (·.1)=cb->cb.findIdx? (· == f)=some i->aK[i]? = some (f,v)->aK.lookup f=some v
 | [],_,_,_,_,h=>by simp at h
 | (g,y) :: r,cb,i,e,h,aF=>by
  cases e;rw [eN,List.findIdx?_cons] at h;rw [nQ];by_cases e:g=f
  .subst e;rw [beq_self_eq_true,if_pos rfl] at h;cases h;have:(g,y)=(g,v):=by simpa using aF
   cases this;rw [beq_self_eq_true]
  .rw [beq_eq_false_iff_ne.mpr e,if_neg (by decide)] at h;obtain ⟨j,aM,rfl⟩:=vf.mp h;rw [beq_eq_false_iff_ne.mpr (fun z=>e z.symm)];exact gr _ j rfl aM (by simpa using aF)
theorem xO:∀ {aK:List (Str × V)} (cb:List Str),aK.map (·.1)=cb->cb.contains f=false->aK.lookup f=none
 | [],_,_,_=>rfl
 | (g,y) :: r,cb,e,h=>by
  cases e;rw [eN,zi] at h;have af:=(Ct.mp h);rw [nQ,af.1];exact xO _ rfl af.2
theorem Inv.Dc {X:a3} {aa:List (Addr × Obj)} {σ:St} {H:au} {s:Shared} {h':Heap} {t':Nat} {bI:List Addr} (J:Inv X aa σ H s) (k:∀ b o,b ∉ bI->s.heap.get? b=some o->h'.get? b=some o)
  (hf:∀ b ∈ bI,je X aa H b):Inv X aa σ H { s with heap:=h',toks:=t' }:=by
 have nit:∀ b u,H b=some u->b ∉ bI:=fun b u e z=>by rw [(hf b z).1] at e;cases e
 refine J.step (g':=s.gens) (d':=s.drawn) (ch:=bI) (fun b ab=>?_) (fun b o _ _ av e _=>k b o av e) (fun b o _ _ av e _=>⟨o.slots,k b o av e⟩) (fun _ _ _ _ n=>n)
  (fun b o av e=>⟨o,k b o av e⟩) (fun _ _ e=>e) (fun _ _ _ e=>e) (fun b ps e=>⟨#[],by rw [e];simp⟩) (fun m hm=>?_) (fun b u e=>?_) J.bare
 .obtain ⟨f0,f1,f2,en,f4,eW⟩:=hf b ab;exact ⟨en,f1,f4,eW⟩
 .obtain ⟨o,aV,ep,aQ,r⟩:=hm;exact ⟨o,aV,ep,k _ o (fun z=>(hf _ z).2.1 rfl) aQ,r⟩
 .refine (J.a4 b u e).mF (fun c v av q=>k c v ?_ q) (fun _ q=>q) fun _ _ q=>q
  rcases av with z | z
  .rw [z];exact nit b u e
  .exact nit c _ z
noncomputable def CD (K:a_) (a:Addr):jm:=
 ⟨fun i H=>∃ xs x,aB K H a xs/\xs[i]? = some x,fun i H v I=>∃ p y,H p=none/\v=.ref p/\(∀ xs,aB K H a xs->xs[i]? = some y)/\I=upd H p (.tup [.int i,y]),fun i H=>∃ xs,aB K H a xs/\xs.length <= i⟩
theorem agc {P:Program} {w:World} {K:a_} {aV:List Expr} {k} {pos:Pos} (a e it:Addr) (bX:e ≠ it) :
  oR P w K (.Tuple aV k pos) (CD K a) [e,it] e (fun i h=>∃ old,IsEnum h e it ((i:Nat):Int) old/\h.IsListIter it a i) where
 mem:=by simp
 obj:=fun i h ⟨old,he,ah⟩ b ab=>by
  simp only [fi,rt,or_false] at ab;rcases ab with rfl | rfl
  .exact ⟨_,he,fun v z=>by
    have hv:U_ _=SF v:=z;cases hv⟩
  .obtain ⟨o,q,c,d⟩:=ah;exact ⟨o,q,fun v z=>by rw [d] at z;cases z⟩
 keep:=fun i h h' ⟨old,he,ah⟩ k=>⟨old,k e (by simp) _ he,ah.at fun o q=>k it (by simp) o q⟩
 item:=by
  intro X ct hw fl av i aa s σ H E J hf ⟨old,he,ah⟩ a5;subst ct hw fl;obtain ⟨xs,x,aI,ag⟩:=a5;obtain ⟨a9,cG,p,aJ⟩:=J.list aI;obtain ⟨u,br,eo⟩:=cG.get ag;refine wpAny_pyNext_enum_item he ah p.isList (x:=u) (by simpa using br) bX fun af KY aa7 IB CE vE=>⟨_,rfl,?_⟩
  refine wpAny_letOwnedTupleGo_enum KY fun aj Mu jh=>?_
  replace jh:t_ e af aj:=jh;have w6:e < s.heap.objs.size:=dJ he;have aC:∀ b o,b ∉ [e,it]->s.heap.get? b=some o->aj.get? b=some o:=fun b o ab q=>by
   simp only [fi,rt,or_false,not_or] at ab;exact jh.extBut _ _ ab.1 (vE b o ab.1 ab.2 q)
  have aN:Inv X aa σ H { s with heap:=aj,toks:=s.toks + 1 }:=J.Dc aC hf;have hu:je X aa H s.heap.objs.size:=J.nH (bW _) (J.a4.fresh (bW _));have JY:aj.get? s.heap.objs.size=some { cls:=.type "tuple",data:=.seq #[.int i s.toks,u] }:=(jh.2 _ (te w6)).trans IB;have bu:=aN.adopt (o:=.tup [.int i,x]) hu ⟨by show 2 <= sizeLine;decide,[.int i s.toks,u],.cons ⟨_,rfl⟩ (.cons eo .nil),⟨_,JY,rfl,_,rfl⟩⟩;refine ⟨.ref s.heap.objs.size,_,bu,rfl,⟨_,x,hu.1,rfl,fun ys bh=>by rw [J.wg bh aI];exact ag,rfl⟩,⟨u,?_,?_⟩,fun b ab=>?_⟩
  .have aq:((i + 1:Nat):Int)=(i:Int) + 1:=by omega
   rw [aq];exact Mu
  .exact aa7.extBut jh.extBut (dg bX)
  .have dD:b < s.heap.objs.size:=by
    simp only [fi,rt,or_false] at ab;rcases ab with rfl | rfl
    .exact w6
    .obtain ⟨o,q,_⟩:=ah;exact dJ q
   rw [aH (fR dD)];exact (hf b ab).1
 done:=by
  intro X ct hw fl av i aa s σ H E J hf ⟨old,he,ah⟩ a5;subst ct hw fl;obtain ⟨xs,aI,ag⟩:=a5;obtain ⟨a9,cG,p,aJ⟩:=J.list aI;have aA:=cG.length;exact wpAny_pyNext_enum_end (J.ok.hd av) he ah p.isList (by simp;omega) fun h' eO=>⟨rfl,J.Dc (t':=s.toks) (fun b o ab q=>eO b o (fun z=>ab (by simp [z])) q) hf⟩
 self:=fun _ _ _ _ _ ⟨_,he,_⟩ h=>wpAny_pyIter_enum he h
theorem aju:bootBuiltins "enumerate"=some (.type "enumerate"):=by ac_nf
noncomputable def aap (K:a_) (a b:Addr):jm:=
  ⟨fun i H=>∃ xs ys x y,aB K H a xs/\aB K H b ys/\xs[i]? = some x/\ys[i]? = some y,
   fun i H v I=>∃ p x y,H p=none/\v=.ref p/\(∀ xs,aB K H a xs->xs[i]? = some x)/\(∀ ys,aB K H b ys->ys[i]? = some y)/\I=upd H p (.tup [x,y]),
   fun i H=>∃ xs ys,aB K H a xs/\aB K H b ys/\(xs.length <= i\/ys.length <= i)⟩
section
variable {X:a3}
noncomputable def wP (K:a_) (a7:e_):TI:=fun σ H R=>a7 σ H fun vs H1=>∃ a,vs=[.ref a]/\(∃ xs,aB K H1 a xs)/\R (CD K a) H1
theorem CZ {k} {p pos:Pos} (a5:j7 X "enumerate") (hm:X.mg "enumerate"=none) (aO:iY X [a] a7) (ay:starEach [a] X.env=[(false,eval a X.env)]:=by rfl) :
  oF X (.Tuple aV k vT) (.Call (.Name "enumerate" p) [a] [] pos) (wP X.K a7):=by
 intro aa s σ H R J h;refine Call_ (wH J a5 hm aju (MI (bA (aO pos aa s σ H _ J h) fun us s1 cF=>?_) ay rfl));obtain ⟨vs,H1,aN,cE,bS⟩:=cF;obtain ⟨a,e,⟨xs,aI⟩,q⟩:=bS;subst e;cases cE with
 | cons r sk=>
  cases sk;cases r;obtain ⟨a9,cG,pl,aJ⟩:=aN.list aI;refine call_enumerate_list pl.isList fun h' pY Ku hsz aC=>wpAny_pyIter_enum pY ?_
  refine ⟨s1.heap.objs.size + 1,[s1.heap.objs.size + 1,s1.heap.objs.size],_,_,H1,rfl,aN.kept (t':=s1.toks) aC,agc a _ _ (Nat.succ_ne_self _),⟨_,pY,Ku⟩,fun b ab=>?_,q⟩;have f5:s1.heap.objs.size <= b:=by
   simp only [fi,rt,or_false] at ab;rcases ab with rfl | rfl
   .exact v_ _
   .exact bW _
  exact aN.nH f5 (aN.a4.fresh f5)
end
theorem lC {k:Nat} {t:rP} {K:a_} (fl:X.K=K) (av:X.calm=true) (h:xl X aV t)
  (aY:(assignEach aV X.env).length=n:=by rfl) (fO:(assignEach aV X.env).findIdx? (·.1)=none:=by rfl):mT X (.Tuple aV k pos) (t2 K n t):=by
 subst fl;exact ai0 av h aY fO
section
variable {X:a3}
noncomputable def SB:V->List V->au->cJ->Prop:=fun x vs H Q=>∃ l xs i y,x=.ref l/\vs=[.int i,y]/\H l=some (.lst xs)/\0 <= i/\i < 2 ^ 62/\i <= (xs.length:Int)/\xs.length < sizeLine/\Q .bO (upd H l (.lst (xs.take i.toNat ++ y :: xs.drop i.toNat)))
theorem Cn:yH X "list.insert" SB:=by
 intro aa s σ H x vs v us Q J bb cG h;obtain ⟨l,xs,i,y,rfl,rfl,jB,h0,af,aj,aJ,q⟩:=h;cases bb;cases cG with
 | cons jH uP=>
  cases uP with
  | @cons _ w _ _ h9 rc=>
   cases rc;obtain ⟨t,rfl⟩:=jH;obtain ⟨z,a9,n,r,aA,e⟩:=J.vx jB;refine call_meets zw ⟨_,e,rfl⟩ F.entry_list_insert (F.args_list_insert_3 _ _ _) (AutoListH.list_insert_list_int_val_1 l a9.toArray n i t w (by rw [fitsIndex_both (k:=i) (by omega) (by omega)];decide) (by rw [el];omega)) ⟨e,?_⟩;refine ⟨.bO,_,J.y4 (its':=a9.take i.toNat ++ w :: a9.drop i.toNat) jB e ?_ ((r.take i.toNat).append (.cons h9 (r.drop i.toNat))) ?_,rfl,q⟩
   .have aC:(if i < 0 then (i + ((a9.toArray.size:Nat):Int)).toNat else min i.toNat a9.toArray.size)=i.toNat:=by
     rw [if_neg (by omega),el];omega
    show (a9.toArray.extract 0 (if i < 0 then (i + ((a9.toArray.size:Nat):Int)).toNat else min i.toNat a9.toArray.size)).push w ++ a9.toArray.extract (if i < 0 then (i + ((a9.toArray.size:Nat):Int)).toNat else min i.toNat a9.toArray.size)=_;rw [aC];apply RQ.mp;simp;exact Jy (by rw [sl];exact bW _)
   .rw [ec,hi,hE,sl];omega
theorem SW {P:Nat->Value->Prop} {f:Nat->V} (ct:∀ i v,P i v->bD (f i) v):∀ (l:List Value) (k:Nat),(∀ j v,l[j]? = some v->P (k + j) v)->bU ((fF l.length).map fun i=>f (k + i)) l
 | [],_,_=>.nil
 | v :: r,k,h=>by
  rw [hi,List.range_succ_eq_map,eN,k_];refine .cons (ct _ _ (h 0 v rfl)) ?_;have:=SW ct r (k + 1) fun j w aM=>by
   have:=h (j + 1) w (by simpa using aM);rwa [show k + 1 + j=k + (j + 1) by omega]
  have e:(fun i=>f (k + 1 + i))=((fun i=>f (k + i)) ∘ Nat.succ):=funext fun i=>by
   show f (k + 1 + i)=f (k + (i + 1));rw [show k + 1 + i=k + (i + 1) by omega]
  rwa [e] at this
theorem ZY {P:Nat->Value->Prop} {f:Nat->V} (ct:∀ i v,P i v->bD (f i) v) {acc:Array Value} {n:Nat} (h:ItemsOf P acc n):bU ((fF n).map f) acc.toList:=by
 have:=SW ct acc.toList 0 fun j v aM=>by
  rw [agE];exact h.2 j v (by rw [<- Vl];exact aM)
 rw [show acc.toList.length=n by rw [nt];exact h.1] at this;simpa using this
end
inductive e0 (K:a_) (H:au):Nat->V->V->Bool->Prop
 | flat {k:Nat} {x y:V} (ag:iT x=true) (bh:iT y=true):e0 K H k x y (iW x y)
 | lst {k:Nat} {p q:Addr} {xs ys:List V} {e:Nat->Bool} (ar:aB K H p xs) (aI:aB K H q ys) (aA:xs.length=ys.length) (he:∀ (j:Nat) (x y:V),xs[j]? = some x->ys[j]? = some y->e0 K H k x y (e j)):e0 K H (k + 1) (.ref p) (.ref q) ((fF xs.length).all e)
 | tq {k:Nat} {p q:Addr} {xs ys:List V} (ar:aB K H p xs) (aI:aB K H q ys) (aA:xs.length ≠ ys.length):e0 K H (k + 1) (.ref p) (.ref q) false
 | tup {k:Nat} {p q:Addr} {xs ys:List V} {e:Nat->Bool} (ar:c0 K H p xs) (aI:c0 K H q ys) (he:∀ (j:Nat) (x y:V),xs[j]? = some x->ys[j]? = some y->e0 K H k x y (e j)):e0 K H (k + 1) (.ref p) (.ref q) ((fF (min xs.length ys.length)).all e && xs.length == ys.length)
theorem D' {x:V} (h:iT x=true):iW x x=true:=by
 cases x <;> first | rfl | (simp [iW];done) | cases h
theorem Qu {e:Nat->Bool} (h:∀ j,j < n->e j=true):(fF n).all e=true:=by
 rw [nX];exact fun j aM=>h j (n_.mp aM)
section
variable {X:a3} {aa:List (Addr × Obj)} {σ:St} {H:au} {s:Shared}
theorem e0.self (J:Inv X aa σ H s) {k:Nat} {x y:V} (h:e0 X.K H k x y b) (e:x=y):b=true:=by
 induction h with
 | flat ag bh=>subst e;exact D' ag
 | @lst k p q xs ys f ar aI aA he b'=>
  injection e with e;subst e;have:=J.wg ar aI;subst this;refine Qu fun j aM=>?_
  exact b' j xs[j] xs[j] (bc aM) (bc aM) rfl
 | tq ar aI aA=>
  injection e with e;subst e;have:=J.wg ar aI;subst this;exact absurd rfl aA
 | @tup k p q xs ys f ar aI he b'=>
  injection e with e;subst e;have:=J.MV ar aI;subst this;rw [iE];refine ⟨Qu fun j aM=>?_,by simp⟩;have fN:j < xs.length:=by omega
  exact b' j xs[j] xs[j] (bc fN) (bc fN) rfl
theorem AO (A:Around):A.in1.units=A.units + 1:=rfl
theorem NI (J:Inv X aa σ H s) {k:Nat} {x y:V} (h:e0 X.K H k x y b):∀ (A:Around) (v u:Value),A.units + k < cLine->bD x v->bD y u ->
  I2 A s v u b/\(∀ p q,x=.ref p->y=.ref q->IK A s v u b):=by
 induction h with
 | flat ag bh=>
  intro A v u br bb bg;refine ⟨KO bb bg ag bh,fun p q e _=>?_⟩;subst e;cases ag
 | @lst k p q xs ys f ar aI aA he b'=>
  intro A v u br bb bg;cases bb;cases bg;obtain ⟨a9,r,pl,aJ⟩:=J.list ar;obtain ⟨l9,cV,nh,gk⟩:=J.list aI;have cw:=r.length;have cN:=cV.length;have rc:IK A s (.ref p) (.ref q) ((fF xs.length).all f):=by
   have:=SeqAt.RcAt.lists (A:=A) (e:=f) pl.isList nh.isList (by simp only [el];omega) (by omega) fun j af aj=>by
    simp only [el] at af aj;have aM:j < xs.length:=by omega
    have fN:j < ys.length:=by omega
    obtain ⟨a,aO,jH⟩:=r.get (bc aM);obtain ⟨c,av,rc⟩:=cV.get (bc fN);have ei:a9.toArray[j]=a:=by
     have:=bc af;rw [aO] at this;simpa using (dU this).symm
    have kg:l9.toArray[j]=c:=by
     have:=bc aj;rw [av] at this;simpa using (dU this).symm
    rw [ei,kg];exact (b' j _ _ (bc aM) (bc fN) A.in1 a c (by rw [AO];omega) jH rc).1
   rwa [el,<- cw] at this
  refine ⟨?_,fun _ _ _ _=>rc⟩;by_cases bX:p=q
  .have ab:=(e0.lst ar aI aA he).self J (congrArg V.ref bX);rw [ab,bX];exact VH _
  .exact R_ bX rc
 | @tq k p q xs ys ar aI aA=>
  intro A v u br bb bg;cases bb;cases bg;obtain ⟨a9,r,pl,aJ⟩:=J.list ar;obtain ⟨l9,cV,nh,gk⟩:=J.list aI;have cw:=r.length;have cN:=cV.length;have rc:IK A s (.ref p) (.ref q) false:=SeqAt.RcAt.lists_lengths pl.isList nh.isList (by simp only [el,bne_iff_ne,ne_eq];omega) (by omega);refine ⟨R_ (fun e=>aA ?_) rc,fun _ _ _ _=>rc⟩;subst e;rw [J.wg ar aI]
 | @tup k p q xs ys f ar aI he b'=>
  intro A v u br bb bg;cases bb;cases bg;obtain ⟨a9,r,pl,aJ⟩:=J.tuple ar;obtain ⟨l9,cV,nh,gk⟩:=J.tuple aI;have cw:=r.length;have cN:=cV.length;have rc:IK A s (.ref p) (.ref q) ((fF (min xs.length ys.length)).all f && xs.length == ys.length):=by
   have:=SeqAt.RcAt.tuples (A:=A) (e:=f) pl nh (by omega) fun j af aj=>by
    simp only [el] at af aj;have aM:j < xs.length:=by omega
    have fN:j < ys.length:=by omega
    obtain ⟨a,aO,jH⟩:=r.get (bc aM);obtain ⟨c,av,rc⟩:=cV.get (bc fN);have ei:a9.toArray[j]=a:=by
     have:=bc af;rw [aO] at this;simpa using (dU this).symm
    have kg:l9.toArray[j]=c:=by
     have:=bc aj;rw [av] at this;simpa using (dU this).symm
    rw [ei,kg];exact (b' j _ _ (bc aM) (bc fN) A.in1 a c (by rw [AO];omega) jH rc).1
   rwa [el,el,<- cw,<- cN] at this
  refine ⟨?_,fun _ _ _ _=>rc⟩;by_cases bX:p=q
  .have ab:=(e0.tup ar aI he).self J (congrArg V.ref bX);rw [ab,bX];exact VH _
  .exact R_ bX rc
theorem Nz (J:Inv X aa σ H s) {k:Nat} {A:Around} {xs ys:List V} {a9 l9:List Value} {f:Nat->Bool} (br:A.units + k < cLine) (r:bU xs a9) (cV:bU ys l9)
  (he:∀ (j:Nat) (x y:V),xs[j]? = some x->ys[j]? = some y->e0 X.K H k x y (f j)):∀ j (af:j < a9.toArray.size) (aj:j < l9.toArray.size),I2 A s a9.toArray[j] l9.toArray[j] (f j):=fun j af aj=>by
 simp only [el] at af aj;have cw:=r.length;have cN:=cV.length;have aM:j < xs.length:=by omega
 have fN:j < ys.length:=by omega
 obtain ⟨a,aO,jH⟩:=r.get (bc aM);obtain ⟨c,av,rc⟩:=cV.get (bc fN);have ei:a9.toArray[j]=a:=by
  have:=bc af;rw [aO] at this;simpa using (dU this).symm
 have kg:l9.toArray[j]=c:=by
  have:=bc aj;rw [av] at this;simpa using (dU this).symm
 rw [ei,kg];exact (NI J (he j _ _ (bc aM) (bc fN)) A a c br jH rc).1
theorem amG (J:Inv X aa σ H s) {k:Nat} {p q:Addr} (h:e0 X.K H k (.ref p) (.ref q) b) (A:Around) (br:A.units + k < cLine):SeqAt.RcNeAt A s (.ref p) (.ref q) (!b):=by
 cases h with
 | flat ag bh=>cases ag
 | @lst k _ _ xs ys f ar aI aA he=>
  obtain ⟨a9,r,pl,aJ⟩:=J.list ar;obtain ⟨l9,cV,nh,gk⟩:=J.list aI;have cw:=r.length;have cN:=cV.length;have:=anC (A:=A) (e:=f) pl.isList nh.isList (by simp only [el];omega) (by omega) (Nz J (A:=A.in1) (k:=k) (by rw [AO];omega) r cV he);rwa [el,<- cw] at this
 | @tq k _ _ xs ys ar aI aA=>
  obtain ⟨a9,r,pl,aJ⟩:=J.list ar;obtain ⟨l9,cV,nh,gk⟩:=J.list aI;have cw:=r.length;have cN:=cV.length;exact aof pl.isList nh.isList (by simp only [el,bne_iff_ne,ne_eq];omega) (by omega)
 | @tup k _ _ xs ys f ar aI he=>
  obtain ⟨a9,r,pl,aJ⟩:=J.tuple ar;obtain ⟨l9,cV,nh,gk⟩:=J.tuple aI;have cw:=r.length;have cN:=cV.length;have:=amP (A:=A) (e:=f) pl nh (by omega) (Nz J (A:=A.in1) (k:=k) (by rw [AO];omega) r cV he);rwa [el,el,<- cw,<- cN] at this
end
section
variable {X:a3}
noncomputable def Ef (K:a_):eQ:=fun x y H Q=>∃ p q b,x=.ref p/\y=.ref q/\e0 K H 8 (.ref p) (.ref q) b/\Q (.bo (!b)) H
theorem HI (rS:X.A.units + 64 < cLine):hs X (compareOp .NotEq) (Ef X.K):=by
 intro aa s σ H x y v u Q J bb bg h;obtain ⟨p,q,b,rfl,rfl,pY,cW⟩:=h;cases bb;cases bg;exact amG J pY X.A (by omega) _ _ _ _ ⟨.bo (!b),H,J,rfl,cW⟩
noncomputable def JA (K:a_):eQ:=fun x y H Q=>∃ p q b,x=.ref p/\y=.ref q/\e0 K H 8 (.ref p) (.ref q) b/\Q (.bo b) H
theorem ahI (rS:X.A.units + 64 < cLine):hs X (compareOp .Eq) (JA X.K):=by
 intro aa s σ H x y v u Q J bb bg h;obtain ⟨p,q,b,rfl,rfl,pY,cW⟩:=h;exact (NI J pY X.A v u (by omega) bb bg).2 p q rfl rfl _ _ _ _ ⟨.bo b,H,J,rfl,cW⟩
end
theorem e0.mono {K:a_} {j k:Nat} {x y:V} (h:e0 K H j x y b):j <= k->e0 K H k x y b:=by
 induction h generalizing k with
 | flat ag bh=>exact fun _=>.flat ag bh
 | lst ar aI aA he b'=>
  intro aC;obtain ⟨m,rfl⟩:∃ m,k=m + 1:=⟨k - 1,by omega⟩;exact .lst ar aI aA fun j x y af aj=>b' j x y af aj (by omega)
 | tq ar aI aA=>
  intro aC;obtain ⟨m,rfl⟩:∃ m,k=m + 1:=⟨k - 1,by omega⟩;exact .tq ar aI aA
 | tup ar aI he b'=>
  intro aC;obtain ⟨m,rfl⟩:∃ m,k=m + 1:=⟨k - 1,by omega⟩;exact .tup ar aI fun j x y af aj=>b' j x y af aj (by omega)
noncomputable def FP:V->V->Bool
 | .int _,.int _=>true
 | .str _,.str _=>true
 | .bo _,.bo _=>true
 | .bO,.bO=>true
 | _,_=>false
theorem Jo {x y:V} (h:FP x y=true):iT x=true/\iT y=true/\iW x y=decide (x=y):=by
 cases x <;> cases y <;> first | (exfalso;simp [FP] at h;done) | (refine ⟨rfl,rfl,?_⟩;rfl) | (refine ⟨rfl,rfl,?_⟩;rw [j'];simp [iW];done)
theorem e0.Mo {K:a_} {k:Nat} {p q:Addr} (ar:aB K H p xs) (aI:aB K H q ys) (h:∀ x ∈ xs,∀ y ∈ ys,FP x y=true):e0 K H (k + 1) (.ref p) (.ref q) (decide (xs=ys)):=by
 by_cases aA:xs.length=ys.length
 .have hd:decide (xs=ys)=(fF xs.length).all fun j=>iW (xs.getD j .bO) (ys.getD j .bO):=by
   rw [j',decide_eq_true_eq,nX];constructor
   .rintro rfl j aM;have fN:=n_.mp aM;have hm:xs.getD j .bO ∈ xs:=by rw [iF,bc fN];exact jq fN
    rw [(Jo (h _ hm _ hm)).2.2,decide_eq_true rfl]
   .intro z;refine afX aA fun j af aj=>?_
    have:=z j (n_.mpr af);rw [iF,iF,bc af,bc aj] at this;have w:iW xs[j] ys[j]=true:=this;rw [(Jo (h _ (jq af) _ (jq aj))).2.2,decide_eq_true_eq] at w;exact w
  rw [hd];refine .lst ar aI aA fun j x y af aj=>?_
  have e:=Jo (h x (cH af) y (cH aj));rw [iF,iF,af,aj];exact .flat e.1 e.2.1
 .rw [decide_eq_false (fun z=>aA (by rw [z]))];exact .tq ar aI aA
end L2
namespace L2
open PySem PySem.Spec PyProof.Rows PySem.Builtin PySem.Builtin.ObjectAttr
theorem RB (h:H a=some o):upd H a o=H:=by
 funext b;unfold upd;by_cases e:b=a
 .rw [if_pos e,e,h]
 .rw [if_neg e]
noncomputable abbrev hZ:List Value:=[.type "ValueError",.type "Exception",.type "BaseException",.type "object"]
noncomputable def uu (K:a_) (C fI:Addr):Bool:=
 match K.lookup C with
 | some ⟨.type "type",_,.cls cd,bt⟩=>
  match cd.mro,bt.toList with
  | .ref D :: cZ,[_,_,_,_,some (.builtin n),_]=>
   (D == C) && (n == "ValueError.__new__") && (cd.hasDel == false) && (cd.hasDict == true) && PySem.W.tailIn K hZ cZ && PySem.W.nsOkIn K cd.ns && (Wv K cd.ns "__init__" == some (some (.ref fI)))
  | _,_=>false
 | _=>false
theorem XT {K:a_} {h:Heap} {N:Addr} {x:Str} (e1:K.In h) (G:h.Ns N rr) (e:Wv K N x=some (some v)):rr x=some v:=by
 obtain ⟨bV,rows,ep,aq,aD,_,look⟩:=G;unfold Wv at e;split at e
 .rename_i aQ;have z:=e1 _ _ aQ;rw [aq] at z;cases z;cases aD;split at e
  .rename_i r0 he;cases e;rw [<- look];unfold nsFind findBy;rw [<- aeJ,he];rfl
  .split at e <;> cases e
 .cases e
theorem Mj {K:a_} {h:Heap} (e1:K.In h) (e:uu K C fI=true) :
  ∃ cZ N nm q bs sn sub nR co b7 jr bG cT dY ot rr,h.get? C=some (excClassObj nm q C N bs cZ true sn sub nR co b7 jr bG cT dY ot "ValueError.__new__")/\h.Ns N rr/\rr "__init__"=some (.ref fI)/\OwnTail h hZ cZ:=by
 unfold uu at e;split at e
 .rename_i b7 cd bt aQ;split at e
  .rename_i D cZ jr bG cT dY n ot hm ay;simp only [iE,beq_iff_eq] at e;obtain ⟨⟨⟨⟨⟨⟨aq,aD⟩,bL⟩,ek⟩,fG⟩,es⟩,gw⟩:=e;obtain ⟨nm,bs,mro,ns,yy,hd,sn,sub,nR,co,del⟩:=cd;simp only at hm bL ek es gw;subst hm aq aD bL ek;obtain ⟨l⟩:=bt;simp only at ay;subst ay;have G:h.Ns ns (h.nsMap ns):=.of_isNs (PySem.W.isNs_of_in e1 es);exact ⟨cZ,ns,nm,yy,bs,sn,sub,nR,co,b7,jr,bG,cT,dY,ot,h.nsMap ns,e1 _ _ aQ,G,XT e1 G gw,PySem.W.tail_of_in e1 fG⟩
  .cases e
 .cases e
section
variable {P:Program} {w:World} {A:Around} {h:Heap} {g:Array GenState} {d:Drawn} {t:Nat} {os:OsState} {K:a_} {C fI:Addr} {R:Result->Shared->Prop}
theorem af_ (e1:K.In h) (e:uu K C fI=true) (hf:Vv K (.ref fI)=some (.type "function")) (aJ:us.length <= sizeLine)
  (aI:∀ h' x,h.objs.size <= x->adE h h' x (.ref C) us->codeAny (model P w) (A.under (.builtin "type.__call__" ⟨.ref C :: us,[]⟩)) (.call (.ref fI) ⟨.ref x :: us,[]⟩) (alP x R) ⟨h',g,d,t,os⟩) :
  codeAny (model P w) A (.call (.ref C) ⟨us,[]⟩) R ⟨h,g,d,t,os⟩:=by
 obtain ⟨cZ,N,nm,q,bs,sn,sub,nR,co,b7,jr,bG,cT,dY,ot,rr,cj,bf,ah,T⟩:=Mj e1 e;have F:=Xc;have f1:=tc_lookup;have f2:=tc_bind (.ref C);have ty:(⟨h,g,d,t,os⟩:Shared).TypeIs (.ref C) "type" := ⟨_,cj,rfl⟩;refine codeAny_of_tree ?_;show wpAny _ _ (callAny (.ref C) _) _ _ _
 repeat (any_goals (first | assumption | with_reducible refine wpAny_loadPart_at cj ?_ | wp_step))
 refine ⟨rfl,?_⟩;refine codeAny_call_builtin_at (XJ _ (by ac_nf)) entry_typeCall (wpAny_check_type_call_sub cj ?_)
 repeat (first | with_reducible refine wpAny_loadPart_at cj ?_ | with_reducible refine wpAny_madeBy_exc cj ?_ | wp_step)
 refine codeAny_call_builtin_code (XJ _ F.quiet) (wpAny_check_new_subT F T cj ?_);refine codeAny_exc_new_subT (rest:=us) F T cj ?_ aJ;show wpAny _ _ _ _ _ _;generalize de:(h.push { cls:=.type "tuple",data:=.seq us.toArray }).push { cls:=.ref C,data:=.fields #[.ref h.objs.size,.none,.none,.none,.bool false,.none] }=aj;have k:∀ b o,h.get? b=some o->aj.get? b=some o:=fun b o z=>by rw [<- de];exact dE _ (dE _ z)
 have ag:aj.get? (h.objs.size + 1)=some { cls:=.ref C,data:=.fields #[.ref h.objs.size,.none,.none,.none,.bool false,.none] }:=by rw [<- de];heap_get
 have cK:aj.get? h.objs.size=some { cls:=.type "tuple",data:=.seq us.toArray }:=by rw [<- de];exact dE _ (Heap.get?_push_at rfl rfl)
 have M:adE h aj (h.objs.size + 1) (.ref C) us:=⟨k,Pq (v_ _),h.objs.size,ag,Pq (bW _),cK⟩;have Xp:(dz C :: cZ).contains (.ref C)=true:=by simp
 unfold isInstance
 repeat (first | with_reducible refine wpAny_loadPart_at ag ?_ | wp_step)
 refine wpAny_isSubtype_exc (k _ _ cj) ?_;rw [Xp]
 repeat wp_step
 show wpAny _ _ (typeLookup (.ref C) _) _ _ _;refine wpAny_typeLookup_tail (k _ _ cj) (bf.keeps k) (T.keeps k) F.mroIs F.init.lookup ?_;rw [ah];refine wpAny_holding (wpAny_bind ((aa6 (e1.keeps k) _ hf).here (wpAny_bind (wpAny_call ?_))));refine codeAny_mono (aI aj _ (v_ _) M) fun r s' z=>?_
 rcases r with e | (v | _ | _ | _) <;> first | exact z | exact z.elim | skip
 obtain ⟨rfl,z⟩:=z;exact wpAny_pure (wpAny_pure z)
end
noncomputable def wB:List Value->Bool
 | .ref _ :: r=>wB r
 | l=>l == hZ
theorem qR (self:Value):refuseLoop self "__setattr__" hZ=pure ():=by kernel_rfl
theorem VD (self:Value):∀ {l:List Value},wB l=true->refuseLoop self "__setattr__" l=pure ()
 | .ref c :: r,e=>by rw [refuseLoop_ref];exact VD self (l:=r) e
 | [],e=>by cases e
 | .type n :: r,e=>by rw [show GX n :: r=hZ from beq_iff_eq.mp e];exact qR self
 | .none :: r,e=>by rw [show ic :: r=hZ from beq_iff_eq.mp e];exact qR self
 | .bool b :: r,e=>by rw [show jz b :: r=hZ from beq_iff_eq.mp e];exact qR self
 | .int b c :: r,e=>by rw [show mN b c :: r=hZ from beq_iff_eq.mp e];exact qR self
 | .str b c :: r,e=>by rw [show qe b c :: r=hZ from beq_iff_eq.mp e];exact qR self
 | .bytes b c :: r,e=>by rw [show JW b c :: r=hZ from beq_iff_eq.mp e];exact qR self
 | .float b c :: r,e=>by rw [show Gn b c :: r=hZ from beq_iff_eq.mp e];exact qR self
 | .builtin b :: r,e=>by rw [show uj b :: r=hZ from beq_iff_eq.mp e];exact qR self
theorem H0 (T:String) (h:hZ.contains (.type T)=true):∀ {l:List Value},wB l=true->l.contains (.type T)=true
 | .ref c :: r,e=>by rw [zi,H0 T h (l:=r) e,CT]
 | [],e=>by cases e
 | .type n :: r,e=>by rw [show GX n :: r=hZ from beq_iff_eq.mp e];exact h
 | .none :: r,e=>by rw [show ic :: r=hZ from beq_iff_eq.mp e];exact h
 | .bool b :: r,e=>by rw [show jz b :: r=hZ from beq_iff_eq.mp e];exact h
 | .int b c :: r,e=>by rw [show mN b c :: r=hZ from beq_iff_eq.mp e];exact h
 | .str b c :: r,e=>by rw [show qe b c :: r=hZ from beq_iff_eq.mp e];exact h
 | .bytes b c :: r,e=>by rw [show JW b c :: r=hZ from beq_iff_eq.mp e];exact h
 | .float b c :: r,e=>by rw [show Gn b c :: r=hZ from beq_iff_eq.mp e];exact h
 | .builtin b :: r,e=>by rw [show uj b :: r=hZ from beq_iff_eq.mp e];exact h
structure l0 (K:a_) (C:Addr):Prop where
 hd:Aq K C=true
 d0:((abt K C).any fun cd=>wB cd.mro)=true
 aU:dm K (.ref C) "__setattr__"=some (some (.builtin "object.__setattr__"))
 ga:dm K (.ref C) "__getattribute__"=some (some (.builtin "BaseException.__getattribute__"))
 gt:dm K (.ref C) "__getattr__"=some none
 ex:∃ fI,uu K C fI=true
noncomputable def fH (x C:Addr) (bk:Option Addr):Heap->Prop:=fun h=>∃ vs bt,h.get? x=some ⟨.ref C,bk,.fields vs,bt⟩/\1 < vs.size/\vs[1]? = some .none
noncomputable def ka (ao:Addr) (aK:List (Str × V)):Heap->Prop:=fun h=>∃ dR,h.Ns1 ao dR/\(∀ f,hr (aK.lookup f) (dR f))/\Cw dR (aK.map (·.1))
theorem fH.at {x C:Addr} {h h':Heap} (z:fH x C bk h) (k:∀ o,h.get? x=some o->h'.get? x=some o):fH x C bk h':=let ⟨vs,bt,e,r⟩:=z;⟨vs,bt,k _ e,r⟩
theorem ka.at {aK:List (Str × V)} {h h':Heap} (z:ka ao aK h) (k:∀ o,h.get? ao=some o->h'.get? ao=some o):ka ao aK h':=let ⟨dR,e,r⟩:=z;⟨dR,e.at k,r⟩
theorem fH.ok {w:World} {h:Heap} {x C:Addr} (z:fH x C bk h):dy P w H h x (.ext (fH x C bk)):=by
 obtain ⟨vs,bt,e,r⟩:=id z;exact ⟨z,⟨_,e⟩,fun af aj q k=>q.at k⟩
theorem ka.ok {w:World} {h:Heap} {aK:List (Str × V)} (z:ka ao aK h):dy P w H h ao (.ext (ka ao aK)):=by
 obtain ⟨dR,⟨o,aV,ep,e,_⟩,_⟩:=id z;exact ⟨z,⟨_,e⟩,fun af aj q k=>q.at k⟩
section
variable {prog:Program} {w:World} {A:Around} {E:Value->Shared->Prop} {K:a_} {C x:Addr} {s:Shared} {R:Result->Shared->Prop}
theorem Yv {name:Str} (e1:K.In s.heap) (bE:Ig s.heap x O9 C bk) (c:l0 K C) (cK:ac K C name)
  (h:wpAny (model prog w) A.in1 (storeInOwnDict (.ref x) (.ref C) (.str name tk) name v false)
   (fun fin s'=>match fin with | .done f=>R (.ok f) s' | .again c'=>c'.quiet=true/\codeAny (model prog w) A c' R s') (fun e s'=>R (.error e) s') s) :
  codeAny (model prog w) A (.call (.builtin "object.__setattr__") ⟨[.ref x,.str name tk,v],[]⟩) R s:=by
 have G:=PySem.F.store_object;obtain ⟨cd,av,aQ⟩:=Bg c.d0;have ne:cd.mro.isEmpty=false:=by
  cases q:cd.mro with
  | nil=>rw [q] at aQ;cases aQ
  | cons _ _=>rfl
 have sub:Kk (model prog w) s.heap (isInstance (.ref x) (.type "object")) true:=
  bE.type.andThen (ahM e1 (by unfold w8;rw [av,rA,if_neg (by rw [ne];decide),H0 "object" (by decide) aQ]))
 refine codeAny_call_builtin G.slot.plain G.entry (@PySem.W.check_slot (model prog w) _ _ s "object.__setattr__" "object" "__setattr__" (.ref x) [.str name tk,v] [] _ G.kind G.split sub (G.args (.ref x) (.str name tk) v) ?_);have hm:Kk (model prog w) s.heap (mroOf (.ref C)) cd.mro:=(SK e1 av).andThen .now;rw [PySem.W.osa_eq,refuse_eq];refine wpAny_bind (wpAny_bind (bE.type.here (wpAny_bind (hm.here ?_))));rw [VD _ aQ];exact wpAny_pure (wpAny_bind (bE.type.here (wpAny_bind ((Dj e1 cK).here (wpAny_bind (wpAny_pure h))))))
end
section
variable {X:a3} {aa:List (Addr × Obj)} {σ:St} {H:au} {s:Shared} {x C ao:Addr} {aK:List (Str × V)} {f:Str} {y:V} {u:Value} {A:Around} {E:Value->Shared->Prop} {Q:Unit->Shared->Prop}
theorem ahx (J:Inv X aa σ H s) (e:H x=some (.ext (fH x C none))) (c:l0 X.K C) (n:ac X.K C f) (bg:bD y u)
  (h:∀ ao s',H ao=none->ao ≠ x->Inv X aa σ (upd (upd H x (.ext (fH x C (some ao)))) ao (.ext (ka ao [(f,y)]))) s'->Q () s'):wpAny (model X.prog X.w) A (setAttr (.ref x) f u) Q E s:=by
 obtain ⟨vs,bt,ag,ez,d9⟩:=(show dy X.prog X.w H s.heap x (.ext (fH x C none)) from J.a4 _ _ e).1;have bE:Ig s.heap x ⟨.ref C,none,.fields vs,bt⟩ C none:=⟨ag,rfl,rfl,iu⟩;refine aaQ J.fz bE c.aU (Yv (s:={ s with toks:=s.toks + 1 }) J.fz bE c n ?_);obtain ⟨cd,av,rT⟩:=Bg c.hd;refine wpAny_bind (wpAny_pure (wpAny_bind (wpAny_bind (wpAny_loadPart ag (wpAny_bind (aef (s:={ s with toks:=s.toks + 1 }) (SK J.fz av) ?_))))));rw [rT];show wpAny _ _ (alloc j1 >>= fun d=>(update x fun o=>{ o with dict:=some d }) >>= fun _=>dictMade (.ref C) x d) _ _ _;refine wpAny_bind (wpAny_alloc (wpAny_bind ?_));have m6:(s.heap.push j1).get? x=some ⟨.ref C,none,.fields vs,bt⟩:=dE _ ag;have aer:x < s.heap.objs.size:=dJ ag;refine wpAny_update m6 (wpAny_pure ?_);have aq:(s.heap.push j1).get? s.heap.objs.size=some j1:=hc s.heap rfl;have bL:(s.heap.push j1).Ns s.heap.objs.size (fun _=>none):=⟨j1,#[],_,aq,rfl,(fun e he=>absurd he (by simp)),fun _=>rfl⟩;generalize yK:(s.heap.push j1).update x (fun o=>{ o with dict:=some s.heap.objs.size })=aj;have b2:s.heap.objs.size ≠ x:=te aer;have cT:∀ b,b ≠ x->aj.get? b=(s.heap.push j1).get? b:=fun b ab=>by rw [<- yK];exact k4 _ _ (dg ab)
 have fb:aj.get? x=some ⟨.ref C,some s.heap.objs.size,.fields vs,bt⟩:=by rw [<- yK];exact rL _ m6 rfl
 have cI:aj.Ns1 s.heap.objs.size (fun _=>none):=(afm bL).at fun o q=>(cT _ b2).trans q
 refine wpAny_bind (wpAny_pure (wpAny_bind ?_));refine wpAny_nsSet1 (s:={ s with heap:=aj,toks:=s.toks + 1 }) cI fun a' dA s3=>?_
 have gC:Cw (fun a=>if a=f then some u else none) [f]:=ahZ f u (fun a aO=>absurd rfl aO);obtain ⟨ad1,Yh,acO,Gr,D6,K5⟩:=dA.count gC;refine wpAny_bind (wpAny_lookBehind Gr (by rw [D6];exact pastItsLine_dict (cP K5 (by rw [sizeLine_eq];show 1 <= _;decide))) ?_);refine wpAny_pure (h s.heap.objs.size _ (J.a4.fresh (bW _)) b2 ?_);have dY:∀ b o,b ≠ x->s.heap.get? b=some o->a'.get? b=some o:=fun b o ab q=>
  (s3.2 b (fun z=>by rw [z] at q;exact absurd (dJ q) (kA _))).trans ((cT b ab).trans (dE _ q))
 have gq:a'.get? x=some ⟨.ref C,some s.heap.objs.size,.fields vs,bt⟩:=(s3.2 x (dg b2)).trans fb;generalize Gf:s.heap.update x (fun o=>{ o with dict:=some s.heap.objs.size })=hN;have MT:∀ b,b ≠ x->hN.get? b=s.heap.get? b:=fun b ab=>by rw [<- Gf];exact k4 _ _ (dg ab)
 have F1:hN.get? x=some ⟨.ref C,some s.heap.objs.size,.fields vs,bt⟩:=by rw [<- Gf];exact rL _ ag rfl
 have alS:hN.objs.size=s.heap.objs.size:=by rw [<- Gf];exact YJ _ _ _
 have JU:=J.write (x:=x) (e:=x) (o:=.ext (fH x C (some s.heap.objs.size))) (h':=hN) (t':=s.toks) (by rw [e];exact iu) (.inl rfl) (fun b o ab q=>(MT b ab).trans q) ⟨_,F1⟩ (fH.ok ⟨vs,bt,F1,ez,d9⟩);refine JU.laid (a:=s.heap.objs.size) (h':=a') (fun b o q=>?_) (AV alS) (ka.ok ⟨_,dA,fun g=>?_,gC⟩)
 .by_cases ab:b=x
  .subst ab;rw [F1] at q;rw [gq,<- q]
  .rw [MT b ab] at q;exact dY b o ab q
 .show hr (nQ g [(f,y)]) (if g=f then some u else none);by_cases aI:g=f
  .rw [if_pos aI,aI,List.lookup_cons_self];exact bg
  .rw [if_neg aI,j5,beq_false_of_ne aI];exact iu
noncomputable def gI (x C:Addr) (bk:Option Addr):Heap->Prop:=fun h=>∃ vs bt,h.get? x=some ⟨.ref C,bk,.fields vs,bt⟩
theorem gI.at {x C:Addr} {h h':Heap} (z:gI x C bk h) (k:∀ o,h.get? x=some o->h'.get? x=some o):gI x C bk h':=let ⟨vs,bt,e⟩:=z;⟨vs,bt,k _ e⟩
theorem gI.ok {w:World} {h:Heap} {x C:Addr} (z:gI x C bk h):dy P w H h x (.ext (gI x C bk)):=by
 obtain ⟨vs,bt,e⟩:=id z;exact ⟨z,⟨_,e⟩,fun af aj q k=>q.at k⟩
theorem ak8 {b:Bool} {Q:Value->Shared->Prop} (J:Inv X aa σ H s) (e:H x=some (.ext (gI x C (some ao)))) (ho:H ao=some (.ext (ka ao aK))) (c:l0 X.K C) (n:ac X.K C f) (l:aK.lookup f=some y)
  (h:∀ u s',Inv X aa σ H s'->bD y u->Q u s'):wpAny (model X.prog X.w) A (getAttr (.ref x) f b) Q E s:=by
 obtain ⟨vs,bt,ag⟩:=(show dy X.prog X.w H s.heap x (.ext (gI x C (some ao))) from J.a4 _ _ e).1;obtain ⟨dR,b9,r,gC⟩:=(show dy X.prog X.w H s.heap ao (.ext (ka ao aK)) from J.a4 _ _ ho).1;obtain ⟨bk,aQ,t5⟩:=TU b9;obtain ⟨u,br,eo⟩:=hr.some_of (v:=y) (o:=dR f) (by rw [<- l];exact r f);have bE:Ig s.heap x ⟨.ref C,some ao,.fields vs,bt⟩ C (some bk):=⟨ag,rfl,rfl,aQ⟩;have fin:=h u _ (J.tok (s.toks + 1)) eo;have e1:=J.fz;clear h;obtain ⟨cd,av,rT⟩:=Bg c.hd;obtain ⟨ao_,rh,FZ⟩:=Bg c.d0;rw [av] at rh;cases rh;have de:=OC eo;obtain ⟨ar,g,d,t,os⟩:=s;have rg:=bE.type (M:=model X.prog X.w);have aiO:=Dj (M:=model X.prog X.w) e1 c.ga;have L2:=Dj (M:=model X.prog X.w) e1 c.gt;have amR:=Dj (M:=model X.prog X.w) e1 n;have sT:=PySem.W.looks_own (M:=model X.prog X.w) (name:=f) (r:=some u) e1 bE av (by unfold PySem.W.ownOf;rw [if_pos rT];show Dx f bk=_;rw [t5,br]);have FB:=PySem.F.excAttr_ValueError;have en:=FB.ga.bind (.ref x);have Su:(b && onTheHeap (uj "BaseException.__getattribute__"))=false:=by cases b <;> rfl
 have rE:(uj "BaseException.__getattribute__" == uj "object.__getattribute__")=false:=by ac_nf
 have m6:(onTheHeap (dz C) && uj "BaseException.__getattribute__" == uj "object.__getattribute__")=false:=by rw [rE];rfl
 unfold getAttr getAttrBy;refine wpAny_bind (wpAny_mkText (wpAny_holding (wpAny_bind (rg.at (wpAny_bind (aiO.at ?_))))));dsimp only;rw [if_neg (by rw [m6];decide)];unfold getAttrByItsOwn
 repeat (any_goals (first | assumption | with_reducible refine PySem.W.Looks.at (by assumption) ?_ | wp_step))
 have ne:cd.mro.isEmpty=false:=by
  cases q:cd.mro with
  | nil=>rw [q] at FZ;cases FZ
  | cons _ _=>rfl
 have sub:Kk (model X.prog X.w) ar (isInstance (.ref x) (.type "BaseException")) true:=
  rg.andThen (ahM e1 (by unfold w8;rw [av,rA,if_neg (by rw [ne];decide),H0 "BaseException" (by decide) FZ]))
 refine codeAny_call_builtin FB.ga.plain PySem.F.entry_bexc_ga (@PySem.W.check_slot (model X.prog X.w) _ _ ⟨ar,g,d,t + 1,os⟩ "BaseException.__getattribute__" "BaseException" "__getattribute__" (.ref x) [.str f t] [] _ (by ac_nf) (by ac_nf) sub (PySem.F.args_bexc_ga (.ref x) (.str f t)) ?_);unfold Builtin.«object.__getattribute__»
 repeat (any_goals (first | assumption | with_reducible refine PySem.W.Looks.at (by assumption) ?_ | wp_step))
 show wpAny _ _ (handedOut u) _ _ _;rw [PySem.W.handedOut_of de];exact wpAny_pure fin
end
noncomputable abbrev vb:=St->au->(au->Prop)->Prop
def uN (X:a3) (aV:List Expr) (n:Nat) (t:vb):Prop:=
 ∀ (aa:List (Addr × Obj)) (s:Shared) (σ:St) (H:au) (Q:au->Prop) (acc:Str) (R:Str->Shared->Prop),Inv X aa σ H s->acc.length + n <= sizeLine->t σ H Q ->
  (∀ out I s',Inv X aa σ I s'->out.length <= sizeLine->Q I->R out s')->Joins (model X.prog X.w) X.A X.du (evalEach aV X.env) acc R s
noncomputable def H6:vb:=fun _ H Q=>Q H
noncomputable def G6 (bJ:TE) (t:vb):vb:=fun σ H Q=>bJ σ H fun v H1=>∃ x,v=.str x/\x.length <= 1000/\(∀ c ∈ x.cps.toList,c < 16 ^ 8)/\t σ H1 Q
noncomputable def KN (t:vb):TE:=fun σ H Q=>t σ H fun H1=>∀ y:Str,Q (.str y) H1
section
variable {X:a3} {e:Expr} {aV:List Expr} {n:Nat} {t:vb} {bJ:TE} {pos:Pos}
theorem aeG:uN X [] 0 H6:=fun aa s σ H Q acc R J aA q h=>h acc H s J aA q
theorem ack {k:Nat} (h:uN X aV n t):uN X (.Constant (.str c) k pos :: aV) (n + c.length) t:=fun aa s σ H Q acc R J aA q gy=>by
 show wpAny _ _ _ _ _ _;refine akT ⟨c,_,rfl,by rw [strLen_append];omega,h aa _ σ H Q _ R (J.tok _) (by rw [strLen_append];omega) q gy⟩
theorem aa2 (he:bp X e bJ) (h:uN X aV n t):uN X (.FormattedValue e 114 none pos :: aV) (n + 11000) (G6 bJ t):=fun aa s σ H Q acc R J aA q gy=>by
 show wpAny _ _ _ _ _ _;refine wpAny_FormattedValue_repr (bA (he aa s σ H _ J q) fun u s1 cF=>?_);obtain ⟨v,H1,aN,r,x,ev,ag,av,bS⟩:=cF;subst ev;obtain ⟨tk,rfl⟩:=(show ∃ tk,u=qe x tk from r);have aJ:=anG x av;refine wpAny_pyReprObj_str ?_ (by rw [sizeLine_eq];omega);exact formatField_str (fun t' ts=>⟨_,_,rfl,by rw [strLen_append];omega,h aa _ σ H1 Q _ R ((aN.tok _).tok _) (by rw [strLen_append];omega) bS gy⟩) (by rw [sizeLine_eq];omega)
theorem agJ (h:uN X (e :: aD :: aV) n t) (aY:n <= sizeLine):bp X (.JoinedStr (e :: aD :: aV) pos) (KN t):=by
 intro aa s σ H Q J q;refine wpAny_JoinedStr (h aa s σ H _ _ _ J (by show 0 + n <= _;omega) q fun out I s' gT aA cW=>⟨aA,?_⟩);exact ⟨.str out,I,gT.tok _,⟨_,rfl⟩,cW out⟩
end
structure UD (K:a_) (L:Addr) (m:Str):Prop where
 kc:YT K L (.type "type")=true
 fd:agK K (.ref L) (.type "type") m=some (.val (.builtin "ValueError.__init__"))
 ga:sP K (.ref L) "__getattribute__"=some (some (.builtin "type.__getattribute__"))
noncomputable def Iq (K:a_) (t:e_):TE:=fun σ H Q=>t σ H fun vs H1=>∃ x C bk v,vs=[.ref x,v]/\H1 x=some (.ext (fH x C bk))/\l0 K C/\Q .bO H1
section
variable {X:a3} {L:Addr} {x:Str} {p pos eT:Pos} {e:Expr} {aV:List Expr} {t:e_}
theorem abi {A:Around} (J:Inv X aa σ H s) (ei:H a=some (.ext (fH a C bk))) (c:l0 X.K C)
  (h:∀ s',Inv X aa σ H s'->Q .none s'):wpAny (model X.prog X.w) A (call (.builtin "ValueError.__init__") [.ref a,u]) Q E s:=by
 obtain ⟨vs,bt,ag,ez,d9⟩:=(show dy X.prog X.w H s.heap a (.ext (fH a C bk)) from J.a4 _ _ ei).1;obtain ⟨fI,D9⟩:=c.ex;obtain ⟨cZ,N,nm,q,bs,sn,sub,nR,co,b7,jr,bG,cT,dY,ot,rr,cj,bf,ah,T⟩:=Mj J.fz D9;have F:=Xc;obtain ⟨v0,h0⟩:∃ v0,vs[0]? = some v0:=⟨vs[0]'(by omega),acP (by omega)⟩;obtain ⟨de,g,d,tt,os⟩:=s;refine wpAny_call (codeAny_call_builtin F.init.plain F.initEntry (wpAny_check_init_subT F T cj ag rfl ?_));show wpAny _ _ (newTuple [u] >>= fun ia=>(do
  let old <- field (.ref a) 0
  setField (.ref a) 0 ia
  if let .ref _:=old then letGo [old] []) >>= fun _=>ret .none) _ _ _
 have m6:(de.push { cls:=.type "tuple",data:=.seq [u].toArray }).get? a=some ⟨.ref C,bk,.fields vs,bt⟩:=dE _ ag;refine wpAny_bind (wpAny_newTuple (wpAny_bind (wpAny_bind (wpAny_field m6 rfl h0 (wpAny_bind (wpAny_setField m6 rfl (by omega) ?_))))));have fb:=rL (h:=de.push { cls:=.type "tuple",data:=.seq [u].toArray }) (oC (·.setIfInBounds 0 (.ref de.objs.size))) m6 rfl;have fin:∀ s',s'=(⟨(de.push { cls:=.type "tuple",data:=.seq [u].toArray }).update a (oC (·.setIfInBounds 0 (.ref de.objs.size))),g,d,tt,os⟩:Shared)->Q .none s':=by
  rintro s' rfl;refine h _ ?_;have aN:Inv X aa σ H ⟨de.push { cls:=.type "tuple",data:=.seq [u].toArray },g,d,tt,os⟩:=J.kept (t':=tt) fun b o q=>dE _ q
  have:=aN.write (x:=a) (e:=a) (o:=.ext (fH a C bk)) (h':=(de.push { cls:=.type "tuple",data:=.seq [u].toArray }).update a (oC (·.setIfInBounds 0 (.ref de.objs.size)))) (t':=tt) (by rw [ei];exact iu) (.inl rfl)
   (fun b o ab q=>(k4 _ _ (dg ab)).trans q) ⟨_,fb⟩ (fH.ok ⟨vs.setIfInBounds 0 (.ref de.objs.size),bt,fb,by simpa using ez,by rw [Array.getElem?_setIfInBounds_ne (by decide)];exact d9⟩)
  rwa [RB ei] at this
 cases v0 with
 | ref b=>exact wpAny_bind (wpAny_holding (wpAny_point (wpAny_pure (wpAny_pure (fin _ rfl)))))
 | _=>exact wpAny_pure (wpAny_pure (fin _ rfl))
theorem aaI (a5:j7 X x) (hm:X.mg x=some (.ref L)) (c:UD X.K L m) (aO:iY X (e :: aV) t)
  (i6:(x == ("__debug__" : Str))=false:=by decide) (fO:starEach (e :: aV) X.env=(false,eval e X.env) :: starEach aV X.env:=by rfl) (cO:(backTo pos (starEach aV X.env)).any (·.1)=false:=by rfl)
  (cK:eval (.Call (.Attribute (.Name x p) m eT) (e :: aV) [] pos) X.env=(do
   let d0 <- eval (.Name x p) X.env
   standAt eT.atName
   let (f,first) <- holding [d0] (getMethod d0 m pl)
   callWith pos f first (backTo pos (starEach (e :: aV) X.env)) (backToKw pos (keywordEach [] X.env))):=by rfl) :
  bp X (.Call (.Attribute (.Name x p) m eT) (e :: aV) [] pos) (Iq X.K t):=by
 intro aa s σ H Q J h;refine yk (pl:=pl) (sa J a5 hm ?_ i6) cK;refine ae1 J.fz c.ga (akk J.fz c.kc c.fd rfl ?_);refine W6 (bA (aO pos aa _ σ H _ (J.tok (s.toks + 1)) h) fun us s2 cF=>?_) fO cO;obtain ⟨vs,aw,bu,r,a,C,bk,v,ev,ei,oQ,q⟩:=cF;subst ev;obtain ⟨mU,Dn,rfl,cE,fW⟩:=Oi r;obtain rfl:mU=dz a:=cE;exact abi bu ei oQ fun s3 ed=>⟨.bO,aw,ed,rfl,q⟩
end
structure yw (K:a_) (C fI:Addr):Prop where
 e:uu K C fI=true
 fn:Vv K (.ref fI)=some (.type "function")
 bH:qr K (.ref C)=true
noncomputable def LI (C:Addr) (sp:bP) (t:e_):TE:=fun σ H Q=>t σ H fun vs H1=>vs.length <= sizeLine/\∀ x,H1 x=none->sp (.ref x :: vs) (upd H1 x (.ext (fH x C none))) (fun v aw=>v=.bO/\Q (.ref x) aw) (fun _ _ _=>False)
noncomputable def Qq (K:a_) (a7 e3:TE) (f:Str):dF:=fun D σ H=>e3 σ H fun y H1=>a7 σ H1 fun x aw=>∃ a C,x=.ref a/\aw a=some (.ext (fH a C none))/\l0 K C/\ac K C f /\
 ∀ ao,aw ao=none->ao ≠ a->D.b2 σ (upd (upd aw a (.ext (fH a C (some ao)))) ao (.ext (ka ao [(f,y)])))
noncomputable def LD (K:a_) (a7:TE) (f:Str):TE:=fun σ H Q=>a7 σ H fun x H1=>∃ a C ao aK v,x=.ref a/\H1 a=some (.ext (gI a C (some ao)))/\H1 ao=some (.ext (ka ao aK))/\l0 K C/\ac K C f/\aK.lookup f=some v/\Q v H1
section
variable {X:a3} {k:Nat} {f C:Addr} {fd:FuncData} {ps:List Str} {sp:bP} {x g:Str} {p pos pos' eT:Pos} {e o value:Expr} {aV:List Expr} {a7 e3:TE} {t:e_}
theorem WY (M:yw X.K C f) (F:b_ X.prog X.w X.K X.mg X.base (fun _ _ _ _ _ _=>False) k f fd ps sp) (ak:dX (k + 1) X.A) (ab:bY X.K fd ps [])
  (J:Inv X aa σ H s) (r:bU vs us) (aJ:vs.length <= sizeLine) (h:∀ x,H x=none->sp (.ref x :: vs) (upd H x (.ext (fH x C none))) (fun v aw=>v=.bO/\Q (.ref x) aw) (fun _ _ _=>False)) :
  wpAny (model X.prog X.w) X.A (call (.ref C) us) (f7 X aa σ Q) X.du s:=by
 obtain ⟨de,g,d,tt,os⟩:=s;refine wpAny_call (af_ (fI:=f) J.fz M.e M.fn (by rw [<- r.length];exact aJ) fun h' x ag P1=>?_);obtain ⟨ia,O9,_,_⟩:=P1.there;have bu:=J.laid (a:=x) (o:=.ext (fH x C none)) (h':=h') (t':=tt) P1.keeps ag (fH.ok ⟨_,_,O9,Nat.lt_of_lt_of_eq (show 1 < 6 by decide) rfl,rfl⟩);have aI:=h x (J.a4.fresh ag);have fW:bU (V.ref x :: vs) (dz x :: us):=.cons rfl r;have aA:((dz x :: us) ++ []).length=ps.length:=by
  rw [ur,<- fW.length];exact F.len _ _ _ _ aI
 have i':=ab ⟨h',g,d,tt,os⟩ (dz x :: us) bu.fz aA;rw [ur] at i';refine codeAny_mono (F.run _ X.stack _ _ ⟨dz x :: us,[]⟩ (dz x :: us) _ _ _ (ak.make C us []) (bu.DI.make C us []) i' fW aI) fun r s' iL=>?_
 rcases r with e | (u | _ | _ | _) <;> first | exact hP iL | skip
 obtain ⟨v,I,ed,cG,ev,fJ⟩:=bu.after iL;subst ev;exact ⟨cG,⟨V.ref x,I,ed,rfl,fJ⟩⟩
theorem aeO (M:yw X.K C f) (F:b_ X.prog X.w X.K X.mg X.base (fun _ _ _ _ _ _=>False) k f fd ps sp) (ak:dX (k + 1) X.A) (a5:j7 X x) (hm:X.mg x=some (.ref C)) (ab:bY X.K fd ps [])
  (aO:iY X (e :: aV) t) (i6:(x == ("__debug__" : Str))=false:=by decide) (he:starEach (e :: aV) X.env=(false,eval e X.env) :: starEach aV X.env:=by rfl) (cO:(backTo pos (starEach aV X.env)).any (·.1)=false:=by rfl) :
  bp X (.Call (.Name x p) (e :: aV) [] pos) (LI C sp t):=by
 intro aa s σ H Q J h;refine wpAny_Call_Name_kw (sa J a5 hm ?_ i6);exact vG (h₀:=X.base) J.ok.mod.qA M.bH (bA (aO pos aa s σ H _ J h) fun us s1 ⟨vs,H1,aN,r,aJ,q⟩=>⟨aN.fz,WY M F ak ab aN r aJ q⟩) he cO
theorem abd (aO:bp X o a7) (aF:bp X value e3) (ay:swapsWith value (some (.Attribute o g pos')) pos.line X.env=pure false):gJ X (.Assign [.Attribute o g pos'] value pos) (Qq X.K a7 e3 g):=by
 intro aa s σ H D J h;refine plainObj_wpAny_Assign_Attribute (bA (aF aa s σ H _ J h) fun u s1 b4=>ea b4 fun y H1 aN bg q=>bA (aO aa s1 σ H1 _ aN q) fun d0 s2 cF=>?_) ay;obtain ⟨x,aw,bu,bb,a,C,ex,ei,c,n,dn⟩:=cF;subst ex;obtain rfl:d0=dz a:=bb;exact ahx bu ei c n bg fun ao s3 hd bX ed=>⟨σ,_,ed,dn ao hd bX⟩
theorem aaK (he:bp X e a7) (ab:attributeBase e g X.env (eval e X.env)=eval e X.env):bp X (.Attribute e g pos) (LD X.K a7 g):=by
 intro aa s σ H Q J h;refine QF ab (bA (he aa s σ H _ J h) fun u s1 cF=>?_);obtain ⟨x,H1,aN,bb,a,C,ao,aK,v,ex,ei,ho,c,n,l,q⟩:=cF;subst ex;obtain rfl:u=dz a:=bb;exact ak8 aN ei ho c n l fun u s2 bu eo=>⟨v,H1,bu,eo,q⟩
end
def kW (x C:Addr) (bk:Option Addr) (T:Addr) (cR:Value) (h:Heap):Prop:=
 T ≠ x/\∃ vs bt pJ iv,h.get? x=some ⟨.ref C,bk,.fields vs,bt⟩/\vs[1]? = some (.ref T)/\h.get? T=some pJ/\pJ.data=.fields iv/\iv[3]? = some cR
theorem kW.pZ {x C T:Addr} {h:Heap} (z:kW x C bk T cR h):gI x C bk h:=let ⟨_,vs,bt,_,_,e,_⟩:=z;⟨vs,bt,e⟩
structure nT (aK:List Addr) (x:Addr) (rz:Option Addr) (h h':Heap):Prop where
 keep:∀ b o,h.get? b=some o->b ∉ aK->b ≠ x->some b ≠ rz->h'.get? b=some o
 slot:∀ b o,h.get? b=some o->b ∈ aK->∃ bt,h'.get? b=some { o with slots:=bt }
 there:∀ b o,h.get? b=some o->∃ dx,h'.get? b=some dx
section
variable {M:Model} {A:Around} {E:Value->Shared->Prop} {s:Shared}
theorem vN {base h:Heap} (aA:h.FunFrames base l) (e:h.get? b=some o) (d:o.data=.fields vs):b ∉ h_ l:=fun hm=>by
 obtain ⟨_,dx,bQ,f6⟩:=aA.mem hm;rw [e] at bQ;cases bQ;exact f6 vs d
theorem YL {env nu:Env} (hf:env.frame=some L) (o1:nu.frame=some L):Ih nu=Ih env:=by
 unfold Ih;rw [o1,hf]
theorem SR {base:Heap} {env nu:Env} {outer:List Env} {L x C:Addr} {aY:Bool}
  (oI:A.frames=some (env :: outer)) (aA:s.heap.FunFrames base (env :: outer)) (hf:env.frame=some L) (o1:nu.frame=some L) (he:s.heap.get? x=some ⟨.ref C,bk,.fields vs,bt⟩) (aJ:1 < vs.size)
  (h:∀ h' T,nT (h_ (env :: outer)) x none s.heap h'->s.heap.objs.size <= T->kW x C bk T (rawInt L) h'->Q () { s with heap:=h' }) :
  wpAny M A (do let a <- Ih nu;let pl <- entryPlaceOf L aY;let b <- ais head a .none (rawInt L) .none pl;setField (.ref x) 1 b) Q E s:=by
 have b2:x ∉ h_ (env :: outer):=vN aA he rfl;rw [YL hf o1];refine wpAny_bind (wpAny_frameOf_fun oI aA hf fun af S=>wpAny_bind (wpAny_entryPlaceOf fun pl ar=>?_));unfold ais newFields;refine wpAny_bind (wpAny_newObj_type ?_ (ar.sizeOk5 _ _ _ _ _));have aq:af.get? x=some ⟨.ref C,bk,.fields vs,bt⟩:=(S.2.1 x b2).trans he;obtain ⟨iv,EH,a'⟩:∃ iv:Array Value,([head,.ref L,.none,rawInt L,.none] ++ (if pl.isEmpty then Et 6 ic else pl)).toArray=iv/\iv[3]? = some (rawInt L):=⟨_,rfl,by simp⟩;rw [EH];have aD:=dE (h:=af) { cls:=.type "traceback",dict:=none,data:=.fields iv } aq;have ne:af.objs.size ≠ x:=te (dJ aq);have kO:af.objs.size=s.heap.objs.size:=S.1;refine wpAny_setField aD rfl aJ (h _ af.objs.size ⟨fun b o q b9 cI _=>?_,fun b o q b9=>?_,fun b o q=>?_⟩ (AV kO.symm) ⟨ne,vs.setIfInBounds 1 (.ref af.objs.size),bt,{ cls:=.type "traceback",dict:=none,data:=.fields iv },iv,rL _ aD rfl,by simp [aJ],?_,rfl,a'⟩)
 .rw [k4 _ _ (dg cI)];exact dE _ ((S.2.1 b b9).trans q)
 .obtain ⟨uo,bL⟩:=S.2.2 b o q;have nb:x ≠ b:=fun z=>b2 (by rw [z];exact b9)
  exact ⟨uo,(k4 _ _ nb).trans (dE _ bL)⟩
 .by_cases ab:b=x
  .rw [ab];exact ⟨_,rL _ aD rfl⟩
  .obtain ⟨uo,bL⟩:=S.2.2 b o q;exact ⟨_,by rw [k4 _ _ (dg ab)];exact dE _ bL⟩
 .exact (k4 _ _ (dg ne)).trans (hc af rfl)
theorem aai {base:Heap} {env nu:Env} {outer:List Env} {L x C:Addr}
  (oI:A.frames=some (env :: outer)) (aA:s.heap.FunFrames base (env :: outer)) (hf:env.frame=some L) (o1:nu.frame=some L) (he:s.heap.get? x=some ⟨.ref C,bk,.fields vs,bt⟩) (af:vs[1]? = some .none)
  (h:∀ h' T,nT (h_ (env :: outer)) x none s.heap h'->s.heap.objs.size <= T->kW x C bk T (rawInt L) h'->Q () { s with heap:=h' }) :
  wpAny M A (noteFrame (.ref x) nu) Q E s:=by
 unfold noteFrame;simp only [o1];refine wpAny_bind (wpAny_field he rfl af ?_);rw [if_neg (by decide)];exact SR oI aA hf o1 he (Gj.mp af).1 h
theorem akF {base:Heap} {env nu:Env} {outer:List Env} {L x C T:Addr}
  (oI:A.frames=some (env :: outer)) (aA:s.heap.FunFrames base (env :: outer)) (hf:env.frame=some L) (o1:nu.frame=some L) (z:kW x C bk T cR s.heap) (bX:¬ (cR == rawInt L)=true)
  (h:∀ h' tZ,nT (h_ (env :: outer)) x (some T) s.heap h'->s.heap.objs.size <= tZ->kW x C bk tZ (rawInt L) h'->Q () { s with heap:=h' }) :
  wpAny M A (noteFrame (.ref x) nu) Q E s:=by
 obtain ⟨ne,vs,bt,pJ,iv,he,af,et,hd,a'⟩:=z;unfold noteFrame;simp only [o1];refine wpAny_bind (wpAny_field he rfl af ?_);rw [if_pos (show (dz T != ic)=true from by simp)];refine wpAny_bind (wpAny_field et hd a' ?_);rw [if_neg bX];refine wpAny_bind (wpAny_setField et hd (Gj.mp a').1 ?_);have jb:T ∉ h_ (env :: outer):=vN aA et hd;have om:∀ b,b ≠ T->(s.heap.update T (oC (·.setIfInBounds 3 ic))).get? b=s.heap.get? b:=fun b ab=>k4 _ _ (dg ab)
 have BF:∃ dx,(s.heap.update T (oC (·.setIfInBounds 3 ic))).get? T=some dx:=⟨_,rL _ et (Om (y6 hd _))⟩;have Ka:(s.heap.update T (oC (·.setIfInBounds 3 ic))).FunFrames base (env :: outer):=aA.of_keeps fun b o e f6=>⟨o,(om b fun q=>by rw [q,et] at e;cases e;exact f6 iv hd).trans e,rfl⟩
 refine SR (s:={ s with heap:=s.heap.update T (oC (·.setIfInBounds 3 ic)) }) oI Ka hf o1 ((om x (dg ne)).trans he) (Gj.mp af).1 fun h' tZ k w f=>h h' tZ ⟨fun b o q b9 cI dA=>?_,fun b o q b9=>?_,fun b o q=>?_⟩ ?_ f
 .exact k.keep b o ((om b fun y=>dA (by rw [y])).trans q) b9 cI (fun y=>by cases y)
 .exact k.slot b o ((om b fun y=>jb (y ▸ b9)).trans q) b9
 .by_cases ab:b=T
  .subst ab;obtain ⟨dx,bQ⟩:=BF;exact k.there _ _ bQ
  .exact k.there b o ((om b ab).trans q)
 .exact cP (AV (YJ _ _ _).symm) w
theorem uJ {x C T:Addr} {aK:List Addr} (o:Option Addr) (z:kW x C bk T cR s.heap) (jb:T ∉ aK)
  (h:∀ h',nT aK x (some T) s.heap h'->kW x C bk T (o.elim .none fun f=>rawInt f) h'->Q () { s with heap:=h' }):wpAny M A (setFlight (.ref x) o) Q E s:=by
 obtain ⟨ne,vs,bt,pJ,iv,he,af,et,hd,a'⟩:=z;have vu:3 < iv.size:=(Gj.mp a').1;have om:∀ b,b ≠ T->(s.heap.update T (oC (·.setIfInBounds 3 (o.elim ic fun f=>rawInt f)))).get? b=s.heap.get? b:=fun b ab=>k4 _ _ (dg ab)
 have BF:=rL (oC (·.setIfInBounds 3 (o.elim ic fun f=>rawInt f))) et (Om (y6 hd _));unfold setFlight;refine wpAny_bind (wpAny_field he rfl af ?_);rw [if_pos (show (dz T != ic)=true from by simp)];refine wpAny_setField et hd vu (h _ ⟨fun b o q _ _ dA=>(om b fun y=>dA (by rw [y])).trans q,fun b o q b9=>⟨o.slots,(om b fun y=>jb (y ▸ b9)).trans q⟩,fun b o q=>?_⟩
  ⟨ne,vs,bt,_,_,(om x (dg ne)).trans he,af,BF,y6 hd _,by simp [vu]⟩)
 by_cases ab:b=T
 .subst ab;exact ⟨_,BF⟩
 .exact ⟨o,(om b ab).trans q⟩
end
section
variable {P:Program} {w:World} {H:au} {h h':Heap} {aK:List Addr} {x C T:Addr} {bk:Option Addr} {cR:Value} {rz:Option Addr} {o:e2}
theorem nT.a4 (k:nT aK x rz h h') (ok:eh P w H h) (uU:∀ b ∈ aK,H b=none) (et:∀ t,rz=some t->H t=none) (fe:l8 (H x)) (new:gI x C bk h'):eh P w (upd H x (.ext (gI x C bk))) h':=fun b u q=>by
 have wi:∀ c y,H c=some (.own y)->c ≠ x:=fun c y r z=>by subst z;rw [r] at fe;exact fe
 have K':∀ c xs,H c=some (.tup xs)->c ≠ x:=fun c xs r z=>by subst z;rw [r] at fe;exact fe
 have jw:∀ c v,c ≠ x->H c ≠ none->h.get? c=some v->h'.get? c=some v:=fun c v b9 cI r=>k.keep c v r (fun z=>cI (uU c z)) b9 fun z=>cI (et c z.symm)
 by_cases ab:b=x
 .subst ab;rw [aX] at q;cases q;exact new.ok
 .rw [aH ab] at q;refine (ok b u q).mF (fun c v av r=>?_) (fun c r=>by rw [aH (wi c b r)];exact r) fun c xs r=>by rw [aH (K' c xs r)];exact r
  rcases av with rfl | av
  .exact jw c v ab (by rw [q];exact fun z=>by cases z) r
  .exact jw c v (wi c b av) (by rw [av];exact fun z=>by cases z) r
theorem nT.un (k:nT aK x rz h h') (et:∀ t,rz=some t->H t=none) (fe:l8 (H x)):eJ aK rz.toList H (upd H x o) h h':=by
 have ag:∀ b,H b=none->b ≠ x:=fun b n z=>by subst z;rw [n] at fe;exact fe
 have hm:∀ b u,H b=some u->¬ l8 (some u)->b ≠ x:=fun b u q nm z=>by subst z;rw [q] at fe;exact nm fe
 refine ⟨fun b u q n b9 cI=>k.keep b u q b9 (ag b n) fun z=>cI (by rw [<- z];simp),fun b u q n b9 cI=>k.slot b u q b9,fun b u q n _=>by rw [aH (ag b n)];exact n,fun b u q _=>k.there b u q,
  fun b xs q=>by rw [aH (hm b _ q fun z=>z)];exact q,fun b u xs q=>by rw [aH (hm b _ q fun z=>z)];exact q,fun b ps q=>⟨#[],by rw [aH (hm b _ q fun z=>z),q];simp⟩⟩
end
noncomputable def kz (P:Program) (w:World):jc:=fun outer H s E e s'=>
 ∃ x C bk I T,e=.ref x/\s'.os=s.os/\AllBare s'.gens/\eJ (h_ outer) [] H I s.heap s'.heap/\eh P w I s'.heap/\I x=some (.ext (gI x C bk))/\s.heap.objs.size <= T/\I T=none/\kW x C bk T .none s'.heap/\E (.ref C) bk I
def KI (X:a3) (E:St->dZ):Prop:=∀ (aa:List (Addr × Obj)) (σ:St) (H:au) (s:Shared) (x C:Addr) (bk:Option Addr),Inv X aa σ H s->H x=some (.ext (fH x C bk))->E σ (.ref C) bk (upd H x (.ext (gI x C bk)))->X.du (.ref x) s
def It (CX:jc) (X:a3) (E:St->dZ):Prop:=∀ (aa:List (Addr × Obj)) (σ:St) (H:au) (s:Shared) (e:Value) (s':Shared),Inv X aa σ H s->CX X.stack H s (E σ) e s'->X.du e s'
structure nj (X:a3):Prop where
 st:X.stack=X.env :: X.outer
 fr:X.env.frame=some X.env.locals
def v9 (X:a3) (aa:List (Addr × Obj)) (T:Addr):Prop:=(T ∈ X.ex\/X.fv.heap.objs.size <= T)/\T ≠ X.env.locals/\(∀ x c,X.env.cells.lookup x=some c->c ≠ T)/\∀ p ∈ X.dN ++ aa,p.1 ≠ T
def mI (X:a3) (aa:List (Addr × Obj)) (E:St->dZ) (cR:Value) (e:Value) (s':Shared):Prop:=
 ∃ ax I x C bk T,e=.ref x/\Inv X aa ax I s'/\I x=some (.ext (gI x C bk))/\I T=none/\v9 X aa T/\kW x C bk T cR s'.heap/\E ax (.ref C) bk I
def Jq (X:a3) (aa:List (Addr × Obj)) (E:St->dZ) (e:Value) (s':Shared):Prop:=
 ∃ ax I x C bk,e=.ref x/\Inv X aa ax I s'/\I x=some (.ext (fH x C bk))/\E ax (.ref C) bk (upd I x (.ext (gI x C bk)))
def oH (X:a3) (aa:List (Addr × Obj)) (E:St->dZ) (e:Value) (s':Shared):Prop:=Jq X aa E e s'\/∃ cR,mI X aa E cR e s'
def t9 (X:a3) (E:St->dZ) (e:Value) (s':Shared):Prop:=∃ aa,oH X aa E e s'
section
variable {X:a3} {aa:List (Addr × Obj)} {σ:St} {H:au} {s:Shared} {T x C:Addr} {bk:Option Addr} {E:St->dZ} {M:Model} {A:Around} {tj:Value->Shared->Prop} {Q:Unit->Shared->Prop} {e cR:Value} {h':Heap}
theorem Cr (J:Inv X aa σ H s) (et:s.heap.objs.size <= T):v9 X aa T:=by
 have lt:∀ {b:Addr} {o:Obj},s.heap.get? b=some o->b ≠ T:=fun q z=>by
  subst z;exact absurd (hp (dJ q) et) (kA _)
 refine ⟨.inr (cP J.kO et),fun z=>?_,fun x c e=>?_,fun p ar=>lt (J.pin p ar).1⟩
 .obtain ⟨m,⟨o,aV,ep,aQ,_⟩,_⟩:=J.loc;exact lt aQ z.symm
 .obtain ⟨v,o,aQ,_⟩:=J.cell x c e;exact lt aQ
theorem ad3 (J:Inv X aa σ H s) (k:nT (h_ X.stack) x (some T) s.heap h') (ex:H x=some (.ext (gI x C bk))) (iC:H T=none) (jb:v9 X aa T) (pZ:gI x C bk h'):Inv X aa σ H { s with heap:=h' }:=by
 have fe:l8 (H x):=by rw [ex];exact iu
 have z:∀ t,some T=some t->H t=none:=fun t z=>by cases z;exact iC
 have mU:=k.un (H:=H) (o:=.ext (gI x C bk)) z fe;have bG:=k.a4 J.a4 J.xt z fe pZ;rw [RB ex] at mU bG;exact J.xi (s':={ s with heap:=h' }) (ch:=[T]) rfl mU bG J.bare fun b ab=>by
  obtain rfl:b=T:=by simpa using ab
  exact jb
theorem Rc (F:nj X) (J:Inv X aa σ H s) (k:nT (h_ (X.env :: X.outer)) x (some T) s.heap h') (ex:H x=some (.ext (gI x C bk))) (iC:H T=none) (jb:v9 X aa T) (pZ:gI x C bk h'):Inv X aa σ H { s with heap:=h' }:=
 ad3 J (by rw [F.st];exact k) ex iC jb pZ
theorem mI.note (F:nj X) (q:mI X aa E cR e s) (bX:¬ (cR == rawInt X.env.locals)=true) (h:∀ s',mI X aa E (rawInt X.env.locals) e s'->Q () s'):wpAny M X.A (noteFrame e X.env) Q tj s:=by
 obtain ⟨σ,H,x,C,bk,T,rfl,J,ex,iC,jb,f,w⟩:=q;have aK:s.heap.FunFrames X.base (X.env :: X.outer):=by rw [<- F.st];exact J.stack
 exact akF (by rw [<- F.st];exact J.ok.frames) aK F.fr F.fr f bX fun h' tZ k d8 wL=>h _ ⟨σ,H,x,C,bk,tZ,rfl,Rc F J k ex iC jb wL.pZ,ex,J.a4.fresh d8,Cr J d8,wL,w⟩
theorem mI.ahF (F:nj X) (q:mI X aa E (rawInt X.env.locals) e s) (h:Q () s):wpAny M X.A (noteFrame e X.env) Q tj s:=by
 obtain ⟨σ,H,x,C,bk,T,rfl,J,ex,iC,jb,⟨ne,vs,bt,pJ,iv,he,af,et,hd,a'⟩,w⟩:=q;unfold noteFrame;simp only [F.fr];refine wpAny_bind (wpAny_field he rfl af ?_);rw [if_pos (show (dz T != ic)=true from by simp)];refine wpAny_bind (wpAny_field et hd a' ?_);rw [if_pos (show (rawInt X.env.locals == rawInt X.env.locals)=true from by simp)];exact wpAny_pure h
theorem Jq.note (F:nj X) (q:Jq X aa E e s) (h:∀ s',mI X aa E (rawInt X.env.locals) e s'->Q () s'):wpAny M X.A (noteFrame e X.env) Q tj s:=by
 obtain ⟨σ,H,x,C,bk,rfl,J,ex,w⟩:=q;have aK:s.heap.FunFrames X.base (X.env :: X.outer):=by rw [<- F.st];exact J.stack
 obtain ⟨vs,bt,ag,ez,d9⟩:=(show dy X.prog X.w H s.heap x (.ext (fH x C bk)) from J.a4 _ _ ex).1;have fe:l8 (H x):=by rw [ex];exact iu
 refine aai (by rw [<- F.st];exact J.ok.frames) aK F.fr F.fr ag d9 fun h' T k d8 f=>h _ ?_
 have z:∀ t,none=some t->H t=none:=fun t z=>by cases z
 have mU:=k.un (H:=H) (o:=.ext (gI x C bk)) z fe;have bG:=k.a4 J.a4 (by rw [<- F.st];exact J.xt) z fe f.pZ;rw [<- F.st] at mU;have bu:=J.xi (s':={ s with heap:=h' }) (ch:=[]) rfl mU bG J.bare fun b ab=>absurd ab (by simp)
 exact ⟨σ,_,x,C,bk,T,rfl,bu,aX,by rw [aH f.1];exact J.a4.fresh d8,Cr J d8,f,w⟩
theorem oH.note (F:nj X) (q:oH X aa E e s) (h:∀ s',mI X aa E (rawInt X.env.locals) e s'->Q () s'):wpAny M X.A (noteFrame e X.env) Q tj s:=by
 rcases q with q | ⟨cR,q⟩
 .exact q.note F h
 .by_cases c:(cR == rawInt X.env.locals)=true
  .rw [beq_iff_eq] at c;subst c;exact q.ahF F (h _ q)
  .exact q.note F c h
theorem mI.uJ (F:nj X) (o:Option Addr) (q:mI X aa E cR e s) (h:∀ s',mI X aa E (o.elim .none fun f=>rawInt f) e s'->Q () s'):wpAny M A (setFlight e o) Q tj s:=by
 obtain ⟨σ,H,x,C,bk,T,rfl,J,ex,iC,jb,f,w⟩:=q;have aK:s.heap.FunFrames X.base (X.env :: X.outer):=by rw [<- F.st];exact J.stack
 have f6:T ∉ h_ (X.env :: X.outer):=by
  obtain ⟨_,_,_,pJ,iv,_,_,e,d,_⟩:=id f;exact vN aK e d
 exact L2.uJ o f f6 fun h' k wL=>h _ ⟨σ,H,x,C,bk,T,rfl,Rc F J k ex iC jb wL.pZ,ex,iC,jb,wL,w⟩
theorem oH.leave (F:nj X) (q:oH X aa E e s) (h:∀ s',mI X aa E .none e s'->Q () s'):wpAny M X.A (leaving X.env e) Q tj s:=by
 unfold leaving;exact wpAny_bind (q.note F fun s' cW=>cW.uJ F none h)
theorem Y3 (F:nj X):PassesOwn M X.A X.env (oH X aa E):=fun e s' q=>by
 refine q.note F fun s2 dn=>?_
 show wpAny _ _ _ _ _ _;obtain ⟨σ,H,x,C,bk,T,rfl,J,ex,iC,jb,⟨ne,vs,bt,pJ,iv,he,af,et,hd,a'⟩,w⟩:=id dn;refine wpAny_bind (wpAny_field he rfl af ?_);rw [if_neg (show ¬ (dz T == ic)=true from by simp)];rw [F.fr];exact dn.uJ F _ fun s3 fJ=>.inr ⟨_,fJ⟩
theorem Ol (F:nj X):PassesOwn M X.A X.env (t9 X E):=fun e s' ⟨aa,q⟩=>by
 have z:=Y3 (M:=M) F e s' q;refine wpAny_mono z (fun _ s2 dn=>?_) fun aD s2 dn=>?_
 all_goals exact wpAny_mono dn (fun _ s3 fJ=>⟨aa,fJ⟩) fun bL s3 fJ=>⟨aa,fJ⟩
theorem aba:KI (X.gU (t9 X E)) E:=fun aa σ H s x C bk J ex q=>⟨aa,.inl ⟨σ,H,x,C,bk,rfl,J.kQ,ex,q⟩⟩
theorem agy {sO:dZ} (J:Inv X aa σ H s) (aI:kz X.prog X.w X.stack H s sO e s') (h:∀ C bk I,sO C bk I->E σ C bk I):oH X aa E e s':=by
 obtain ⟨x,C,bk,aw,T,rfl,os,bare,un,a4,ex,et,iC,cR,q⟩:=aI;exact .inr ⟨_,σ,aw,x,C,bk,T,rfl,J.xi os un a4 bare (fun b z=>absurd z (by simp)),ex,iC,Cr J et,cR,h _ _ _ q⟩
end
theorem WD {X:a3} {E:dZ}:n3 (kz X.prog X.w) (X.gU (t9 X fun _=>E)) E:=fun aa σ H s e s' J aI=>⟨aa,agy J.kQ aI fun _ _ _ z=>z⟩
theorem aip {X:a3} {E:dZ}:KI (X.gU (t9 X fun _=>E)) (fun _=>E):=aba
section
variable {P:Program} {w:World} {K:a_} {mg:Str->Option Value} {base:Heap} {N:List Str} {qual:Str} {scope:Scope} {f:Addr} {cd:Value} {A:Around} {outer:List Env} {s:Shared} {H:au} {E:dZ}
theorem ah_ {e:Value} (q:t9 (mr (kz P w) P w K mg base N qual scope f cd A outer s H E) (fun _=>E) e s'):(mr (kz P w) P w K mg base N qual scope f cd A outer s H E).du e s':=by
 obtain ⟨aa,q⟩:=q;refine q.leave ⟨rfl,rfl⟩ fun s2 dn=>?_
 obtain ⟨σ,aw,x,C,bk,T,rfl,J,ex,iC,jb,cR,q⟩:=dn;refine ⟨x,C,bk,aw,T,rfl,J.os,J.bare,J.base,J.a4,ex,?_,iC,cR,q⟩;rcases jb.1 with z | z
 .exact absurd z (by show T ∉ ([]:List Addr);simp)
 .exact z
end
noncomputable def N0 (C:Addr) (m:Str) (sp:bP) (dvs:List V) (E:St->dZ) (a7:TE) (t:e_):TE:=fun σ H Q=>a7 σ H fun x H1=>∃ a ao aK,x=.ref a/\H1 a=some (.ins C ao aK)/\aK.lookup m=none /\
 t σ H1 fun vs aw=>sp (x :: (vs ++ dvs)) aw Q (E σ)
section
variable {X:a3} {CX:jc} {k:Nat} {f C:Addr} {fd:FuncData} {ps:List Str} {sp:bP} {dvs:List V} {ds:List Value} {E:St->dZ} {x m:Str} {p pos eT:Pos} {e o:Expr} {aV:List Expr} {a7:TE} {t:e_}
theorem ajl (F:b_ X.prog X.w X.K X.mg X.base CX k f fd ps sp) (ak:dX k X.A) (ab:bY X.K fd ps ds) (hd:bU dvs ds) (ag:It CX X E)
  (J:Inv X aa σ H s) (r:bU vs us) (h:sp (vs ++ dvs) H Q (E σ)):wpAny (model X.prog X.w) X.A (call (.ref f) us) (f7 X aa σ Q) X.du s:=by
 have fW:bU (vs ++ dvs) (us ++ ds):=r.append hd;have aA:(us ++ ds).length=ps.length:=by rw [<- fW.length];exact F.len _ _ _ _ h
 refine wpAny_call (codeAny_mono (F.run X.A X.stack s H ⟨us,[]⟩ (us ++ ds) (vs ++ dvs) Q (E σ) ak J.DI (ab s us J.fz aA) fW h) fun r s' aI=>?_);rcases r with e | (u | _ | _ | _)
 .exact ag aa σ H s e s' J aI
 all_goals first | exact J.after aI | exact hP aI
theorem aeK (he:bp X o a7) (c:gP X.K C) (hm:fE X.K C m f) (F:b_ X.prog X.w X.K X.mg X.base CX k f fd ps sp) (ak:dX k X.A) (ab:bY X.K fd ps ds) (hd:bU dvs ds) (ag:It CX X E) (aO:iY X (e :: aV) t)
  (fO:starEach (e :: aV) X.env=(false,eval e X.env) :: starEach aV X.env:=by rfl) (cO:(backTo pos (starEach aV X.env)).any (·.1)=false:=by rfl)
  (cK:eval (.Call (.Attribute o m eT) (e :: aV) [] pos) X.env=(do
   let d0 <- eval o X.env
   standAt eT.atName
   let (f,first) <- holding [d0] (getMethod d0 m pl)
   callWith pos f first (backTo pos (starEach (e :: aV) X.env)) (backToKw pos (keywordEach [] X.env))):=by rfl) :
  bp X (.Call (.Attribute o m eT) (e :: aV) [] pos) (N0 C m sp dvs E a7 t):=by
 intro aa s σ H Q J h;refine yk (pl:=pl) (bA (he aa s σ H _ J h) fun u s1 cF=>?_) cK;obtain ⟨x,H1,aN,bb,a,ao,aK,ex,ei,l,q⟩:=cF;subst ex;obtain rfl:u=dz a:=bb;refine Ag aN ei c hm l (vG (first:=[.ref a]) (h₀:=X.base) J.ok.mod.qA hm.bH (bA (aO pos aa s1 σ H1 _ aN q) fun us s2 ⟨vs,aw,bu,r,dn⟩=>⟨bu.fz,?_⟩) fO cO);exact ajl (us:=.ref a :: us) (vs:=.ref a :: vs) F ak ab hd ag bu (.cons rfl r) dn
end
noncomputable abbrev a3.i0 (X:a3) (dN:List (Addr × Obj)) (E:Value->Shared->Prop):a3:={ X with dN:=X.dN ++ dN,du:=E }
noncomputable abbrev a3.aY (X:a3) (e:Value):a3:={ X with A:=X.A.mark (some e),calm:=false,du:=fun _ _=>False }
section
variable {X:a3} {aa xe:List (Addr × Obj)} {σ:St} {H:au} {s:Shared} {E:Value->Shared->Prop} {e:Value}
theorem a3.Ok.i0 (ok:X.Ok) (dN:List (Addr × Obj)) (E:Value->Shared->Prop):(X.i0 dN E).Ok:=
 ⟨ok.mod,ok.kind,ok.glob,ok.blt,ok.above,ok.inj,ok.has,ok.pQ,ok.hd,ok.frames,ok.q6,ok.tE,ok.bs,ok.jP,ok.oY,ok.o_,ok.jL,ok.l7⟩
theorem a3.Ok.oG {dN:List (Addr × Obj)} (ok:(X.i0 dN E).Ok):X.Ok:=
 ⟨ok.mod,ok.kind,ok.glob,ok.blt,ok.above,ok.inj,ok.has,ok.pQ,ok.hd,ok.frames,ok.q6,ok.tE,ok.bs,ok.jP,ok.oY,ok.o_,ok.jL,ok.l7⟩
theorem a3.Ok.aY (ok:X.Ok) (e:Value):(X.aY e).Ok:=
 ⟨ok.mod,ok.kind,ok.glob,ok.blt,ok.above,ok.inj,ok.has,ok.pQ,(fun z=>Bool.noConfusion z),ok.frames,ok.q6,ok.tE,ok.bs,ok.jP,ok.oY,ok.o_,ok.jL,ok.l7⟩
theorem Inv.i0 (J:Inv X aa σ H s) (E:Value->Shared->Prop):Inv (X.i0 aa E) [] σ H s:=⟨J.ok.i0 aa E,J.os,J.bare,J.base,J.loc,J.cell,J.free,J.h3,fun p ar=>J.pin p (by simpa using ar),J.a4,J.len⟩
theorem Inv.oG (J:Inv (X.i0 aa E) xe σ H s):Inv X aa σ H s:=⟨J.ok.oG,J.os,J.bare,J.base,J.loc,J.cell,J.free,J.h3,fun p ar=>J.pin p (yJ _ ar),J.a4,J.len⟩
theorem Inv.aY (J:Inv X aa σ H s) (e:Value):Inv (X.aY e) aa σ H s:=⟨J.ok.aY e,J.os,J.bare,J.base,J.loc,J.cell,J.free,J.h3,J.pin,J.a4,J.len⟩
theorem Inv.zq (ok:X.Ok) (J:Inv (X.aY e) aa σ H s):Inv X aa σ H s:=⟨ok,J.os,J.bare,J.base,J.loc,J.cell,J.free,J.h3,J.pin,J.a4,J.len⟩
theorem oA.oG (h:oA (X.i0 aa E) xe D f s'):oA X aa D f s':=by
 cases f with
 | next=>obtain ⟨ax,I,J,q⟩:=h;exact ⟨ax,I,J.oG,q⟩
 | brk=>obtain ⟨ax,I,J,q⟩:=h;exact ⟨ax,I,J.oG,q⟩
 | cont=>obtain ⟨ax,I,J,q⟩:=h;exact ⟨ax,I,J.oG,q⟩
 | ret u=>obtain ⟨v,ax,I,J,r,q⟩:=h;exact ⟨v,ax,I,J.oG,r,q⟩
end
theorem abz {X:a3} {aa:List (Addr × Obj)} {E:St->dZ}:It (kz X.prog X.w) (X.i0 aa (oH X aa E)) E:=by
 intro xe σ H s e s' J aI;obtain ⟨x,C,bk,aw,T,rfl,os,bare,un,a4,ex,et,iC,cR,q⟩:=aI;have bu:=J.xi os un a4 bare (fun b z=>absurd z (by simp));exact .inr ⟨_,σ,aw,x,C,bk,T,rfl,bu.oG,ex,iC,Cr J.oG et,cR,q⟩
theorem Ad {A:Around} (J:Inv X aa σ H s) (bf:X.N.Nodup) (ah:X.N[i]? = some n)
  (aA:X.env.scope.names.lookup n=some .local) (h:∀ s',Inv X aa (σ.set i none) H s'->Q () s'):wpAny (model X.prog X.w) A (do bindName X.env n .none;unbindBehindTheSuite X.env n pos) Q E s:=by
 have wA:i < σ.length:=by rw [J.len];exact (cv.mp ah).1
 refine wpAny_bind (wpAny_bindName (At J bf ah (.inl aA) (v:=.bO) (u:=.none) rfl (fun s1 aN=>?_) (.inr aA)));obtain ⟨m,aY,t5⟩:=aN.loc;have aC:X.env.kindOf n=some .local:=aA;obtain ⟨u,eo,lk⟩:=t5 i n .bO ah (AQ wA) (.inl aA);have ad7:(m n).isSome=true:=by
  rcases lk with ⟨_,e⟩ | ⟨k,_⟩
  .rw [e];rfl
  .rcases k with k | k <;> (rw [aC] at k;cases k)
 have ar:(X.env.scope.kind == .class || (X.env.scope.kind == .module && X.env.locals != X.env.globals))=false:=by rw [J.ok.kind];rfl
 unfold unbindBehindTheSuite;refine wpAny_onRaise ?_;unfold unbindName;refine wpAny_bind (wpAny_point (wpAny_bind ?_));unfold deleteName;simp only [aC,ar];rw [if_neg (by decide)];refine wpAny_bind (wpAny_nsDel_keeps aY fun aj v2 oo ay=>?_);rw [ad7];refine wpAny_pure (wpAny_point (h _ ?_));have uF:∀ b o,X.fv.heap.get? b=some o->b ≠ X.env.locals:=fun b o e=>fR (hp (dJ e) aN.ok.above)
 refine ⟨aN.ok,aN.os,aN.bare,⟨fun b o e ih ab ag=>(ay.2 b (uF b o e)).trans (aN.base.keep b o e ih ab ag),fun b o e ih ab ag=>?_,aN.base.free,fun b o e ag=>?_,aN.base.kF,aN.base.jo,aN.base.jU⟩,⟨_,oo,fun j y v aq aD bL=>?_⟩,fun y c e=>?_,aN.free,aN.h3,fun p ar=>?_,fun b oa e=>?_,by simpa using J.len⟩
 .obtain ⟨bt,aq⟩:=aN.base.slot b o e ih ab ag;exact ⟨bt,(ay.2 b (uF b o e)).trans aq⟩
 .obtain ⟨dx,aq⟩:=aN.base.there b o e ag;exact ⟨dx,(ay.2 b (uF b o e)).trans aq⟩
 .by_cases aM:j=i
  .subst aM;rw [AQ wA] at aD;cases aD
  .rw [yg (dg aM)] at aD;obtain ⟨oa,cV,q⟩:=t5 j y v aq (by rw [yg (dg aM)];exact aD) bL;refine ⟨oa,cV,?_⟩;rcases q with ⟨k,e⟩ | ⟨k,c,e,z⟩
   .refine .inl ⟨k,?_⟩;have:y ≠ n:=fun e=>aM (G2 bf aq (e ▸ ah))
    simp [this,e]
   .exact .inr ⟨k,c,e,z.sameBut ay (aN.oX y c e)⟩
 .obtain ⟨d8,z⟩:=aN.cell y c e;exact ⟨d8,z.sameBut ay (aN.oX y c e)⟩
 .obtain ⟨e,ih,ne,f6,d⟩:=aN.pin p ar;exact ⟨(ay.2 p.1 ne).trans e,ih,ne,f6,d⟩
 .have adQ:∀ c,H c ≠ none->c ≠ X.env.locals:=fun c q z=>q (by rw [z];exact aN.free)
  refine (aN.a4 b oa e).mF (fun c v av q=>(ay.2 c (adQ c ?_)).trans q) (fun _ q=>q) fun _ _ q=>q
  rcases av with rfl | av
  .rw [e];exact fun z=>by cases z
  .rw [av];exact fun z=>by cases z
noncomputable def gO.gone (D:gO) (i:Nat):gO:={ b2:=fun σ H=>D.b2 (σ.set i none) H,ku:=D.ku,cA:=fun σ H=>D.cA (σ.set i none) H,eH:=fun σ H=>D.eH (σ.set i none) H }
noncomputable def EA (K:a_) (c:Addr) (i:Nat) (jE:dF) (D:gO):St->dZ:=fun σ C bk H=>∃ rG,C=.ref rG/\JF K C (.ref c)=some true/\∀ x,H x=some (.ext (gI x rG bk))->jE (D.gone i) (σ.set i (some (.ref x))) H
noncomputable def G1 (K:a_) (c:Addr) (i:Nat) (bK:(St->dZ)->dF) (jE:dF):dF:=fun D σ H=>bK (EA K c i jE D) D σ H
section
variable {X:a3} {body Az:List Stmt} {zb:Stmt} {x n:Str} {c:Addr} {i:Nat} {bK:(St->dZ)->dF} {jE:dF} {Vs ar pos:Pos}
theorem ale (ab:∀ aa E,iR (X.i0 aa (oH X aa E)) body (bK E)) (a5:j7 X x) (hm:X.mg x=some (.ref c)) (de:∀ e,iR (X.aY e) (zb :: Az) jE) (bf:X.N.Nodup) (ah:X.N[i]? = some n)
  (aA:X.env.scope.names.lookup n=some .local) (F:nj X:=by exact ⟨rfl,rfl⟩) (i6:(x == ("__debug__" : Str))=false:=by decide) :
  gJ X (.Try body [.ExceptHandler (some (.Name x Vs)) (some n) (zb :: Az) ar] [] [] pos) (G1 X.K c i bK jE):=by
 intro aa s σ H D J h;refine wpAny_Try_except (wpAny_mono (ab aa _ [] s σ H D (J.i0 _) h) (fun f s1 q=>?_) fun e s1 q=>?_)
 .have cW:=q.oG;cases f with
  | next=>exact wpAny_execs_nil cW
  | brk=>exact cW
  | cont=>exact cW
  | ret u=>exact cW
 .refine q.note F fun s2 dn=>dn.uJ F none fun s3 fJ=>?_
  obtain ⟨f_,H1,a,C,bk,T,rfl,bu,ei,iC,jb,cR,rG,uT,em,w⟩:=id fJ;cases uT;refine wpAny_handleBy_cons (codeAny_handlers_test (sa (bu.aY (.ref a)) a5 hm ?_ i6)) (fun z=>by cases z);have LT:Kk (model X.prog X.w) s3.heap (typeOf (.ref a)) (.ref C):=by
   obtain ⟨vs,bt,e⟩:=cR.pZ;exact (anR e).andThen .now
  refine (PySem.W.exm_one bu.fz LT em).here ?_;rw [if_pos rfl];refine codeAny_handlers_suite_as (fJ.uJ F none fun s4 v7=>?_)
  .obtain ⟨f_,H1,sm,C,bk,T,IG,ed,ei,iC,jb,cR,rG,uT,em,w⟩:=v7;cases uT;cases IG;refine At (X:=X.aY (.ref a)) (ed.aY (.ref a)) bf ah (.inl aA) (v:=.ref a) (u:=.ref a) rfl (fun s5 hB=>?_) (.inr aA);refine wpAny_mono (de (.ref a) aa s5 _ H1 (D.gone i) hB (w a ei)) (fun f s5 C8=>?_) fun _ _ z=>hP z
   cases f with
   | next=>obtain ⟨ax,I,bE,q⟩:=C8;exact Ad (bE.zq J.ok) bf ah aA fun h2 mY=>⟨_,_,mY,q⟩
   | brk=>obtain ⟨ax,I,bE,q⟩:=C8;exact Ad (bE.zq J.ok) bf ah aA fun h2 mY=>⟨_,_,mY,q⟩
   | cont=>obtain ⟨ax,I,bE,q⟩:=C8;exact Ad (bE.zq J.ok) bf ah aA fun h2 mY=>⟨_,_,mY,q⟩
   | ret u=>obtain ⟨v,ax,I,bE,r,q⟩:=C8;exact Ad (bE.zq J.ok) bf ah aA fun h2 mY=>⟨v,_,_,mY,r,q⟩
end
theorem XX {x n:Str} (ab:∀ aa E,∃ t,iR (X.i0 aa (oH X aa E)) body t/\t=bK E) (a5:j7 X x) (hm:X.mg x=some (.ref c))
  (de:∀ e,∃ t,iR (X.aY e) (zb :: Az) t/\t=jE) (bf:X.N.Nodup) (ah:X.N[i]? = some n) (aA:X.env.scope.names.lookup n=some .local) (F:nj X:=by exact ⟨rfl,rfl⟩)
  (i6:(x == ("__debug__" : Str))=false:=by decide):gJ X (.Try body [.ExceptHandler (some (.Name x Vs)) (some n) (zb :: Az) ar] [] [] pos) (G1 X.K c i bK jE):=
 ale (fun aa E=>by obtain ⟨t,h,rfl⟩:=ab aa E;exact h) a5 hm (fun e=>by obtain ⟨t,h,rfl⟩:=de e;exact h) bf ah aA F i6
theorem WC (K:a_):G1 K c i bK jE D σ H=bK (EA K c i jE D) D σ H:=rfl
theorem Vu (K:a_) :
  EA K c i jE D σ C bk H = ∃ rG,C=.ref rG/\JF K C (.ref c)=some true/\∀ x,H x=some (.ext (gI x rG bk))->jE (D.gone i) (σ.set i (some (.ref x))) H:=rfl
theorem NA (D:gO) (i:Nat) (σ:St) (H:au):(D.gone i).b2 σ H=D.b2 (σ.set i none) H:=rfl
theorem TM (D:gO) (i:Nat) (v:V) (H:au):(D.gone i).ku v H=D.ku v H:=rfl
theorem OwnTail.has {h:Heap} {bm cZ:List Value} (T:OwnTail h bm cZ) (e:bm.contains v=true):cZ.contains v=true:=by
 induction T with
 | base=>exact e
 | own _ _ _ _ b'=>rw [zi,b',CT]
noncomputable def G7 (K:a_) (E:St->dZ) (bJ:TE):dF:=fun D σ H=>bJ σ H fun v H1=>∃ x C bk,v=.ref x/\H1 x=some (.ext (fH x C bk))/\l0 K C/\E σ (.ref C) bk (upd H1 x (.ext (gI x C bk)))
theorem ahy {A:Around} {env:Env} {x:Sem Value} (de:A.handled=none)
  (h:wpAny M A x (fun v s1=>∃ e C bk vs bt nm q N bs bm Td sn sub nR col b7 jr bG cT dY ot newId,v=.ref e/\bm.contains (.type "BaseException")=true /\
   s1.heap.get? C=some (excClassObj nm q C N bs bm Td sn sub nR col b7 jr bG cT dY ot newId)/\s1.heap.get? e=some ⟨.ref C,bk,.fields vs,bt⟩/\vs[1]? = some .none/\E (.ref e) s1) E s) :
  wpAny M A (raiseStmt env (some x) none) Q E s:=by
 unfold raiseStmt;refine wpAny_bind (wpAny_mono h (fun v s1 af=>?_) fun _ _ x=>x);obtain ⟨e,C,bk,vs,bt,nm,q,N,bs,bm,Td,sn,sub,nR,col,b7,jr,bG,cT,dY,ot,newId,rfl,ab,cj,he,af,pY⟩:=af;have afc:(dz C :: bm).contains (.type "BaseException")=true:=by rw [zi,ab,CT]
 obtain ⟨ar,g,d,tk,os⟩:=s1
 repeat (first | with_reducible refine wpAny_loadPart_at he ?_ | with_reducible refine wpAny_loadPart_at cj ?_ | (with_reducible refine wpAny_isSubtype_exc cj ?_;rw [afc]) | (with_reducible refine wpAny_field he rfl af ?_) | wp_step)
 exact wpAny_raiseNew_none de pY
section
variable {X:a3} {e:Expr} {bJ:TE} {pos:Pos} {E:St->dZ}
theorem Zi (he:bp X e bJ) (et:KI X E) (av:X.calm=true:=by rfl):gJ X (.Raise (some e) none pos) (G7 X.K E bJ):=by
 intro aa s σ H D J h;rw [arm_exec_Raise];refine wpAny_bind (wpAny_standAt (ahy (J.ok.hd av) ?_));refine wpAny_bind (bA (he aa s σ H _ J h) fun u s1 ⟨v,H1,aN,r,x,C,bk,ev,ex,c,q⟩=>wpAny_bind (wpAny_standAt (wpAny_pure ?_)));subst ev;obtain rfl:u=dz x:=r;obtain ⟨vs,bt,ag,ez,d9⟩:=(show dy X.prog X.w H1 s1.heap x (.ext (fH x C bk)) from aN.a4 _ _ ex).1;obtain ⟨fI,D9⟩:=c.ex;obtain ⟨cZ,N,nm,cW,bs,sn,sub,nR,co,b7,jr,bG,cT,dY,ot,rr,cj,bf,ah,T⟩:=Mj aN.fz D9;exact ⟨x,C,bk,vs,bt,nm,cW,N,bs,cZ,true,sn,sub,nR,co,b7,jr,bG,cT,dY,ot,_,rfl,L2.OwnTail.has T (by decide),cj,ag,d9,et aa σ H1 s1 x C bk aN ex q⟩
theorem gJ.lD {st:Stmt} {t:dF} (h:gJ X.lD st t):gJ X st t:=fun aa s σ H D J hw=>
 wpAny_mono (h aa s σ H D (J.gU _) hw) (fun _ _ q=>q.kQ) fun _ _ z=>hP z
end
theorem b8.Hs {w:World} {K:a_} {mg:Str->Option Value} {base:Heap} {x qual:Str} {st:Stmt} {fd:FuncData} {N ps:List Str} {k:Nat} (F:b8 K x qual st f fd) (S:ck N ps (bz st))
  (len:∀ vs H Q E,sp vs H Q E->vs.length=ps.length)
  (nv:∀ (eP:Value) (A:Around) (outer:List Env) (s:Shared) (H:au) (vs:List V) (Q:cJ) (E:dZ),dX k (A.deeper (envOfC qual (bz st) s.heap.objs.size f eP))->sp vs H Q E ->
   ∃ t,iR ((mr (kz P w) P w K mg base N qual (bz st) f eP A outer s H E).gU (t9 (mr (kz P w) P w K mg base N qual (bz st) f eP A outer s H E) fun _=>E)) (p5 st) t/\t { b2:=fun _ I=>Q .bO I,ku:=Q } (start N vs) H):b_ P w K mg base (kz P w) (k + 1) f fd ps sp:=by
 obtain ⟨md,bk,cM,doc,pm,an,eP,eH,qf,rfl,lk,jG⟩:=F.ex;refine Mb lk jG S len fun A outer s H vs Q E ak mG=>?_
 obtain ⟨t,h,q⟩:=nv eP A outer s H vs Q E ak mG;exact ⟨t,fun aa s1 σ H1 D J hw=>wpAny_mono (h aa s1 σ H1 D (J.gU _) hw) (fun _ _ q=>q.kQ) fun _ _ z=>ah_ z,q⟩
def tV (B:a3) (E:dZ) (e:Value) (s':Shared):Prop:=
 ∃ aa cR ax I x C bk T,e=.ref x/\Inv B aa ax I s'/\I x=some (.ext (gI x C bk))/\I T=none/\v9 B aa T/\B.fv.heap.objs.size <= T/\kW x C bk T cR s'.heap/\E (.ref C) bk I
structure N5 (X:a3) (scope:Scope) (N:List Str) (df elt:Expr) (ifs:List Expr) (g:gH) (dk:TT) (bJ:dZ->TE):Prop where
 Se:∀ E C s H bI,mT ((X.block scope C N s H bI).gU (tV (X.block scope C N s H bI) E)) df g
 tests:∀ E C s H bI,s9 ((X.block scope C N s H bI).gU (tV (X.block scope C N s H bI) E)) ifs dk
 elem:∀ E C s H bI,bp ((X.block scope C N s H bI).gU (tV (X.block scope C N s H bI) E)) elt (bJ E)
theorem N5.of {N:List Str} (af:∀ E C s H bI,mT ((X.block scope C N s H bI).gU (tV (X.block scope C N s H bI) E)) df g)
  (aj:∀ E C s H bI,∃ t,s9 ((X.block scope C N s H bI).gU (tV (X.block scope C N s H bI) E)) ifs t/\t=dk) (a':∀ E C s H bI,∃ t,bp ((X.block scope C N s H bI).gU (tV (X.block scope C N s H bI) E)) elt t/\t=bJ E):N5 X scope N df elt ifs g dk bJ:=
 ⟨af,fun E C s H bI=>by obtain ⟨t,h,rfl⟩:=aj E C s H bI;exact h,fun E C s H bI=>by obtain ⟨t,h,e⟩:=a' E C s H bI;rw [<- e];exact h⟩
section
variable {X:a3} {elt df iter:Expr} {ifs:List Expr} {scope:Scope} {pos:Pos} {gC:TI} {g:gH} {dk:TT} {bJ:dZ->TE} {N:List Str} {sel:List (Option Nat)}
theorem kW.but {x C T c:Addr} {h h':Heap} (z:kW x C bk T cR h) (b9:x ≠ c) (cI:T ≠ c) (k:∀ b,b ≠ c->h'.get? b=h.get? b):kW x C bk T cR h':=by
 obtain ⟨ne,vs,bt,pJ,iv,he,af,et,hd,a'⟩:=z;exact ⟨ne,vs,bt,pJ,iv,(k _ b9).trans he,af,(k _ cI).trans et,hd,a'⟩
end
structure Qt (K:a_) (C:Addr):Prop where
 cl:gP K C
 aO:dm K (.ref C) "__class__"=some (some (.builtin "object.__class__"))
 aY:sP K (.builtin "object.__class__") "__get__"=some (some (.builtin "getset_descriptor.__get__"))
 zj:F9 K (.builtin "object.__class__")=some true
 hm:w8 K C (.type "object")=some true
theorem Qt.ty {K:a_} {aK:List (Str × V)} (c:Qt K C) (e:H a=some (.ins C ao aK)):mh K H (.ref a) (.ref C):=.ins e c.cl c.aO c.aY c.zj c.hm
end L2
namespace L2
open PySem PySem.Spec PyProof.Rows
section
variable {X:a3} {df:Expr}
end
section
variable {prog:Program} {w:World} {A:Around} {E:Value->Shared->Prop} {s:Shared} {it l:Addr} {items:Array Value}
end
section
variable {X:a3}
end
section
variable {prog:Program} {w:World} {A:Around} {R:Result->Shared->Prop} {J:Addr} {bI wr:List Addr} {n:Nat} {P:Nat->Value->Prop} {St:Nat->Heap->Prop}
end
section
variable {prog:Program} {w:World} {A:Around} {E:Value->Shared->Prop} {s:Shared}
end
section
variable {X:a3}
end
structure aoZ (K:a_) (C:Addr):Prop where
 x:l0 K C
 aO:dm K (.ref C) "__class__"=some (some (.builtin "object.__class__"))
 aY:sP K (.builtin "object.__class__") "__get__"=some (some (.builtin "getset_descriptor.__get__"))
 zj:F9 K (.builtin "object.__class__")=some true
 hm:w8 K C (.type "object")=some true
section
variable {prog:Program} {w:World} {A:Around} {E:Value->Shared->Prop} {s:Shared} {K:a_} {x C:Addr} {bk:Obj} {ao:Addr} {vs:Array Value} {bt:Array (Option Value)}
end
section
variable {X:a3}
end
theorem b_.quiet {w:World} {K:a_} {mg:Str->Option Value} {base:Heap} {k:Nat} {fd:FuncData} (F:b_ P w K mg base (kz P w) k f fd ps sp)
  (h:∀ vs H Q E,yx vs H Q E->sp vs H Q (fun _ _ _=>False)):b_ P w K mg base dr k f fd ps yx:=by
 refine ⟨fun vs H Q E q=>F.len vs H _ _ (h vs H Q E q),fun A outer s H args us vs Q E ak he ab aF ay=>?_⟩;refine codeAny_mono (F.run A outer s H args us vs Q _ ak he ab aF (h vs H Q E ay)) fun r s' aI=>?_
 cases r with
 | error e=>
  obtain ⟨x,C,bk,I,T,_,_,_,_,_,_,_,_,_,z⟩:=aI;exact z.elim
 | ok cR=>cases cR <;> exact aI
structure lr (k:Nat) (A:Around):Prop where
 ej:A.depth + 3 * k + 5 < recursionLimit
 un:A.units + 16 * k + 200 < cLine
theorem dX.h {k:Nat} {A:Around} (r:dX k A):lr k A:=⟨r.ej,r.un⟩
theorem lr.mono {j k:Nat} {A:Around} (r:lr k A) (h:j <= k):lr j A:=⟨by have:=r.ej;omega,by have:=r.un;omega⟩
theorem lr.deeper {k:Nat} {A:Around} (r:lr (k + 1) A) (env:Env):lr k (A.deeper env):=
 ⟨by have:=r.ej;show A.depth + 1 + 3 * k + 5 < _;omega,by have:=r.un;show A.units + 3 + 16 * k + 200 < _;omega⟩
theorem lr.depth {k:Nat} {A:Around} (r:lr k A):A.depth < recursionLimit:=by have:=r.ej;omega
theorem lr.units {k:Nat} {A:Around} (r:lr k A):A.units + 64 < cLine:=by have:=r.un;omega
theorem dX.aY {k:Nat} {X:a3} {e:Value} (r:dX k X.A):lr k (X.aY e).A:=⟨r.ej,r.un⟩
structure Fd (P:Program) (w:World) (K:a_) (mg:Str->Option Value) (base:Heap) (CX:jc) (k:Nat) (f:Addr) (fd:FuncData) (ps:List Str) (sp:bP):Prop where
 len:∀ vs H Q E,sp vs H Q E->vs.length=ps.length
 run:∀ (A:Around) (outer:List Env) (s:Shared) (H:au) (args:Args) (us:List Value) (vs:List V) (Q:cJ) (E:dZ),lr k A->mO P w K mg base A outer s H->BindsTo s fd args (ps.zip us)->bU vs us->sp vs H Q E ->
  codeAny (model P w) A (.call (.ref f) args) (J8 CX outer P w H s Q E) s
theorem Fd.mono {w:World} {K:a_} {mg:Str->Option Value} {base:Heap} {j k:Nat} {fd:FuncData} (F:Fd P w K mg base CX j f fd ps sp) (h:j <= k) :
  Fd P w K mg base CX k f fd ps sp:=⟨F.len,fun A outer s H args us vs Q E ak=>F.run A outer s H args us vs Q E (ak.mono h)⟩
section
variable {X:a3} {CX:jc} {k:Nat} {f C:Addr} {fd:FuncData} {ps:List Str} {sp:bP} {dvs:List V} {ds:List Value} {E:dZ} {x m:Str} {p pos eT:Pos} {e o:Expr} {aV:List Expr} {a7:TE} {t:e_}
end
noncomputable def aj1 (CX:jc) (P:Program) (w:World) (K:a_) (mg:Str->Option Value) (base:Heap) (N:List Str) (qual:Str) (scope:Scope) (f:Addr) (cd:Value) (A:Around) (outer:List Env) (s:Shared) (H:au) (E:dZ):a3 where
 prog:=P
 w:=w
 K:=K
 mg:=mg
 base:=base
 A:=A.deeper (envOfC qual scope s.heap.objs.size f cd)
 N:=N
 fv:=s
 q5:=H
 env:=envOfC qual scope s.heap.objs.size f cd
 outer:=outer
 stack:=envOfC qual scope s.heap.objs.size f cd :: outer
 ex:=[]
 calm:=false
 fn:=fun _=>true
 dN:=[]
 du:=fun e s'=>wpAny (model P w) (A.deeper (envOfC qual scope s.heap.objs.size f cd)) (leaving (envOfC qual scope s.heap.objs.size f cd) e) (fun _ sF=>CX outer H s E e sF) (fun bQ sF=>CX outer H s E bQ sF) s'
section
variable {P:Program} {w:World} {K:a_} {mg:Str->Option Value} {base:Heap}
end
section
variable {X:a3}
end
section
variable {α:Type} {M:List α->Prop}
theorem hQ (h:∀ a,M [a]):∀ us:List α,us.length=1->M us | [a],_=>h a
theorem g4 (h:∀ a b,M [a,b]):∀ us:List α,us.length=2->M us | [a,b],_=>h a b
theorem hX (h:∀ a b c,M [a,b,c]):∀ us:List α,us.length=3->M us | [a,b,c],_=>h a b c
theorem ag6 (h:∀ a b c d e,M [a,b,c,d,e]):∀ us:List α,us.length=5->M us | [a,b,c,d,e],_=>h a b c d e
theorem A2 (h:∀ a b c d e f g,M [a,b,c,d,e,f,g]):∀ us:List α,us.length=7->M us | [a,b,c,d,e,f,g],_=>h a b c d e f g
theorem adg (h:∀ a b c d e f g i,M [a,b,c,d,e,f,g,i]):∀ us:List α,us.length=8->M us | [a,b,c,d,e,f,g,i],_=>h a b c d e f g i
end
structure PD (K:a_) (C:Addr):Prop where
 hd:Aq K C=true
 d0:((abt K C).any fun cd=>wB cd.mro)=true
 aU:dm K (.ref C) "__setattr__"=some (some (.builtin "object.__setattr__"))
 ga:dm K (.ref C) "__getattribute__"=some (some (.builtin "BaseException.__getattribute__"))
 gt:dm K (.ref C) "__getattr__"=some none
theorem ag' {K:a_} (b:PD K C) (m:yw K C f):l0 K C:=⟨b.hd,b.d0,b.aU,b.ga,b.gt,_,m.e⟩
structure LU (K:a_) (C:Addr):Prop where
 aO:dm K (.ref C) "__class__"=some (some (.builtin "object.__class__"))
 aY:sP K (.builtin "object.__class__") "__get__"=some (some (.builtin "getset_descriptor.__get__"))
 zj:F9 K (.builtin "object.__class__")=some true
 hm:w8 K C (.type "object")=some true
theorem acw {K:a_} (i:GY K (.ref f)=true) (e:uu K C f=true) (k:qr K (.ref C)=true):yw K C f:=⟨e,beq_iff_eq.mp i,k⟩
theorem amH {cb:List Int}:∀ {a9:List Value},bU (cb.map V.int) a9->∃ xs:List (Int × Tok),a9=xs.map (fun p=>mN p.1 p.2)/\xs.map (·.1)=cb:=by
 induction cb with
 | nil=>intro a9 r;cases r;exact ⟨[],rfl,rfl⟩
 | cons k cb b'=>
  intro a9 r;cases r with
  | cons h t=>
   obtain ⟨xs,aq,aD⟩:=b' t;obtain ⟨tk,rfl⟩:=(show ∃ t,_=mN k t from h);exact ⟨(k,tk) :: xs,by rw [eN,<- aq],by rw [eN,aD]⟩
section
variable {X:a3}
theorem RV (av:X.calm=true):k7 X (.builtin "max") (fun xs H Q=>∃ l cb m,xs=[.ref l]/\aB X.K H l (qh V.int cb)/\(m ∈ cb/\∀ k ∈ cb,k <= m)/\Q (.int m) H):=by
 intro aa s σ H xs us Q J r h;obtain ⟨l,cb,m,rfl,aI,hm,q⟩:=h;obtain ⟨u,rfl,eo⟩:=kP r;cases eo;obtain ⟨a9,cG,pl,aJ⟩:=J.list aI;obtain ⟨xs,aq,aD⟩:=amH cG;have iQ:a9.toArray=intItems xs.toArray:=by rw [aq];unfold intItems;simp
 have Cq:s.heap.IsList l (intItems xs.toArray):=by rw [<- iQ];exact pl.isList
 have hn:xs.length=cb.length:=by rw [<- aD,a0]
 have bX:0 < xs.toArray.size:=by
  rw [el,hn];exact ajt hm.1
 refine max_intList (J.ok.hd av) Cq bX fun v h' tk aF aC=>⟨.int m,H,J.kept aC,?_,q⟩
 obtain ⟨e3,rfl⟩:=intItems_at aF;refine ⟨e3,?_⟩;have ab:=argBest_gt (numAt xs.toArray) (xs.toArray.size - 1);generalize argBest (fun i j=>decide (numAt xs.toArray i > numAt xs.toArray j)) (xs.toArray.size - 1)=j at ab ⊢;have aY:∀ i,i < cb.length->cb[i]? = some (numAt xs.toArray i):=fun i ah=>by
  rw [numAt_eq,iF];show cb[i]? = some (((xs.map (·.1))[i]?).getD 0);rw [aD,bc ah];rfl
 rw [el] at ab bX;have af:=hm.2 _ (cH (aY j (by omega)));obtain ⟨i,ah⟩:=iN hm.1;have iQ:i < cb.length:=(cv.mp ah).1;have aj:=ab.2 i (by omega);have a':m=numAt xs.toArray i:=dU (ah.symm.trans (aY i iQ));rw [show numAt xs.toArray j=m by omega]
end
noncomputable def y9 (p d:Addr):Heap->Prop:=fun h=>PySem.W.KdlKeysView h p d
noncomputable def Ks (p d:Addr):Heap->Prop:=fun h=>h.IsValuesView p d
theorem y9.ok {w:World} {h:Heap} {p d:Addr} (z:y9 p d h):dy P w H h p (.ext (y9 p d)):=
 ⟨z,let ⟨o,aQ,_⟩:=z;⟨o,aQ⟩,fun _ _ ez k=>let ⟨o,aQ,x⟩:=ez;⟨o,k o aQ,x⟩⟩
theorem Ks.ok {w:World} {h:Heap} {p d:Addr} (z:Ks p d h):dy P w H h p (.ext (Ks p d)):=
 ⟨z,let ⟨o,aQ,_⟩:=z;⟨o,aQ⟩,fun _ _ ez k=>let ⟨o,aQ,x⟩:=ez;⟨o,k o aQ,x⟩⟩
theorem UZ {w:World} {k:Key} (h:(gM P w).is k u=true):bD (cM k) u:=by
 rcases nD h with ⟨i,t,rfl,rfl⟩ | ⟨x,t,rfl,rfl⟩
 .exact ⟨t,rfl⟩
 .exact ⟨t,rfl⟩
theorem cr:∀ {l₁:List α} {l₂:List β},Paired F l₁ l₂->∀ {i:Nat} {b:β},l₂[i]? = some b->∃ a,l₁[i]? = some a/\F a b
 | [],[],_,i,b,h=>by simp at h
 | a :: l₁,c :: l₂,r,i,b,h=>by
  cases r with
  | cons f r=>
   cases i with
   | zero=>exact ⟨a,rfl,by rw [show b=c by simpa using h.symm];exact f⟩
   | succ i=>
    rw [x'] at h ⊢;exact cr r h
section
variable {X:a3}
noncomputable def pD:V->List V->au->cJ->Prop:=fun x vs H Q=>∃ d kvs,x=.ref d/\vs=[]/\H d=some (.bx kvs)/\∀ p,H p=none->Q (.ref p) (upd H p (.ext (y9 p d)))
end
noncomputable abbrev aal:=St->au->Str->(Str->au->Prop)->Prop
section
variable {X:a3} {e:Expr} {aV:List Expr} {t:aal} {bJ:TE} {pos:Pos}
end
noncomputable def GQ (p:Addr) (a b c:Int):Heap->Prop:=fun h=>∃ t u v,IsRange h p a b c t u v
theorem GQ.ok {w:World} {h:Heap} {p:Addr} (z:GQ p a b c h):dy P w H h p (.ext (GQ p a b c)):=
 ⟨z,let ⟨_,_,_,e⟩:=z;⟨_,e⟩,fun _ _ ez k=>let ⟨t,u,v,e⟩:=ez;⟨t,u,v,k _ e⟩⟩
section
variable {X:a3}
end
noncomputable def lM (f:Addr) (qual:Str) (params:Arguments) (body:Expr) (scope:Scope) (iK:List (Str × Addr)) (c':Addr):Heap->Prop:=
 fun h=>∃ pm j4,h.get? f=some (vB "<lambda>" qual params body scope iK pm c' j4)
noncomputable def mz (c:Addr) (qual:Str):Heap->Prop:=fun h=>h.CodeRec (.ref c) qual
def Tab (H:au) (Pt:Addr) (pos:Pos) (qual:Str):Prop:=
 ∃ ps,H Pt=some (.gF ps)/\(ps=#[]\/∃ c',ps=#[rawInt pos.line,rawInt pos.col,.ref c']/\H c'=some (.ext (mz c' qual)))
def lb (Pt:Addr) (H I:au):Prop:=∀ b o,b ≠ Pt->H b=some o->I b=some o
theorem lb.refl (Pt:Addr) (H:au):lb Pt H H:=fun _ _ _ h=>h
theorem lb.trans (a:lb Pt H H1) (b:lb Pt H1 aw):lb Pt H aw:=fun c o n h=>b c o n (a c o n h)
theorem aS.p (s:aS H I):lb Pt H I:=fun b o _ h=>s b o h
theorem Tab.ne (t:Tab H Pt pos qual) (h:H b=some o) (aQ:∀ ps,o ≠ .gF ps):b ≠ Pt:=fun e=>by
 obtain ⟨ps,aq,_⟩:=t;subst e;rw [aq] at h;exact aQ ps (dU h).symm
theorem Tab.step (t:Tab H Pt pos qual) (s:aS H I):Tab I Pt pos qual:=by
 obtain ⟨ps,e,d⟩:=t;refine ⟨ps,s _ _ e,?_⟩;rcases d with d | ⟨c',d,bQ⟩
 .exact .inl d
 .exact .inr ⟨c',d,s _ _ bQ⟩
theorem Q0 {w:World} {h:Heap}
  (e:h.get? f=some (vB "<lambda>" qual params body scope iK pm c' j4)):dy P w H h f (.ext (lM f qual params body scope iK c')):=
 ⟨⟨pm,j4,e⟩,⟨_,e⟩,fun _ _ ⟨p,c,aq⟩ k=>⟨p,c,k _ aq⟩⟩
theorem acq {w:World} {h:Heap} (e:h.CodeRec (.ref c) qual):dy P w H h c (.ext (mz c qual)):=by
 refine ⟨e,?_,fun af aj x k=>?_⟩
 .obtain ⟨cU,o,vs,t,aq,aD,_⟩:=e;cases aq;exact ⟨o,aD⟩
 .obtain ⟨cU,o,vs,t,aq,aD,bL,ek⟩:=x;cases aq;exact ⟨_,o,vs,t,rfl,k o aD,bL,ek⟩
structure Nl (X:a3) (c Pt:Addr):Prop where
 code:X.env.code=.ref c
 hd:mS X.base c Pt
 bm:X.base.BuiltinsAt X.mg Pt
theorem abF:TriplesOk [rawInt a,rawInt b,v]:=iu
theorem EQ:codeAmong pos [rawInt pos.line,rawInt pos.col,v]=some v:=by
 have:=codeAmong_snoc (pos:=pos) (c:=v) [] iu rfl;simpa using this
section
variable {X:a3} {aa:List (Addr × Obj)} {σ:St} {H:au} {s:Shared} {params:Arguments} {body:Expr} {scope:Scope} {pos:Pos} {c Pt:Addr} {iK:List (Str × Addr)} {Q:Value->Shared->Prop}
theorem WP (J:Inv X aa σ H s) (T:Nl X c Pt) (bK:Tab H Pt pos (X.env.qual ++ "<lambda>")) (pM:closureFor scope X.env=pure iK) (Ji:defaultsOf params X.env=([],[]))
  (h:∀ f c' H1 s1,Inv X aa σ H1 s1->lb Pt H H1->(aP H->aP H1)->Tab H1 Pt pos (X.env.qual ++ "<lambda>")->H1 f=some (.ext (lM f (X.env.qual ++ "<lambda>") params body scope iK c'))->H1 c'=some (.ext (mz c' (X.env.qual ++ "<lambda>")))->H f=none->Q (.ref f) s1) :
  wpAny (model X.prog X.w) X.A (eval (.Lambda params body scope pos) X.env) Q X.du s:=by
 refine PySem.W.kla_eval Ji ?_;obtain ⟨ps,ks,d⟩:=bK;have ct:s.heap.get? Pt=some (S_ ps):=J.a4 _ _ ks;have nr:s.heap.Ns mainGlobals X.mg:=J.mod.glob.keeps J.cA;have cj:=T.hd.keeps J.cA;have ai9:mainGlobals ≠ Pt:=fun q=>by
  obtain ⟨o,aV,ep,e,hd,_⟩:=nr;rw [q,ct] at e;cases e;cases hd
 have hg:s.heap.BuiltinsAt X.mg Pt:=by
  obtain ⟨bm,o,af,aj,a',c7,eM,il⟩:=T.bm;exact ⟨bm,o,af,aj,a',c7,J.cA _ _ eM,il⟩
 rcases d with rfl | ⟨c',rfl,kg⟩
 .refine PySem.W.kla_makeFunction (mg:=X.mg) pM J.ok.glob nr T.code cj ct iu rfl ai9 hg fun c' j4 h' tk ag CK dD XS Qm=>?_
  have DD:H c'=none:=J.a4.fresh CK;have f6:H h'.objs.size=none:=J.a4.fresh (cP CK (l3 dD));have ah6:c' ≠ h'.objs.size:=fR dD;have acn:Pt ≠ c':=fun z=>by rw [z,DD] at ks;cases ks
  have aeF:Pt ≠ h'.objs.size:=fun z=>by rw [z,f6] at ks;cases ks
  have put:∀ b o,b ≠ Pt->H b=some o->upd (upd (upd H Pt (.gF (#[] ++ #[rawInt pos.line,rawInt pos.col,.ref c']))) c' (.ext (mz c' (X.env.qual ++ "<lambda>")))) h'.objs.size (.ext (lM h'.objs.size (X.env.qual ++ "<lambda>") params body scope iK c')) b=some o:=fun b o n e=>by
   rw [aH (fun z=>by rw [z,f6] at e;cases e),aH (fun z=>by rw [z,DD] at e;cases e),aH n];exact e
  have DG:upd (upd (upd H Pt (.gF (#[] ++ #[rawInt pos.line,rawInt pos.col,.ref c']))) c' (.ext (mz c' (X.env.qual ++ "<lambda>")))) h'.objs.size (.ext (lM h'.objs.size (X.env.qual ++ "<lambda>") params body scope iK c')) Pt=some (.gF (#[] ++ #[rawInt pos.line,rawInt pos.col,.ref c'])):=by
   rw [aH aeF,aH acn,aX]
  have DL:upd (upd (upd H Pt (.gF (#[] ++ #[rawInt pos.line,rawInt pos.col,.ref c']))) c' (.ext (mz c' (X.env.qual ++ "<lambda>")))) h'.objs.size (.ext (lM h'.objs.size (X.env.qual ++ "<lambda>") params body scope iK c')) c'=some (.ext (mz c' (X.env.qual ++ "<lambda>"))):=by
   rw [aH ah6,aX]
  have Mw:upd (upd (upd H Pt (.gF (#[] ++ #[rawInt pos.line,rawInt pos.col,.ref c']))) c' (.ext (mz c' (X.env.qual ++ "<lambda>")))) h'.objs.size (.ext (lM h'.objs.size (X.env.qual ++ "<lambda>") params body scope iK c')) h'.objs.size=some (.ext (lM h'.objs.size (X.env.qual ++ "<lambda>") params body scope iK c')):=aX;have bO:∀ b,b ≠ Pt->b ≠ c'->b ≠ h'.objs.size->upd (upd (upd H Pt (.gF (#[] ++ #[rawInt pos.line,rawInt pos.col,.ref c']))) c' (.ext (mz c' (X.env.qual ++ "<lambda>")))) h'.objs.size (.ext (lM h'.objs.size (X.env.qual ++ "<lambda>") params body scope iK c')) b=H b:=fun b b9 cI dA=>by
   rw [aH dA,aH cI,aH b9]
  have jA:aP H->aP (upd (upd (upd H Pt (.gF (#[] ++ #[rawInt pos.line,rawInt pos.col,.ref c']))) c' (.ext (mz c' (X.env.qual ++ "<lambda>")))) h'.objs.size (.ext (lM h'.objs.size (X.env.qual ++ "<lambda>") params body scope iK c'))):=fun n=>n.upd.upd.upd
  generalize upd (upd (upd H Pt (.gF (#[] ++ #[rawInt pos.line,rawInt pos.col,.ref c']))) c' (.ext (mz c' (X.env.qual ++ "<lambda>")))) h'.objs.size (.ext (lM h'.objs.size (X.env.qual ++ "<lambda>") params body scope iK c'))=H1 at put DG DL Mw bO jA;have bH:∀ b o,b ≠ Pt->s.heap.get? b=some o->(h'.push (vB "<lambda>" (X.env.qual ++ "<lambda>") params body scope iK ((X.mg "__name__").getD .none) c' j4)).get? b=some o:=fun b o n e=>dE _ (ag b o n e)
  have Eu:∀ b,H b=none->b ≠ Pt:=fun b n z=>by rw [z,ks] at n;cases n
  have u:eJ X.aK [] H H1 s.heap (h'.push (vB "<lambda>" (X.env.qual ++ "<lambda>") params body scope iK ((X.mg "__name__").getD .none) c' j4)):=by
   refine ⟨fun b o e n _ _=>bH b o (Eu b n) e,fun b o e n _ _=>⟨o.slots,bH b o (Eu b n) e⟩,fun b o e n _=>?_,fun b o e _=>?_,fun b xs e=>put b _ (fun z=>by rw [z,ks] at e;cases e) e,fun b o x e=>put b _ (fun z=>by rw [z,ks] at e;cases e) e,fun b ps e=>?_⟩
   .have ab:=dJ e;rw [bO b (Eu b n) (fR (hp ab CK)) (fR (hp ab (cP CK (l3 dD))))];exact n
   .by_cases ab:b=Pt
    .subst ab;exact ⟨_,dE _ Qm⟩
    .exact ⟨o,bH b o ab e⟩
   .by_cases ab:b=Pt
    .subst ab;rw [ks] at e;cases e;exact ⟨_,DG⟩
    .exact ⟨#[],by rw [put b _ ab e];simp⟩
  have a4:eh X.prog X.w H1 (h'.push (vB "<lambda>" (X.env.qual ++ "<lambda>") params body scope iK ((X.mg "__name__").getD .none) c' j4)):=fun b o e=>by
   by_cases af:b=Pt
   .subst af;rw [DG] at e;cases e;exact dE _ Qm
   by_cases aj:b=c'
   .subst aj;rw [DL] at e;cases e;refine acq ?_;obtain ⟨cU,o,vs,t,aq,aD,bL⟩:=XS;exact ⟨cU,o,vs,t,aq,dE _ aD,bL⟩
   by_cases a':b=h'.objs.size
   .subst a';rw [Mw] at e;cases e;exact Q0 (hc _ rfl)
   rw [bO b af aj a'] at e;refine (J.a4 b o e).mF (fun d v hd q=>bH d v ?_ q) (fun d q=>put d _ (fun z=>by rw [z,ks] at q;cases q) q) fun d xs q=>put d _ (fun z=>by rw [z,ks] at q;cases q) q
   rcases hd with z | z
   .rw [z];exact af
   .intro d9;rw [d9,ks] at z;cases z
  exact h _ c' H1 _ (J.un (t':=tk) u a4) (fun b o n e=>put b o n e) jA ⟨_,DG,.inr ⟨c',by simp,DL⟩⟩ Mw DL f6
 .refine PySem.W.kla_makeFunctionHit (mg:=X.mg) pM J.ok.glob nr T.code cj ct abF EQ hg fun j4 h' tk aC hsz=>?_
  have f6:H h'.objs.size=none:=J.a4.fresh hsz;have aN:Inv X aa σ (upd H h'.objs.size (.ext (lM h'.objs.size (X.env.qual ++ "<lambda>") params body scope iK c'))) { s with heap:=h'.push (vB "<lambda>" (X.env.qual ++ "<lambda>") params body scope iK ((X.mg "__name__").getD .none) c' j4),toks:=tk }:=
   J.laid (t':=tk) (fun b o e=>dE _ (aC b o e)) hsz (Q0 (hc _ rfl))
  have bR:=bq (o:=.ext (lM h'.objs.size (X.env.qual ++ "<lambda>") params body scope iK c')) f6;exact h _ c' _ _ aN bR.p (fun n=>n.upd) ⟨_,bR _ _ ks,.inr ⟨c',rfl,bR _ _ kg⟩⟩ aX (bR _ _ kg) f6
end
section
variable {P:Program} {w:World} {K:a_} {mg:Str->Option Value} {base:Heap}
end
structure aoo (p y:Str) (sc:Scope):Prop where
 kind:sc.kind=.function
 co:sc.isCoroutine=false
 gen:sc.isGenerator=false
 ne:p ≠ y
 par:sc.names.lookup p=some .local
 MS:sc.names.lookup y=some .free
 uy:∀ z ∈ sc.names,z.2 ≠ .cell
 one:∀ z ∈ sc.names,z.2=.free->z.1=y
section
variable {X:a3} {aa:List (Addr × Obj)} {σ:St} {H:au} {s:Shared} {k:Nat} {f c' cl:Addr} {q p y:Str} {params:Arguments} {body:Expr} {scope:Scope} {v:V} {t:TE}
end
noncomputable def acg:Expr->Scope
 | .Lambda _ _ s _=>s
 | _=>{ kind:=.function,names:=[],isGenerator:=false,isCoroutine:=false }
noncomputable def aaz:Expr->Pos
 | .Lambda _ _ _ p=>p
 | _=>⟨0,0,0,0⟩
def AL (Pt:Addr) (H:au):Prop:=H Pt=some (.gF #[])/\∀ b,H b=none\/b=Pt\/∃ o xs,H b=some (.d6 o (.lst xs))
theorem Sc.Xn {K:a_} {ns:List Int} (lz:AL Pt H) (dM:aB K H a (ns.map V.int)):Sc K a ns H:=by
 refine ⟨?_,fun b u e=>?_⟩
 .rcases dM with (h | ⟨o,h⟩) | h
  .rcases lz.2 a with z | z | ⟨bV,xs,z⟩
   .rw [h] at z;cases z
   .rw [z,lz.1] at h;cases h
   .rw [h] at z;cases z
  .exact .inl ⟨o,h⟩
  .exact .inr h
 .rcases lz.2 b with z | z | ⟨o,xs,z⟩
  .rw [e] at z;cases z
  .rw [z,lz.1] at e;cases e;rfl
  .rw [e] at z;cases z;rfl
theorem aga {w:World} {K:a_} {mg mx:Str->Option Value} {k:Nat} {fd:FuncData} {x:Str} {ns:List Int}
  (e1:K.In dd.heap) (fl:alI K=true) (nr:dd.heap.Ns mainGlobals mg) (ab:dd.heap.Ns builtinsNs mx) (qc:∀ x:Str,x ≠ "__name__" -> mx x=bootBuiltins x) (aag:dd.heap.NoLimit) (a5:dd.gens=#[])
  (aaZ:∃ bm bV,mg "__builtins__"=some (.ref bm)/\bm ≠ builtinsNs/\dd.heap.get? bm=some bV/\bV.cls=.type "module" /\ bV.dict=some builtinsNs/\bV.data=.plain)
  (cj:mS dd.heap c Pt) (ct:dd.heap.get? Pt=some (S_ #[]))
  (aO:dd.heap.get? a=some { cls:=.type "list",data:=.seq vs.toArray }) (ah:IntsAre vs ns) (aA:ns.length <= sizeLine) (ak:dX k callerA)
  (F:∀ base:Heap,K.In base->base.Ns mainGlobals mg->mS base c Pt->base.BuiltinsAt mg Pt->b_ P w K mg base CX k gd fd [x] sp) (ak7:∀ (s:Shared) (u:Value),BindsTo s fd ⟨[u],[]⟩ [(x,u)])
  (mG:∀ H:au,AL Pt H->aB K H a (ns.map V.int)->sp [.ref a] H (fun v _=>v=.bo true) fun _ _ _=>False)
  (FL:∀ H e s',CX [] H dd (fun _ _ _=>False) e s'->False) :
  codeAny (model P w) callerA (.call (.ref gd) ⟨[.ref a],[]⟩) (fun r s'=>r=.ok (.ret (.bool true))/\OldK dd.heap s'.heap/\s'.os=dd.os/\AllBare s'.gens) dd:=by
 have cG:=Po ah;have WR:=ah.length;have TL:Pt ≠ a:=fun z=>by rw [z,aO] at ct;cases ct
 have XN:∀ o,K.lookup Pt=some o->False:=fun o e=>by
  have aq:=e1 _ _ e;rw [ct] at aq;cases aq;have:=nX.mp fl _ (PySem.W.mem_of_lookupK e);exact absurd (show false=true from this) fK
 have core:∀ H:au,AL Pt H->aB K H a (ns.map V.int)->eh P w H dd.heap->(∀ b,H b ≠ none->b=Pt\/b=a)->(H a ≠ none->K.lookup a=none) ->
   codeAny (model P w) callerA (.call (.ref gd) ⟨[.ref a],[]⟩) (fun r s'=>r=.ok (.ret (.bool true))/\OldK dd.heap s'.heap/\s'.os=dd.os/\AllBare s'.gens) dd:=by
  intro H lz dM a4 hN Z0;have V5:∀ {b:Addr} {o:Obj},dd.heap.get? b=some o->o.cls ≠ .none->(∀ a9 n,o.data ≠ .seq a9 n)->(nL dd.heap H).get? b=some o:=fun {b o} e af aj=>by
   refine Jg e ?_;cases q:H b with
   | none=>rfl
   | some u=>
    rcases hN b (by rw [q];simp) with z | z
    .subst z;rw [ct] at e;cases e;exact absurd rfl af
    .subst z;rw [aO] at e;cases e;exact absurd rfl (aj _ _)
  have AS:∀ {b:Addr} {m:Str->Option Value},dd.heap.Ns b m->(nL dd.heap H).Ns b m:=fun {b m} ⟨o,aV,ep,e,d,r⟩=>⟨o,aV,ep,(by
   refine Jg e ?_;cases q:H b with
   | none=>rfl
   | some u=>
    rcases hN b (by rw [q];simp) with z | z
    .subst z;rw [ct] at e;cases e;cases d
    .subst z;rw [aO] at e;cases e;cases d),d,r⟩
  have VN:K.In (nL dd.heap H):=fun b o e=>Jg (e1 b o e) (by
   cases q:H b with
   | none=>rfl
   | some u=>
    rcases hN b (by rw [q];simp) with z | z
    .subst z;exact (XN o e).elim
    .subst z;rw [Z0 (by rw [q];simp)] at e;cases e)
  have WU:Mod K mg (nL dd.heap H):=⟨VN,AS nr,⟨mx,AS ab,qc⟩,let ⟨ahw,af,aj⟩:=aag;⟨ahw,AS af,aj⟩⟩;have acD:mS (nL dd.heap H) c Pt:=by
   obtain ⟨o,abj,file,ab8,flags,df,abc,text,tt,aq,aD,bL,r⟩:=cj;exact ⟨o,abj,file,ab8,flags,df,abc,text,tt,V5 aq (by rw [aD];intro z;cases z) (fun _ _ z=>by rw [bL] at z;cases z),aD,bL,r⟩
  have agL:(nL dd.heap H).BuiltinsAt mg Pt:=by
   obtain ⟨bm,bV,af,aj,a',c7,eM,il⟩:=aaZ;refine ⟨bm,bV,af,aj,fun z=>?_,fun z=>?_,V5 a' (by rw [c7];intro z;cases z) (fun _ _ z=>by rw [il] at z;cases z),c7,eM,il⟩
   .obtain ⟨o,aV,ep,e,d,_⟩:=nr;rw [z,e] at a';cases a';rw [d] at il;cases il
   .rw [z,ct] at a';cases a';cases c7
  have fD:mO P w K mg (nL dd.heap H) callerA [] dd H:=⟨rfl,WU,fun b o e=>ajQ e,AV (aay _ _),trivial,fun b ab=>absurd (show b ∈ ([]:List Addr) from ab) (by simp),a4,.of_eq a5⟩;refine codeAny_mono ((F _ VN (AS nr) acD agL).run callerA [] dd H ⟨[.ref a],[]⟩ [.ref a] [.ref a] _ _ ak fD (ak7 dd (.ref a)) (.cons rfl .nil) (mG H lz dM)) fun r s' h=>?_
  cases r with
  | error e=>exact (FL H e s' h).elim
  | ok cR=>
   cases cR with
   | next=>exact hP h
   | brk=>exact hP h
   | cont=>exact hP h
   | ret u=>
    obtain ⟨v,I,os,bare,un,MM,cV,q⟩:=h;have cW:v=.bo true:=q;subst cW;obtain rfl:u=jz true:=cV;obtain ⟨more,ks⟩:=un.jU Pt _ lz.1;have Sj:s'.heap.get? Pt=some { cls:=.none,data:=.fields (#[] ++ more) }:=MM _ _ ks;have bH:∀ b o,b ≠ Pt->dd.heap.get? b=some o->s'.heap.get? b=some o:=fun b o nb e=>by
     rcases lz.2 b with z | z | ⟨bV,xs,z⟩
     .exact un.keep b o e z (by intro z;exact absurd (show b ∈ ([]:List Addr) from z) (by simp)) (by simp)
     .exact absurd z nb
     .have d9:=un.jo b bV _ z;obtain ⟨aq,_⟩:=a4 b _ z;obtain ⟨aD,_⟩:=MM b _ d9;rw [e] at aq;cases aq;exact aD
    refine ⟨rfl,⟨fun b o e=>?_,fun b o e=>?_⟩,os,bare⟩
    .by_cases yu:b=Pt
     .subst yu;rw [ct] at e;cases e;exact .inr (.inl ⟨(cj.tab ct).isCodeTable,rfl,#[],more,rfl,Sj⟩)
     .exact .inl (bH b o yu e)
    .by_cases yu:b=Pt
     .subst yu;exact ⟨_,Sj⟩
     .exact ⟨o,bH b o yu e⟩
 have PK:∀ H:au,dy P w H dd.heap Pt (.gF #[]):=fun _=>ct
 cases aC:K.lookup a with
 | some o=>
  have e:=e1 a o aC;rw [aO] at e;cases e;refine core (fun b=>if b=Pt then some (.gF #[]) else none) ⟨if_pos rfl,fun b=>?_⟩ (.inr ⟨_,vs.toArray,_,aC,rfl,rfl,rfl,by rw [el,WR];exact aA,by simpa using cG⟩) (fun b u z=>?_) (fun b z=>?_) fun z=>absurd (if_neg (dg TL)) z
  .by_cases ab:b=Pt
   .exact .inr (.inl ab)
   .exact .inl (if_neg ab)
  .by_cases ab:b=Pt
   .have hv:=(if_pos ab).symm.trans z;cases hv;subst ab;exact PK _
   .have hv:=(if_neg ab).symm.trans z;cases hv
  .by_cases ab:b=Pt
   .exact .inl ab
   .exact absurd (if_neg ab) z
 | none=>
  have ei:(fun b=>if b=Pt then some (e2.gF #[]) else if b=a then some (.d6 { cls:=.type "list",data:=.seq vs.toArray } (.lst (ns.map V.int))) else none) a=some (.d6 { cls:=.type "list",data:=.seq vs.toArray } (.lst (ns.map V.int))):=by
   show (if a=Pt then _ else if a=a then _ else _)=_;rw [if_neg (dg TL),if_pos rfl]
  refine core (fun b=>if b=Pt then some (.gF #[]) else if b=a then some (.d6 { cls:=.type "list",data:=.seq vs.toArray } (.lst (ns.map V.int))) else none) ⟨if_pos rfl,fun b=>?_⟩ (.inl (.inr ⟨_,ei⟩)) (fun b u z=>?_) (fun b z=>?_) fun _=>aC
  .by_cases ab:b=Pt
   .exact .inr (.inl ab)
   .by_cases i':b=a
    .exact .inr (.inr ⟨_,_,by rw [i'];exact ei⟩)
    .exact .inl ((if_neg ab).trans (if_neg i'))
  .by_cases ab:b=Pt
   .have hv:=(if_pos ab).symm.trans z;cases hv;subst ab;exact PK _
   .by_cases i':b=a
    .subst i';rw [ei] at z;cases z;exact ⟨aO,by rw [a0];exact aA,vs,_,cG,aO⟩
    .have hv:=((if_neg ab).trans (if_neg i')).symm.trans z;cases hv
  .by_cases ab:b=Pt
   .exact .inl ab
   .by_cases i':b=a
    .exact .inr i'
    .exact absurd ((if_neg ab).trans (if_neg i')) z
section
variable {P:Program} {w:World} {A:Around} {E:Value->Shared->Prop} {s:Shared}
structure sg (h:Heap) (d:Addr) (o:Obj) (aV:Array DictEntry) (ep:Nat):Prop where
 at_:h.get? d=some o
 ex:o.ExactDict
 dat:o.data=.dict aV ep
theorem Qj (r:sg s.heap d o aV ep):s.TypeIs (.ref d) "dict" := ⟨o,r.at_,r.ex.1⟩
theorem aid (hd:(d == sysModules)=false) (r:sg s.heap d o aV ep)
  (a8:Q (.ref s.heap.objs.size) { s with heap:=s.heap.push { cls:=.type "dict_keyiterator",data:=.fields #[.ref d,.int 0 0,.int aV.size 0,.int ep 0] } }) :
  wpAny (model P w) A (pyIter (.ref d)) Q E s:=by
 have et:=Qj r;refine wpAny_pyIter_slot et X5 (wpAny_call_entry X5 et F.entry_dict_iter ?_ (F.args_dict_iter_1 _));unfold Builtin.«dict.__iter__» aoQ;refine wpAny_bind (wpAny_bind (wpAny_notOrdered_dict et (wpAny_pure ?_)));show wpAny _ _ (al' d >>= _) _ _ s;unfold al';rw [if_neg (by rw [hd];exact fK)];refine wpAny_bind (wpAny_pure (wpAny_bind (wpAny_dictEntries r.at_ r.dat (wpAny_bind (wpAny_dictEpoch r.at_ r.dat ?_)))));refine wpAny_bind (wpAny_newObj_type (wpAny_pure ⟨_,rfl,"dict_keyiterator",_,⟨_,hc _ rfl,rfl⟩,CY.lookup,?_⟩));simpa [rawInt] using a8
theorem aiL {it d:Addr} {e:DictEntry} (hit:s.heap.IsKeyIter it d i aV.size ep) (r:sg s.heap d o aV ep) (ag:aV[i]? = some e)
  (a8:∀ h',h'.IsKeyIter it d (i + 1) aV.size ep->t_ it s.heap h'->Q (some e.key) { s with heap:=h' }):wpAny (model P w) A (pyNext (.ref it)) Q E s:=by
 obtain ⟨ahj,aQ,av,hd⟩:=id hit;have Fn:afh "dict_keyiterator"=false:=by decide
 have dD:i < aV.size:=by
  rcases EM i aV.size with h | h
  .exact h
  .rw [Xk h] at ag;cases ag
 unfold pyNext;refine wpAny_bind (wpAny_attempt (wpAny_callSpecial?_slot (name:=ae "__next__") hit.typeIs CY
  (wpAny_call_entry CY hit.typeIs Zg ?_ (acR _))))
 refine wpAny_bind (wpAny_pure (wpAny_bind (wpAny_bind ?_)))
 first | refine wpAny_bind (wpAny_typeNameOfWhole_keyiter hit.typeIs (wpAny_pure ?_)) | refine wpAny_bind (wpAny_typeNameOf_keyiter hit.typeIs (wpAny_pure ?_))
 refine wpAny_bind (wpAny_fieldsOf aQ hd ?_);simp only [Fn,Eg,if_false];show wpAny _ _ (if (dz d == ic)=true then _ else _) _ _ s;rw [if_neg (show ¬ ((dz d == ic)=true) from fK)];refine wpAny_bind (wpAny_pure (wpAny_bind (wpAny_dictEntries r.at_ r.dat ?_)));rw [if_neg (by simp)];refine wpAny_bind (wpAny_pure (wpAny_bind (wpAny_dictEpoch r.at_ r.dat ?_)));rw [if_neg (by simp)];refine wpAny_pure ?_;simp only [show ¬ ((i:Int) < 0) from by omega,if_false,qp,ag];refine wpAny_bind ?_
 first | refine wpAny_bind (wpAny_typeNameOfWhole_keyiter hit.typeIs (wpAny_pure ?_)) | refine wpAny_bind (wpAny_typeNameOf_keyiter hit.typeIs (wpAny_pure ?_))
 refine wpAny_bind (wpAny_isOneOf_keyiter hit.typeIs ?_);show wpAny _ _ (setField (.ref it) 1 (rawInt ((i:Int) + 1)) >>= _) _ _ s;refine wpAny_bind (wpAny_setField aQ hd (by simp) ?_);have Ws:(s.heap.update it (oC (·.setIfInBounds 1 (rawInt ((i:Int) + 1))))).IsKeyIter it d (i + 1) aV.size ep:=
  ⟨_,rL _ aQ (Om (y6 hd _)),(Obj.cls_mapFields ..).trans av,by rw [y6 hd];simp [rawInt]⟩
 refine wpAny_bind (wpAny_holding (wpAny_bind (wpAny_isOneOf_keyiter (s:={ s with heap:=s.heap.update it (oC (·.setIfInBounds 1 (rawInt ((i:Int) + 1)))) }) Ws.typeIs ?_)));show wpAny _ _ (pure e.key) _ _ _;exact wpAny_pure (wpAny_pure ⟨_,rfl,wpAny_pure (a8 _ Ws (ak9 ..))⟩)
theorem alu {it d:Addr} (de:A.handled=none) (hit:s.heap.IsKeyIter it d i aV.size ep) (r:sg s.heap d o aV ep) (ag:aV.size <= i)
  (a8:∀ h',Heap.ExtBut it s.heap h'->Q none { s with heap:=h' }):wpAny (model P w) A (pyNext (.ref it)) Q E s:=by
 obtain ⟨ahj,aQ,av,hd⟩:=id hit;have Fn:afh "dict_keyiterator"=false:=by decide
 unfold pyNext;refine wpAny_bind (wpAny_attempt (wpAny_callSpecial?_slot (name:=ae "__next__") hit.typeIs CY
  (wpAny_call_entry CY hit.typeIs Zg ?_ (acR _))))
 refine wpAny_bind (wpAny_pure (wpAny_bind (wpAny_bind ?_)))
 first | refine wpAny_bind (wpAny_typeNameOfWhole_keyiter hit.typeIs (wpAny_pure ?_)) | refine wpAny_bind (wpAny_typeNameOf_keyiter hit.typeIs (wpAny_pure ?_))
 refine wpAny_bind (wpAny_fieldsOf aQ hd ?_);simp only [Fn,Eg,if_false];show wpAny _ _ (if (dz d == ic)=true then _ else _) _ _ s;rw [if_neg (show ¬ ((dz d == ic)=true) from fK)];refine wpAny_bind (wpAny_pure (wpAny_bind (wpAny_dictEntries r.at_ r.dat ?_)));rw [if_neg (by simp)];refine wpAny_bind (wpAny_pure (wpAny_bind (wpAny_dictEpoch r.at_ r.dat ?_)));rw [if_neg (by simp)];refine wpAny_pure ?_;simp only [show ¬ ((i:Int) < 0) from by omega,if_false,qp,Xk ag];refine wpAny_bind ?_
 first | refine wpAny_bind (wpAny_typeNameOfWhole_keyiter hit.typeIs (wpAny_pure ?_)) | refine wpAny_bind (wpAny_typeNameOf_keyiter hit.typeIs (wpAny_pure ?_))
 show wpAny _ _ (setField (.ref it) 0 .none >>= _) _ _ s;refine wpAny_bind (wpAny_setField aQ hd (by simp) ?_);show wpAny _ _ (newExc (.type "StopIteration") [] >>= _) _ _ _;refine wpAny_bind ?_;simp only [newExc,newTuple];refine wpAny_bind (wpAny_newObj_type ?_ (by size_fits));refine wpAny_bind (m:=firstArgMember _ _) (wpAny_of_eq (a:=ic) (by first | rfl | (simp only [firstArgMember];rfl)) ?_);refine wpAny_newObj_type ?_ (by size_fits);simp only [raiseNew];refine wpAny_bind (wpAny_handled ?_);rw [show A.in1.handled=none from de];refine wpAny_bind (wpAny_pure (wpAny_throw ?_));refine wpAny_bind (wpAny_isInstance (T := "StopIteration") (b:=true) ⟨_,hc _ rfl,rfl⟩ isSubtype_stop ?_);exact wpAny_pure (a8 _ (((ak9 ..).extBut.push _).push _))
end
noncomputable def nZ (a:Addr) (o:Obj):Heap->Prop:=fun h=>h.get? a=some o
structure UC (P:Program) (w:World) (H:au) (a:Addr) (kvs:List (List Key × V)) (o:Obj) (aV:Array DictEntry) (ep:Nat) (xs:List (List Key × Addr × Value)):Prop where
 at_:H a=some (.ext (nZ a o))
 ex:o.ExactDict
 dat:o.data=.dict aV ep
 ent:aV.toList=xs.map (entryOfKey (tupleKind (gM P w)))
 aG:(xs.map (·.1)).Nodup
 cb:Paired (fun (p:List Key × V) (q:List Key × Addr × Value)=>p.1=q.1/\H q.2.1=some (.tup (p.1.map cM))/\bD p.2 q.2.2) kvs xs
 kO:kvs.length <= sizeLine
 ns:(a == sysModules)=false
def iI (P:Program) (w:World) (H:au) (a:Addr) (kvs:List (List Key × V)):Prop:=∃ o aV ep xs,UC P w H a kvs o aV ep xs
section
variable {P:Program} {w:World} {H I:au} {h:Heap} {a:Addr} {kvs:List (List Key × V)}
theorem IZ (d:iI P w H a kvs) (s:aS H I):iI P w I a kvs:=by
 obtain ⟨o,aV,ep,xs,r⟩:=d;exact ⟨o,aV,ep,xs,s _ _ r.at_,r.ex,r.dat,r.ent,r.aG,Paired.p7 r.cb fun p q z=>⟨z.1,s _ _ z.2.1,z.2.2⟩,r.kO,r.ns⟩
theorem Xs {p:Addr} (d:iI P w H a kvs) (ar:p ≠ a) (cK:∀ xs,H p ≠ some (.tup xs)):iI P w (upd H p u) a kvs:=by
 obtain ⟨o,aV,ep,xs,r⟩:=d;exact ⟨o,aV,ep,xs,by rw [aH (dg ar)];exact r.at_,r.ex,r.dat,r.ent,r.aG,Paired.p7 r.cb fun q cW z=>⟨z.1,by rw [aH (fun e=>cK _ (e ▸ z.2.1))];exact z.2.1,z.2.2⟩,r.kO,r.ns⟩
theorem PB (ok:eh P w H h) (r:UC P w H a kvs o aV ep xs):sg h a o aV ep:=
 ⟨(ok a _ r.at_).1,r.ex,r.dat⟩
theorem Q_ (ok:eh P w H h) (d:iI P w H a kvs):l8 (H a)/\(∃ u,h.get? a=some u)/\dy P w (upd H a (.f9 kvs)) h a (.f9 kvs):=by
 obtain ⟨o,aV,ep,xs,r⟩:=d;have e:=(PB ok r).at_;refine ⟨by rw [r.at_];exact iu,⟨o,e⟩,r.kO,r.ns,xs,Paired.p7 r.cb fun q cW z=>⟨z.1,?_,z.2.2⟩,o,aV,ep,e,r.ex,r.dat,r.ent,r.aG⟩;rw [aH (fun e=>by have:=z.2.1;rw [e,r.at_] at this;cases this)];exact z.2.1
theorem adL (ok:eh P w H h) (d:iI P w H a kvs):eh P w (upd H a (.f9 kvs)) h:=
 have z:=Q_ ok d
 ok.write z.1 (.inl rfl) (fun _ _ _ q=>q) z.2.1 z.2.2
theorem ad0 (d:iI P w H a kvs) (e:H b=some (.tup xs)):b ≠ a:=fun z=>by
 obtain ⟨o,aV,ep,ys,r⟩:=d;have:=r.at_;rw [<- z,e] at this;cases this
end
section
variable {X:a3} {aa:List (Addr × Obj)} {σ:St} {H:au} {s:Shared} {a b:Addr} {kvs:List (List Key × V)} {k:List Key} {v:V} {r:Value} {A:Around} {E:Value->Shared->Prop}
theorem Gl (J:Inv X aa σ H s) (fe:l8 (H a)) (ex:∃ u,s.heap.get? a=some u) (new:dy X.prog X.w (upd H a dx) s.heap a dx):Inv X aa σ (upd H a dx) s:=
 J.un (t':=s.toks) (h':=s.heap) (eJ.write fe (.inl rfl) (fun _ _ _ q=>q) ex) (J.a4.write fe (.inl rfl) (fun _ _ _ q=>q) ex new)
theorem akm (J:Inv X aa σ H s) (d:iI X.prog X.w H a kvs):Inv X aa σ (upd H a (.f9 kvs)) s:=
 have z:=Q_ J.a4 d
 Gl J z.1 z.2.1 z.2.2
theorem SP (J:Inv X aa σ H s) (e:H a=some (.f9 kvs)):∃ o,Inv X aa σ (upd H a (.ext (nZ a o))) s/\iI X.prog X.w (upd H a (.ext (nZ a o))) a kvs:=by
 obtain ⟨z,y,xs,r,o,aV,ep,af,aj,a',c7,eM⟩:=(show dy X.prog X.w H s.heap a (.f9 kvs) from J.a4 a _ e);refine ⟨o,Gl J (by rw [e];exact iu) ⟨o,af⟩ ⟨af,⟨o,af⟩,fun _ _ q k=>k o q⟩,o,aV,ep,xs,aX ..,aj,a',c7,eM,Paired.p7 r fun p q z=>⟨z.1,?_,z.2.2⟩,z,y⟩;rw [aH (fun q=>by have:=z.2.1;rw [q,e] at this;cases this)];exact z.2.1
theorem WS (br:A.units + 1 < cLine) (J:Inv X aa σ H s) (d:iI X.prog X.w H a kvs) (eO:H b=some (.tup (k.map cM))) (l:cY kvs k=some v) (h:∀ d8 s',Inv X aa σ H s'->bD v d8->Q d8 s') :
  wpAny (model X.prog X.w) A (getItem (.ref a) (.ref b)) Q E s:=by
 obtain ⟨z,hd,xs,rel,b7⟩:=Mx (adL J.a4 d) (aX ..);obtain ⟨d8,hw,h9⟩:=hr.some_of (v:=v) (o:=(atKey xs k).map (·.2)) (by rw [<- l];exact rel.val k);obtain ⟨p,ar,gB⟩:=vf.mp hw;refine wpAny_getItem_heap (tupleKind_room_in1 br) (s7 J.a4 eO) b7 ar ?_;rw [gB];exact h d8 _ (J.tok _) h9
theorem afR (br:A.units + 1 < cLine) (J:Inv X aa σ H s) (d:iI X.prog X.w H a kvs) (eO:H b=some (.tup (k.map cM))) (aA:kvs.length < sizeLine) (cG:bD v r)
  (h:∀ o s',Inv X aa σ (upd H a (.ext (nZ a o))) s'->iI X.prog X.w (upd H a (.ext (nZ a o))) a (eb kvs k v)->Q () s'):wpAny (model X.prog X.w) A (setItem (.ref a) (.ref b) r) Q E s:=by
 refine NJ br (akm J d) (kf.t (aX ..) (by rw [aH (ad0 d eO)];exact eO) aA) (show bD (.ref b) (.ref b) from rfl) cG fun s' gT=>?_
 rw [No] at gT;obtain ⟨o,bu,e'⟩:=SP gT (aX ..);rw [No] at bu e';exact h o s' bu e'
end
noncomputable def GJ (P:Program) (w:World) (fg ty:TE):TE:=fun σ H Q=>fg σ H fun x H1=>ty σ H1 fun y aw=>∃ a b kvs k v,x=.ref a/\y=.ref b/\iI P w aw a kvs/\aw b=some (.tup (k.map cM))/\cY kvs k=some v/\Q v aw
noncomputable def EG (P:Program) (w:World) (fg ty e3:TE):dF:=fun D σ H=>e3 σ H fun v H1=>fg σ H1 fun x aw=>ty σ aw fun y bw=>∃ a b kvs k,x=.ref a/\y=.ref b/\iI P w bw a kvs/\bw b=some (.tup (k.map cM))/\kvs.length < sizeLine/\∀ o,iI P w (upd bw a (.ext (nZ a o))) a (eb kvs k v)->D.b2 σ (upd bw a (.ext (nZ a o)))
noncomputable def Fl (P:Program) (w:World):TE:=fun _ H Q=>∀ p o,H p=none->iI P w (upd H p (.ext (nZ p o))) p []->Q (.ref p) (upd H p (.ext (nZ p o)))
section
variable {X:a3} {o i e value:Expr} {pos pos' vT:Pos} {fg ty e3:TE}
theorem ae0 (br:X.A.units + 1 < cLine) (aQ:bp X o fg) (ah:bp X i ty) (ay:G4 i):bp X (.Subscript o i pos) (GJ X.prog X.w fg ty):=by
 intro aa s σ H Q J h;refine V9 acF.lookup ay (bA (aQ aa s σ H _ J h) fun u s1 b4=>ea b4 fun x H1 aN bb bS=>bA (ah aa s1 σ H1 _ aN bS) fun ma s2 cF=>?_);obtain ⟨y,aw,bu,bg,a,b,kvs,k,v,ex,h6,d,eO,l,dn⟩:=cF;subst ex h6;obtain rfl:u=dz a:=bb;obtain rfl:ma=dz b:=bg;refine ⟨?_,WS br bu d eO l fun d8 s3 ed h9=>⟨v,aw,ed,h9,dn⟩⟩;obtain ⟨bV,aV,ep,xs,r⟩:=d;exact Qj (PB bu.a4 r)
theorem agl (br:X.A.units + 1 < cLine) (aQ:bp X o fg) (ah:bp X i ty) (aF:bp X value e3) (ay:swapsWith value (some (.Subscript o i pos')) pos.line X.env=pure false) :
  gJ X (.Assign [.Subscript o i pos'] value pos) (EG X.prog X.w fg ty e3):=by
 intro aa s σ H D J h;refine wpAny_Assign_Subscript (bA (aF aa s σ H _ J h) fun r s1 b4=>ea b4 fun v H1 aN cG bS=>bA (aQ aa s1 σ H1 _ aN bS) fun u s2 b4=>ea b4 fun x aw bu bb dn=>bA (ah aa s2 σ aw _ bu dn) fun ma s3 cF=>?_) ay;obtain ⟨y,bw,ed,bg,a,b,kvs,k,ex,h6,d,eO,aA,fJ⟩:=cF;subst ex h6;obtain rfl:u=dz a:=bb;obtain rfl:ma=dz b:=bg;exact afR br ed d eO aA cG fun bV s4 hB y_=>⟨σ,_,hB,fJ bV y_⟩
theorem YV:bp X (.Dict [] [] pos) (Fl X.prog X.w):=fun aa s σ H Q J h=>by
 refine bA (afH aa s σ H (fun x H1=>∃ p,x=.ref p/\H p=none/\H1=upd H p (.f9 [])) J fun p ar=>⟨p,rfl,ar,rfl⟩) fun v s1 cF=>?_
 obtain ⟨x,H1,aN,cE,p,ex,ar,w4⟩:=cF;subst ex w4;obtain ⟨o,bu,e'⟩:=SP aN (aX ..);rw [No] at bu e';exact ⟨.ref p,_,bu,cE,h p o ar e'⟩
end
section
variable {X:a3} {df:Expr}
end
noncomputable def kM (p d:Addr):Heap->Prop:=fun h=>h.IsItemsView p d
theorem kM.ok {w:World} {h:Heap} {p d:Addr} (z:kM p d h):dy P w H h p (.ext (kM p d)):=
 ⟨z,let ⟨o,aQ,_⟩:=z;⟨o,aQ⟩,fun _ _ ez k=>let ⟨o,aQ,x⟩:=ez;⟨o,k o aQ,x⟩⟩
theorem eh.xr {w:World} {h h':Heap} (x:eh P w H h) (k:∀ b u,h.get? b=some u->h'.get? b=some u) (lo:∀ b,b < h.objs.size->I b=H b)
  (new:∀ b o,h.objs.size <= b->I b=some o->dy P w I h' b o):eh P w I h':=fun b u e=>by
 rcases EM b h.objs.size with ab | ab
 .rw [lo b ab] at e;have up:∀ {c:Addr} {v:e2},H c=some v->I c=some v:=fun {c v} q=>by
   rcases EM c h.objs.size with av | av
   .rw [lo c av];exact q
   .rw [x.fresh av] at q;cases q
  exact (x b u e).mF (fun c v _ q=>k c v q) (fun c q=>up q) fun c xs q=>up q
 .exact new b u ab e
theorem eJ.xr {aK:List Addr} {ex:List Addr} {w:World} {h h':Heap} (x:eh P w H h) (k:∀ b u,h.get? b=some u->h'.get? b=some u) (lo:∀ b,b < h.objs.size->I b=H b):eJ aK ex H I h h' where
 keep:=fun b u q _ _ _=>k b u q
 slot:=fun b u q _ _ _=>⟨u.slots,k b u q⟩
 free:=fun b u q n _=>by rw [lo b (dJ q)];exact n
 there:=fun b u q _=>⟨u,k b u q⟩
 kF:=fun b xs q=>by
  rw [lo b (Hz fun z=>by rw [x.fresh z] at q;cases q)];exact q
 jo:=fun b u xs q=>by
  rw [lo b (Hz fun z=>by rw [x.fresh z] at q;cases q)];exact q
 jU:=fun b ps q=>⟨#[],by rw [lo b (Hz fun z=>by rw [x.fresh z] at q;cases q),q];simp⟩
theorem Inv.xr (J:Inv X aa σ H s) (k:∀ b u,s.heap.get? b=some u->h'.get? b=some u) (lo:∀ b,b < s.heap.objs.size->I b=H b)
  (new:∀ b o,s.heap.objs.size <= b->I b=some o->dy X.prog X.w I h' b o):Inv X aa σ I { s with heap:=h',toks:=t' }:=J.un (eJ.xr J.a4 k lo) (J.a4.xr k lo new)
theorem MQ:∀ as:List Addr,bU (as.map V.ref) (as.map dz)
 | []=>.nil
 | _ :: as=>.cons rfl (MQ as)
structure Ec (H I:au) (l:Addr) (as:List Addr) (kvs:List (Key × V)):Prop where
 same:∀ b o,H b=some o->I b=some o
 fresh:H l=none
 am':∀ a ∈ as,H a=none
 at_:I l=some (.lst (as.map V.ref))
 len:as.length=kvs.length
 al:∀ (j:Nat) (a:Addr) (q:Key × V),as[j]? = some a->kvs[j]? = some q->I a=some (.tup [cM q.1,q.2])
 only:∀ b o,I b=some o->H b=some o\/o=.lst (as.map V.ref)\/∃ q ∈ kvs,o=.tup [cM q.1,q.2]
section
variable {X:a3}
noncomputable def JZ:V->List V->au->cJ->Prop:=fun x vs H Q=>∃ d kvs,x=.ref d/\vs=[]/\H d=some (.bx kvs)/\∀ p,H p=none->Q (.ref p) (upd H p (.ext (kM p d)))
theorem HG:uh X "dict.items" JZ:=by
 intro aa s σ H x xs v us Q J bb cG h;obtain ⟨d,kvs,rfl,rfl,e,q⟩:=h;cases (show v=dz d from bb);cases cG;obtain ⟨z,hd,vs,rel,b7⟩:=nK J.a4 e;refine call_meetsIn FD b7.typeIs PySem.F.entry_dict_items (PySem.F.args_dict_items_1 _) (meets_dict_items (gM X.prog X.w) d hd) ⟨⟨_,b7⟩,?_⟩;exact ⟨.ref _,_,J.laid (o:=.ext (kM _ d)) (t':=s.toks) (fun b u e=>dE _ e) (bW _) (kM.ok ⟨_,hc _ rfl,rfl,rfl⟩),rfl,q _ (J.a4.fresh (bW _))⟩
theorem Nj (av:X.calm=true):k7 X (.type "list") (fun xs H Q=>∃ p d kvs,xs=[.ref p]/\H p=some (.ext (kM p d))/\H d=some (.bx kvs)/\∀ l as I,Ec H I l as kvs->Q (.ref l) I):=by
 intro aa s σ H xs us Q J r h;obtain ⟨p,d,kvs,rfl,ep,ho,q⟩:=h;obtain ⟨u,rfl,eo⟩:=kP r;cases eo;obtain ⟨z,hd,vs,rel,b7⟩:=nK J.a4 ho;have aF:kM p d s.heap:=(show dy X.prog X.w H s.heap p (.ext (kM p d)) from J.a4 _ _ ep).1;obtain ⟨Dr,qX⟩:=b7.dictAt;have hlen:=rel.length;refine PySem.W.kdx_call (knd:=gM X.prog X.w) (kvs:=vs) (ep:=Dr) (J.ok.hd av) aF qX (by omega) fun h' tk acc c as aC dM qS z_ wq=>?_
 have e7:∀ {i j:Nat} {a:Addr},as[i]? = some a->as[j]? = some a->i=j:=fun {i j a} aq aD=>by
  have af:=(cv.mp aq);have aj:=(cv.mp aD);have zZ:=Zs.mp z_.rise;rcases abb i j with c | c | c
  .have:=zZ i j af.1 aj.1 c;rw [af.2,aj.2] at this;exact absurd this (kA _)
  .exact c
  .have:=zZ j i aj.1 af.1 c;rw [af.2,aj.2] at this;exact absurd this (kA _)
 let F:au:=fun b=>if b < s.heap.objs.size then H b else if b=s.heap.objs.size then some (.lst (as.map V.ref)) else match as.findIdx? (· = b) with
  | some j=>(kvs[j]?).map fun q:Key × V=>e2.tup [cM q.1,q.2]
  | none=>none
 have Ep:∀ b,b < s.heap.objs.size->F b=H b:=fun b ab=>if_pos ab
 have NX:F s.heap.objs.size=some (.lst (as.map V.ref)):=(if_neg (kA _)).trans (if_pos rfl);have Fa:∀ (j:Nat) (a:Addr),as[j]? = some a->F a=(kvs[j]?).map fun q:Key × V=>e2.tup [cM q.1,q.2]:=fun j a e=>by
  have aO:=z_.above a (cH e);have af:as.findIdx? (· = a)=some j:=by
   rw [Ny];obtain ⟨aM,bQ⟩:=cv.mp e;refine ⟨aM,by simp [bQ],fun i ah=>?_⟩;have:=fun z:as[i]=a=>fR ah (e7 (cv.mpr ⟨by omega,z⟩) e)
   simpa using this
  show (if a < s.heap.objs.size then H a else if a=s.heap.objs.size then some (.lst (as.map V.ref)) else match as.findIdx? (· = a) with
   | some j=>(kvs[j]?).map fun q:Key × V=>e2.tup [cM q.1,q.2]
   | none=>none)=_
  rw [if_neg (RJ.mpr (l3 aO)),if_neg (te aO),af]
 have TC:∀ b o,s.heap.objs.size <= b->F b=some o->(b=s.heap.objs.size/\o=.lst (as.map V.ref))\/∃ (j:Nat) (q:Key × V),as[j]? = some b/\kvs[j]? = some q/\o=.tup [cM q.1,q.2]:=fun b o ab e=>by
  by_cases Jd:b=s.heap.objs.size
  .rw [Jd,NX] at e;exact .inl ⟨Jd,(dU e).symm⟩
  .have bQ:(match as.findIdx? (· = b) with
    | some j=>(kvs[j]?).map fun q:Key × V=>e2.tup [cM q.1,q.2]
    | none=>none)=some o:=by
    have:F b=_:=(if_neg (RJ.mpr ab)).trans (if_neg Jd);rw [<- this];exact e
   cases hf:as.findIdx? (· = b) with
   | none=>rw [hf] at bQ;cases bQ
   | some j=>
    rw [hf] at bQ;obtain ⟨q,aq,aD⟩:=vf.mp bQ;obtain ⟨aM,f5,_⟩:=Ny.mp hf;exact .inr ⟨j,q,cv.mpr ⟨aM,by simpa using f5⟩,aq,aD.symm⟩
 have aA:as.length=kvs.length:=by omega
 refine ⟨.ref _,F,J.xr (t':=tk) aC Ep fun b o ab e=>?_,rfl,q _ as F ⟨fun b o e=>?_,J.a4.fresh (bW _),fun a aO=>J.a4.fresh (l3 (z_.above a aO)),NX,aA,fun j a cW aq aD=>by rw [Fa j a aq,aD];rfl,fun b o e=>?_⟩⟩
 .rcases TC b o ab e with ⟨rfl,rfl⟩ | ⟨j,cW,aq,aD,rfl⟩
  .refine ⟨by rw [a0];omega,acc.toList,c,?_,dM⟩;rw [wq];exact MQ as
  .obtain ⟨key,k,x,bL,ek,fG⟩:=z_.pairs j b aq;obtain ⟨sm,es,gw,j8⟩:=cr rel bL;rw [aD] at es;cases es;refine ⟨show 2 <= sizeLine by decide,[key,x],.cons ?_ (.cons j8 .nil),?_⟩
   .rw [gw];exact UZ ek
   .exact ⟨_,fG,rfl,0,rfl⟩
 .rw [Ep b (Hz fun z=>by rw [J.a4.fresh z] at e;cases e)];exact e
 .rcases EM b s.heap.objs.size with ab | ab
  .rw [Ep b ab] at e;exact .inl e
  .rcases TC b o ab e with ⟨rfl,rfl⟩ | ⟨j,cW,aq,aD,rfl⟩
   .exact .inr (.inl rfl)
   .exact .inr (.inr ⟨cW,cH aD,rfl⟩)
end
section
open AutoSeq1 (wpAny_loadPart')
open MeetsSeq MeetsSeq2 MeetsSeq3 SeqRoads2
variable {P:Program} {w:World} {l b:Addr} {xs ys:Array Value} {n m:Nat} {b7 aoN:Option Addr} {bt bR:Array (Option Value)}
end
theorem ab3 (aG:(kvs.map (·.1)).Nodup) {k:Key} (h:(k,v) ∈ kvs):cY kvs k=some v:=by
 induction kvs with
 | nil=>cases h
 | cons cD r b'=>
  rw [eN,qj] at aG;unfold cY;rw [qy];rcases fi.mp h with e | e
  .rw [<- e];simp
  .have bX:cD.1 ≠ k:=fun z=>aG.1 (by rw [z];exact b1.mpr ⟨(k,v),e,rfl⟩)
   rw [decide_eq_false bX];exact b' aG.2 e
theorem aj7 {A:Around} (aG:(kvs.map (·.1)).Nodup) (cR:∀ cD ∈ kvs,iT cD.2=true) (uP:ee kvs Vj) :
  ∀ {rest:List (Key × V)} {Jt:List (Key × Value)},ee rest Jt->(∀ cD ∈ rest,cD ∈ kvs)->PySem.W.KeqHits A s Vj Jt true:=by
 intro rest Jt jH gR;unfold ee at jH
 induction jH with
 | nil=>exact .nil
 | @cons p q ps qs h t b'=>
  obtain ⟨k,v⟩:=p;obtain ⟨pL,u⟩:=q;obtain ⟨aq,aD⟩:=h;have aq:k=pL:=aq;subst aq;have hm:=gR (k,v) (lp ..);have aF:=uP.val k;rw [ab3 aG hm] at aF;cases bh:valueAt Vj k with
  | none=>rw [bh] at aF;cases aF
  | some y=>
   rw [bh] at aF;have f:=cR _ hm;have:=KO (A:=A) (s:=s) (show bD v u from aD) (show bD v y from aF) f f;rw [D' f] at this;exact .hit bh this (b' fun cD pK=>gR cD (hS _ pK))
section
variable {X:a3} {aa:List (Addr × Obj)} {σ:St} {H:au} {s:Shared}
structure ao4 (H:au) (p:Addr) (ps:List Addr) (cb:List (List (Key × V))):Prop where
 at_:H p=some (.lst (ps.map V.ref))
 len:ps.length=cb.length
 al:∀ (j:Nat) (a:Addr) (kvs:List (Key × V)),ps[j]? = some a->cb[j]? = some kvs->H a=some (.bx kvs)
end
section
variable {X:a3}
end
section
variable {X:a3} {aa:List (Addr × Obj)} {σ:St} {H:au} {s:Shared} {d:Addr} {o:Obj} {kvs:List (Key × V)}
theorem Wn (J:Inv X aa σ H s) (e:H d=some (.bx kvs)) (g:s.heap.get? d=some o):Inv X aa σ (upd H d (.d6 o (.bx kvs))) s:=
 Gl J (by rw [e];exact iu) ⟨o,g⟩ ⟨g,J.a4 d _ e⟩
theorem MY (J:Inv X aa σ H s) (e:H d=some (.d6 o (.bx kvs))) (f6:∀ o u,X.q5 d ≠ some (.d6 o u)):Inv X aa σ (upd H d (.bx kvs)) s:=by
 have ne:∀ {b:Addr} {u:Option e2},H b=u->(∀ dx,u ≠ some (.d6 dx (.bx kvs)))->b ≠ d:=fun {b u} q h z=>h o (by rw [<- q,z];exact e)
 refine ⟨J.ok,J.os,J.bare,⟨J.base.keep,J.base.slot,fun b dx q n ag=>?_,J.base.there,fun b xs q=>?_,fun b dx u q=>?_,fun b ps q=>?_⟩,J.loc,J.cell,?_,fun x c q=>?_,fun p ar=>?_,fun b u q=>?_,J.len⟩
 .have h:=J.base.free b dx q n ag;rw [aH (ne h (fun _ z=>by cases z))];exact h
 .have h:=J.base.kF b xs q;rw [aH (ne h (fun _ z=>by cases z))];exact h
 .have h:=J.base.jo b dx u q;rw [aH (fun z=>f6 dx u (by rw [<- z];exact q))];exact h
 .obtain ⟨m,h⟩:=J.base.jU b ps q;exact ⟨m,by rw [aH (ne h (fun _ z=>by cases z))];exact h⟩
 .rw [aH (ne J.free (fun _ z=>by cases z))];exact J.free
 .rw [aH (ne (J.h3 x c q) (fun _ z=>by cases z))];exact J.h3 x c q
 .obtain ⟨af,aj,a'⟩:=J.pin p ar;exact ⟨af,by rw [aH (ne aj (fun _ z=>by cases z))];exact aj,a'⟩
 .by_cases ab:b=d
  .subst ab;rw [aX] at q;cases q;exact (J.a4 b _ e).2
  .rw [aH ab] at q;refine (J.a4 b u q).mF (fun _ _ _ r=>r) (fun c r=>?_) (fun c xs r=>?_)
   .rw [aH (ne r (fun _ z=>by cases z))];exact r
   .rw [aH (ne r (fun _ z=>by cases z))];exact r
end
noncomputable def E1 (d:Addr) (o:Obj) (kvs:List (Key × V)):jm:=
 ⟨fun i H=>H d=some (.d6 o (.bx kvs))/\i < kvs.length,fun i H x I=>I=H/\∃ k v,kvs[i]? = some (k,v)/\x=cM k,fun i H=>H d=some (.d6 o (.bx kvs))/\kvs.length <= i⟩
theorem abD {w:World} {K:a_} {d it:Addr} (ex:o.ExactDict) (aQ:o.data=.dict aV ep)
  (aA:aV.size=kvs.length) (cb:∀ (i:Nat) (e:DictEntry),aV[i]? = some e->∃ k v,kvs[i]? = some (k,v)/\bD (cM k) e.key):oR P w K df (E1 d o kvs) [it] it (fun i h=>h.IsKeyIter it d i aV.size ep) where
 mem:=by simp
 obj:=fun i h st b ab=>by
  have e:b=it:=by simpa using ab
  subst e;obtain ⟨o,e,c,d⟩:=st;exact ⟨o,e,fun v z=>by rw [d] at z;cases z⟩
 keep:=fun i h h' st k=>st.at fun o e=>k it (by simp) o e
 item:=by
  intro X ct hw fl av i aa s σ H E J hf st a5;subst ct hw fl;obtain ⟨aI,ag⟩:=a5;have r:sg s.heap d o aV ep:=⟨(J.a4 d _ aI).1,ex,aQ⟩;obtain ⟨f0,f1,f2,en,f4,eW⟩:=hf it (by simp);obtain ⟨q,Bu⟩:∃ q,aV[i]? = some q:=⟨_,acP (show i < aV.size by omega)⟩;obtain ⟨k,v,pK,Gm⟩:=cb i q Bu;refine aiL st r Bu fun h' kZ oh=>?_
  have aN:Inv X aa σ H { s with heap:=h' }:=J.turned (t':=s.toks) (fun b o ab e=>(oh.2 b ab).trans e) f0 f1 en f4 eW;obtain ⟨EZ,e,c,b7⟩:=id kZ;exact ⟨_,rfl,vY (s:={ s with heap:=h' }) e c b7 (by decide) ⟨cM k,H,aN,Gm,⟨rfl,k,v,pK,rfl⟩,kZ,fun b ab=>(hf b ab).1⟩⟩
 done:=by
  intro X ct hw fl av i aa s σ H E J hf st a5;subst ct hw fl;obtain ⟨aI,ag⟩:=a5;have r:sg s.heap d o aV ep:=⟨(J.a4 d _ aI).1,ex,aQ⟩;obtain ⟨f0,f1,f2,en,f4,eW⟩:=hf it (by simp);exact alu (J.ok.hd av) st r (by omega) fun h' eO=>⟨rfl,J.turned (t':=s.toks) (fun b o ab e=>eO b o ab e) f0 f1 en f4 eW⟩
 self:=fun _ _ _ _ _ st h=>wpAny_pyIter_keyiter st h
theorem N_ {w:World} {k:Key} (h:(gM P w).is k v=true):bD (cM k) v:=by
 rcases nD (k:=k) (v:=v) h with ⟨i,t,rfl,rfl⟩ | ⟨x,t,rfl,rfl⟩
 .exact ⟨t,rfl⟩
 .exact ⟨t,rfl⟩
theorem Tf {w:World}:∀ {aV:List DictEntry} {vs:List (Key × Value)} {kvs:List (Key × V)},Pairs (gM P w) aV vs->ee kvs vs->aV.length=kvs.length/\∀ (i:Nat) (e:DictEntry),aV[i]? = some e->∃ k v,kvs[i]? = some (k,v)/\bD (cM k) e.key
 | _,_,_,.nil,r=>by
  unfold ee at r;cases r;exact ⟨rfl,fun i e h=>by simp at h⟩
 | _,_,_,.cons aC _ t,r=>by
  unfold ee at r;cases r with
  | @cons p q ps qs h cV=>
   obtain ⟨l,al⟩:=Tf t (kvs:=ps) cV;refine ⟨by rw [hi,hi,l],fun i e he=>?_⟩;cases i with
   | zero=>
    cases he;refine ⟨p.1,p.2,rfl,N_ (P:=P) (w:=w) ?_⟩;rw [h.1];exact aC
   | succ i=>exact al i e he
section
variable {X:a3} {df:Expr}
noncomputable def I6 (cZ:TE):TI:=fun σ H R=>cZ σ H fun x H1=>∃ d kvs,x=.ref d/\H1 d=some (.bx kvs)/\∀ o,R (E1 d o kvs) (upd H1 d (.d6 o (.bx kvs)))
theorem RP (aA:bp X l cZ):oF X df l (I6 cZ):=by
 intro aa s σ H R J h;refine bA (aA aa s σ H _ J h) fun v s1 b4=>ea b4 fun x H1 aN cE bS=>?_
 obtain ⟨d,kvs,e,ho,q⟩:=bS;subst e;cases cE;obtain ⟨_,hd,vs,rel,o,aV,ep,g,ex,dat,_,pr,_⟩:=nK aN.a4 ho;obtain ⟨aA,cb⟩:=Tf pr rel;have bu:=Wn aN ho g;refine aid hd ⟨g,ex,dat⟩ ?_;refine ⟨s1.heap.objs.size,[s1.heap.objs.size],_,_,_,rfl,bu.kept (t':=s1.toks) fun b o e=>dE _ e,abD ex dat (by rw [<- aA];exact nt.symm) (fun i e h=>cb i e (by rw [<- Vl] at h;exact h)),⟨_,hc _ rfl,rfl,rfl⟩,fun b ab=>?_,q o⟩;have e:b=s1.heap.objs.size:=by simpa using ab
 subst e;exact bu.nH (bW _) (bu.a4.fresh (bW _))
noncomputable def D2 (t:TE):TE:=fun σ H Q=>∃ d kvs,H d=some (.bx kvs)/\t σ H fun v I=>∃ o,I d=some (.d6 o (.bx kvs))/\Q v (upd I d (.bx kvs))
theorem ZC {e:Expr} {t:TE} (h:bp X e t):bp X e (D2 t):=by
 intro aa s σ H Q J q;obtain ⟨d,kvs,ho,q⟩:=q;refine bA (h aa s σ H _ J q) fun v s1 ⟨x,H1,aN,cE,o,aq,bS⟩=>⟨x,_,MY aN aq (fun dx u z=>?_),cE,bS⟩
 have:=J.base.jo d dx u z;rw [ho] at this;cases this
end
structure n5 (X:a3) (aa:List (Addr × Obj)) (H:au) (S:Addr):Prop where
 nn:H S=none
 nl:S ≠ X.env.locals
 ge:X.fv.heap.objs.size <= S
 DD:∀ x c,X.env.cells.lookup x=some c->c ≠ S
 np:∀ p ∈ X.dN ++ aa,p.1 ≠ S
 f6:S ∉ X.aK
theorem n5.of (J:Inv X aa σ H s) (h:s.heap.objs.size <= S):n5 X aa H S:=
 ⟨J.a4.fresh h,fun z=>absurd (hp J.lt h) (by rw [z];exact kA _),cP J.kO h,fun x c e z=>by
  obtain ⟨v,o,aQ,_⟩:=J.cell x c e;exact absurd (hp (dJ aQ) h) (by rw [z];exact kA _),fun p ar z=>by
  have aQ:=(J.pin p ar).1;exact absurd (hp (dJ aQ) h) (by rw [z];exact kA _),J.Em h⟩
theorem n5.turn (o:n5 X aa H S) (J:Inv X aa σ H s) (k:∀ b o,b ≠ S->s.heap.get? b=some o->h'.get? b=some o):Inv X aa σ H { s with heap:=h',toks:=t' }:=
 J.turned k o.nn o.nl (.inr o.ge) o.DD o.np
section
variable {X:a3} {A:Around} {aa:List (Addr × Obj)} {σ:St} {H:au} {l q J S:Addr} {n:Nat} {P:Nat->Value->Prop} {R:Result->Shared->Prop}
theorem T9 (bE:Inv X aa σ H s) (mQ:n5 X aa H S) (ni:n5 X aa H J) (akz:s.heap.get? S=some QE) (acB:s.heap.get? J=some PM) (acG:∀ v,QE.data ≠ .cell v) (adG:∀ v,PM.data ≠ .cell v):Inv X ((S,QE) :: (J,PM) :: aa) σ H s:=
 bE.rp fun p ar=>by
  rcases fi.mp ar with rfl | ar
  .exact ⟨akz,mQ.nn,mQ.nl,mQ.f6,acG⟩
  rcases fi.mp ar with rfl | ar
  .exact ⟨acB,ni.nn,ni.nl,ni.f6,adG⟩
  exact bE.pin p (ko _ ar)
theorem Ul (bE:Inv X (DQ :: EN :: aa) σ H s):Inv X aa σ H s/\s.heap.get? DQ.1=some DQ.2/\s.heap.get? EN.1=some EN.2:=
 ⟨bE.rp fun p ar=>bE.pin p (ko _ (.tail _ (.tail _ ar))),(bE.pin DQ (ko _ (.head _))).1,(bE.pin EN (ko _ (.tail _ (.head _)))).1⟩
theorem YB (eZ:Nat->Int) (de:A.handled=none) (aA:∀ s,Inv X aa σ H s->∃ vs:List Value,vs.length=n/\(∀ i v,vs[i]? = some v->P i v)/\s.heap.IsList l vs.toArray) (yn:l ≠ J) (rK:S ≠ J) (mQ:n5 X aa H S) (ni:n5 X aa H J)
  (turn:∀ (i:Nat) (v:Value),i < n->P i v->∀ (aa:List (Addr × Obj)) (s:Shared),Inv X aa σ H s ->
   wpAny (model X.prog X.w) A.in1 (call (.ref q) [v]) (f7 X aa σ fun x I=>x=.int (eZ i)/\I=H) (fun _ _=>False) s)
  (gy:∀ i v s',i < n->P i v->(∀ j,j < n->eZ i <= eZ j/\(j < i->eZ i < eZ j))->Inv X aa σ H s'->R (.ok (.ret v)) s') :
  ∀ (r j i:Nat) (s:Shared) (qi:Value) (bK:Tok) (c:Nat),n - (j + 1)=r->j + 1 <= n->Inv X aa σ H s ->
   s.heap.get? S=some (seqObj "list" #[qi,.int (eZ i) bK] c)->s.heap.IsListIter J l (j + 1)->P i qi->i <= j->(∀ hT,hT <= j->eZ i <= eZ hT/\(hT < i->eZ i < eZ hT)) ->
   codeAny (model X.prog X.w) A (.builtin "min.loop" ⟨[.ref J,.ref q,.ref S],[]⟩) R s:=by
 have xj:(toString "min" ++ toString ".loop" : String) = "min.loop" := by decide
 intro r
 induction r with
 | zero=>
  intro j i s qi bK c ak aM bE dM hit H4 n6 sR;obtain ⟨vs,Dy,DA,yq⟩:=aA s bE;have W:=zG (prog:=X.prog) (w:=X.w) (A:=A.in1) de J l yn vs.toArray;have hsz:vs.toArray.size=vs.length:=el ..;have gR:j + 1=vs.length:=by omega
  refine codeAny_builtin RA ?_;rw [S5 uv _];show wpAny _ A.in1 (seqItems? (.ref S) >>= _) _ _ _;refine wpAny_bind (wpAny_seqItems dM rfl ?_);show wpAny _ A.in1 (tryCatch (pyNext (.ref J)) _ >>= _) _ _ _;refine wpAny_bind (wpAny_tryCatch (W.done _ _ _ ⟨by rw [hsz,<- gR];exact hit,yq⟩ fun h' ts gN=>?_));have sL:Inv X aa σ H { s with heap:=h',toks:=ts }:=ni.turn bE fun b o n e=>gN b o (by simpa using n) e
  have x9:=gN S _ (by simpa using rK) dM;show wpAny _ A.in1 (updateSeq S (fun _=>#[]) >>= _) _ _ _;refine wpAny_bind ?_;refine wpAny_updateSeq x9 rfl (wpAny_bind (wpAny_letGo (wpAny_pure ?_)));exact gy i qi _ (by omega) H4 (fun hT fN=>sR hT (by omega)) (mQ.turn sL fun b o n e=>(k4 _ _ (dg n)).trans e)
 | succ r b'=>
  intro j i s qi bK c ak aM bE dM hit H4 n6 sR;obtain ⟨vs,Dy,DA,yq⟩:=aA s bE;have W:=zG (prog:=X.prog) (w:=X.w) (A:=A.in1) de J l yn vs.toArray;have hsz:vs.toArray.size=vs.length:=el ..;have dD:j + 1 < n:=by omega
  refine codeAny_builtin RA ?_;rw [S5 uv _];show wpAny _ A.in1 (seqItems? (.ref S) >>= _) _ _ _;refine wpAny_bind (wpAny_seqItems dM rfl ?_);show wpAny _ A.in1 (tryCatch (pyNext (.ref J)) _ >>= _) _ _ _;refine wpAny_bind (wpAny_tryCatch (W.item (j + 1) _ _ _ (by rw [hsz,Dy];exact dD) ⟨hit,yq⟩ fun v h' ts ct Mk gN=>?_));have aF:P (j + 1) v:=DA _ _ (by simpa using ct);obtain ⟨zo,IW,q',ug⟩:=id Mk.1;have sL:Inv X aa σ H { s with heap:=h',toks:=ts }:=ni.turn bE fun b o n e=>gN b o (by simpa using n) e
  have x9:=gN S _ (by simpa using rK) dM;have Eo:=T9 sL mQ ni x9 IW (fun _ z=>by cases z) (fun _ z=>by rw [ug] at z;cases z);show wpAny _ A.in1 (tryCatch (holding [v] (call (.ref q) [v])) _ >>= _) _ _ _;refine wpAny_bind (wpAny_tryCatch (wpAny_holding (wpAny_mono (turn (j + 1) v dD aF _ _ Eo) (fun x s2 he=>?_) fun _ _ w7=>w7.elim)));obtain ⟨fx,I,ub,bb,rfl,rfl⟩:=he;obtain ⟨fy,rfl⟩:=bb;obtain ⟨n0,uC,A'⟩:=Ul ub;have acz:s2.heap.IsListIter J l (j + 1 + 1):=⟨zo,A',q',ug⟩;show wpAny _ A.in1 (tryCatch (holding [v,.int (eZ (j + 1)) fy] (richCompare .Lt (.int (eZ (j + 1)) fy) (.int (eZ i) bK) >>= _)) _ >>= _) _ _ _;refine wpAny_bind (wpAny_tryCatch (wpAny_holding (wpAny_bind (CmpOf.ints_lt (prog:=X.prog) (w:=X.w) (A:=A.in1) (P:=fun i v=>∃ t,v=.int (eZ i) t) eZ (fun i v h=>h) (j + 1) i _ _ _ _ _ ⟨fy,rfl⟩ ⟨bK,rfl⟩ ?_))));refine wpAny_bind (wpAny_holding (wpAny_truthy_bool ?_));refine wpAny_bind (wpAny_letGo (wpAny_pure ?_));by_cases f5:eZ (j + 1) < eZ i
  .obtain ⟨cU,EX⟩:∃ cU,(s2.heap.update S (vv fun _=>#[v,.int (eZ (j + 1)) fy])).get? S=some (seqObj "list" #[v,.int (eZ (j + 1)) fy] cU):=⟨_,get?_update_seq uC fun _=>#[v,.int (eZ (j + 1)) fy]⟩;simp only [f5,decide_true,if_true];refine wpAny_bind ?_;refine wpAny_updateSeq uC rfl (wpAny_bind (wpAny_letGo ?_));rw [xj];have m4:=mQ.turn (t':=s2.toks) n0 (h':=s2.heap.update S (vv fun _=>#[v,.int (eZ (j + 1)) fy])) fun b o n e=>(k4 _ _ (dg n)).trans e
   refine wpAny_pure ⟨plainId_quiet uv _,b' (j + 1) (j + 1) _ v fy cU (by omega) dD m4 EX ⟨zo,(k4 _ _ rK).trans A',q',ug⟩ aF (bW _) fun hT fN=>?_⟩;by_cases e:hT=j + 1
   .subst e;exact ⟨by omega,fun _=>by omega⟩
   .have Cy:=sR hT (by omega);have i':=Cy.1;exact ⟨by omega,fun _=>by omega⟩
  .simp only [f5,decide_false,Eg,if_false];refine wpAny_bind (wpAny_letGo ?_);rw [xj];refine wpAny_pure ⟨plainId_quiet uv _,b' (j + 1) i _ qi bK c (by omega) dD n0 uC acz H4 (by omega) fun hT fN=>?_⟩;by_cases e:hT=j + 1
   .subst e;exact ⟨by omega,fun _=>by omega⟩
   .exact sR hT (by omega)
theorem aiT (eZ:Nat->Int) (de:A.handled=none) (bE:Inv X aa σ H s) (aA:∀ aa s,Inv X aa σ H s->∃ vs:List Value,vs.length=n/\(∀ i v,vs[i]? = some v->P i v)/\s.heap.IsList l vs.toArray) (bX:0 < n)
  (turn:∀ (i:Nat) (v:Value),i < n->P i v->∀ (aa:List (Addr × Obj)) (s:Shared),Inv X aa σ H s ->
   wpAny (model X.prog X.w) A.in1 (call (.ref q) [v]) (f7 X aa σ fun x I=>x=.int (eZ i)/\I=H) (fun _ _=>False) s)
  (a8:∀ i v s',i < n->P i v->(∀ j,j < n->eZ i <= eZ j/\(j < i->eZ i < eZ j))->Inv X aa σ H s'->Q v s') :
  wpAny (model X.prog X.w) A (call (.builtin "min") [.ref l] [(ae "key",.ref q)]) Q E s:=by
 have xj:(toString "min" ++ toString ".loop" : String) = "min.loop" := by decide
 obtain ⟨abo,_,_,Cq⟩:=aA _ s bE;obtain ⟨ol,ah0,_⟩:=id Cq;have DC:l < s.heap.objs.size:=dJ ah0;refine kmk_tree PySem.F.kind_min PySem.F.plain_min PySem.F.entry_min (kmk_min_key _ _) ?_;show wpAny _ A.in1 (Yl "min" ["key","default"] 0 ⟨[],[(ae "key",.ref q)]⟩ >>= _) _ _ s;refine wpAny_bind (wpAny_of_eq (show Yl "min" ["key","default"] 0 ⟨[],[(ae "key",.ref q)]⟩=pure [some (.ref q),none] from rfl) ?_);refine wpAny_bind (wpAny_pure ?_);refine wpAny_bind (wpAny_pyIter_list Cq ?_);refine wpAny_bind (wpAny_newList ?_ (fC _));rw [xj];have dM:(s.heap.push { cls:=.type "list_iterator",data:=.fields #[.ref l,.int 0 0] }).objs.size=s.heap.objs.size + 1:=size_push' ..;have yn:l ≠ s.heap.objs.size:=fR DC;have rK:(s.heap.push { cls:=.type "list_iterator",data:=.fields #[.ref l,.int 0 0] }).objs.size ≠ s.heap.objs.size:=by rw [dM];exact te (Lg _)
 refine wpAny_pure ⟨plainId_quiet uv _,?_⟩;have ni:n5 X aa H s.heap.objs.size:=.of bE (bW _);have mQ:n5 X aa H (s.heap.push { cls:=.type "list_iterator",data:=.fields #[.ref l,.int 0 0] }).objs.size:=.of bE (by rw [dM];exact v_ _);have aiB:((s.heap.push { cls:=.type "list_iterator",data:=.fields #[.ref l,.int 0 0] }).push (seqObj "list" #[] 0)).get? s.heap.objs.size=some { cls:=.type "list_iterator",data:=.fields #[.ref l,.int 0 0] }:=
  dE _ (hc _ rfl)
 have Qv:((s.heap.push { cls:=.type "list_iterator",data:=.fields #[.ref l,.int 0 0] }).push (seqObj "list" #[] 0)).get? (s.heap.push { cls:=.type "list_iterator",data:=.fields #[.ref l,.int 0 0] }).objs.size=some (seqObj "list" #[] 0):=hc _ rfl;have OS:Inv X aa σ H { s with heap:=(s.heap.push { cls:=.type "list_iterator",data:=.fields #[.ref l,.int 0 0] }).push (seqObj "list" #[] 0) }:=bE.kept (t':=s.toks) fun b o e=>dE _ (dE _ e)
 obtain ⟨vs,Dy,DA,yq⟩:=aA _ _ OS;have W:=zG (prog:=X.prog) (w:=X.w) (A:=A.in1) de s.heap.objs.size l yn vs.toArray;have hsz:vs.toArray.size=vs.length:=el ..;refine codeAny_builtin RA ?_;rw [S5 uv _];show wpAny _ A.in1 (seqItems? (.ref _) >>= _) _ _ _;refine wpAny_bind (wpAny_seqItems Qv rfl ?_);show wpAny _ A.in1 (tryCatch (pyNext (.ref s.heap.objs.size)) _ >>= _) _ _ _;refine wpAny_bind (wpAny_tryCatch (W.item 0 _ _ _ (by rw [hsz,Dy];exact bX) ⟨⟨_,aiB,rfl,rfl⟩,yq⟩ fun v h' ts ct Mk gN=>?_));have aF:P 0 v:=DA _ _ (by simpa using ct);obtain ⟨zo,IW,q',ug⟩:=id Mk.1;have sL:=ni.turn (h':=h') (t':=ts) OS fun b o n e=>gN b o (by simpa using n) e
 have x9:=gN _ _ (by simpa using rK) Qv;have Eo:=T9 sL mQ ni x9 IW (fun _ z=>by cases z) (fun _ z=>by rw [ug] at z;cases z);show wpAny _ A.in1 (tryCatch (holding [v] (call (.ref q) [v])) _ >>= _) _ _ _;refine wpAny_bind (wpAny_tryCatch (wpAny_holding (wpAny_mono (turn 0 v bX aF _ _ Eo) (fun x s2 he=>?_) fun _ _ w7=>w7.elim)));obtain ⟨fx,I,ub,bb,rfl,rfl⟩:=he;obtain ⟨fy,rfl⟩:=bb;obtain ⟨n0,uC,A'⟩:=Ul ub;obtain ⟨cU,EX⟩:∃ cU,(s2.heap.update (s.heap.push { cls:=.type "list_iterator",data:=.fields #[.ref l,.int 0 0] }).objs.size (vv fun _=>#[v,.int (eZ 0) fy])).get? (s.heap.push { cls:=.type "list_iterator",data:=.fields #[.ref l,.int 0 0] }).objs.size=some (seqObj "list" #[v,.int (eZ 0) fy] cU):=⟨_,get?_update_seq uC fun _=>#[v,.int (eZ 0) fy]⟩;show wpAny _ A.in1 (updateSeq (s.heap.push { cls:=.type "list_iterator",data:=.fields #[.ref l,.int 0 0] }).objs.size (fun _=>#[v,.int (eZ 0) fy]) >>= _) _ _ _;refine wpAny_bind ?_;refine wpAny_updateSeq uC rfl ?_;rw [xj];have m4:=mQ.turn (t':=s2.toks) n0 (h':=s2.heap.update (s.heap.push { cls:=.type "list_iterator",data:=.fields #[.ref l,.int 0 0] }).objs.size (vv fun _=>#[v,.int (eZ 0) fy])) fun b o n e=>(k4 _ _ (dg n)).trans e
 refine wpAny_pure ⟨plainId_quiet uv _,YB eZ de (fun s bE=>aA _ s bE) yn rK mQ ni turn a8 _ 0 0 _ v fy cU rfl bX m4 EX ⟨zo,(k4 _ _ rK).trans A',q',ug⟩ aF (bW _) fun hT fN=>?_⟩;have e:hT=0:=by omega
 subst e;exact ⟨by omega,fun h=>absurd h (kA _)⟩
end
structure zP (p y z:Str) (sc:Scope):Prop where
 kind:sc.kind=.function
 co:sc.isCoroutine=false
 gen:sc.isGenerator=false
 ne:y ≠ z
 par:sc.names.lookup p=some .local
 MS:sc.names.lookup y=some .free
 KC:sc.names.lookup z=some .free
 uy:∀ z ∈ sc.names,z.2 ≠ .cell
 two:∀ b ∈ sc.names,b.2=.free->b.1=y\/b.1=z
noncomputable def rj (X:a3) (A:Around) (N:List Str) (q:Str) (scope:Scope) (f c':Addr) (cl:List (Str × Addr)) (s:Shared) (H:au):a3 where
 prog:=X.prog
 w:=X.w
 K:=X.K
 mg:=X.mg
 base:=X.base
 A:=A.deeper (Gb q scope s.heap.objs.size f (.ref c') cl)
 N:=N
 fv:=s
 q5:=H
 env:=Gb q scope s.heap.objs.size f (.ref c') cl
 outer:=X.stack
 stack:=Gb q scope s.heap.objs.size f (.ref c') cl :: X.stack
 ex:=[]
 fn:=fun _=>false
 calm:=true
 dN:=[]
 du:=fun _ _=>False
section
variable {X:a3} {A:Around} {aa:List (Addr × Obj)} {σ:St} {H:au} {s:Shared} {k:Nat} {f c' cc cU:Addr} {q p y z:Str} {params:Arguments} {body:Expr} {scope:Scope} {v1 v2:V} {t:TE}
theorem B1 {x:Str} (e:([(y,cc),(z,cU)]:List (Str × Addr)).lookup x=some c):(x=y/\c=cc)\/(x=z/\c=cU):=by
 rw [j5] at e;cases ab:x == y with
 | true=>rw [ab] at e;cases e;exact .inl ⟨eq_of_beq ab,rfl⟩
 | false=>
  rw [ab] at e;simp only [j5] at e;cases i':x == z with
  | true=>rw [i'] at e;cases e;exact .inr ⟨eq_of_beq i',rfl⟩
  | false=>rw [i'] at e;cases e
theorem ac9 (S:zP p y z scope) (ak:dX k A) (hN:A.frames=some X.stack) (J:Inv X aa σ H s) (ne:cc ≠ cU) (b9:H cc=none) (cI:H cU=none)
  (cw:∃ u,bD v1 u/\s.heap.IsCell cc (some u)) (cN:∃ u,bD v2 u/\s.heap.IsCell cU (some u)) (jH:bD a u)
  (nr:af.Ns s.heap.objs.size (fun x=>[(p,u)].reverse.lookup x)) (aC:∀ b o,s.heap.get? b=some o->af.get? b=some o) :
  Inv (rj X A [p,y,z] q scope f c' [(y,cc),(z,cU)] s H) [] [some a,some v1,some v2] H { s with heap:=af,toks:=tk }:=by
 obtain ⟨mU,cE,va,QQ,TO⟩:=cw;obtain ⟨Dn,fW,EZ,NO,PO⟩:=cN;have Px:([(y,cc),(z,cU)]:List (Str × Addr)).lookup y=some cc:=by rw [j5,beq_self_eq_true]
 have OV:([(y,cc),(z,cU)]:List (Str × Addr)).lookup z=some cU:=by
  rw [j5,show (z == y)=false from by simpa using dg S.ne];simp only [j5,beq_self_eq_true]
 have sd:∀ b:Addr,b ∉ (rj X A [p,y,z] q scope f c' [(y,cc),(z,cU)] s H).ex:=fun b z=>absurd (show b ∈ ([]:List Addr) from z) (by simp)
 refine ⟨⟨J.ok.mod,S.kind,rfl,rfl,bW _,fun x w c aq aD=>?_,fun x ag=>?_,fun x c hf e=>?_,fun _=>ak.hd,alH hN,.inr ⟨rfl,rfl⟩,fun b z=>absurd z (sd b),J.bs,cP J.ok.jP J.kO,fun b _ _=>sd b,fun b z=>absurd z (sd b),J.stack,J.xt⟩,
  rfl,J.bare,eJ.kept aC,⟨_,nr,fun i x ah1 aq aD bL=>?_⟩,fun x c e=>?_,J.a4.fresh (bW _),fun x c e=>?_,fun z aJ=>absurd (show z ∈ ([]:List (Addr × Obj)) from aJ) (by simp),J.a4.kept aC,rfl⟩
 .rcases B1 aq with ⟨rfl,rfl⟩ | ⟨rfl,rfl⟩ <;> rcases B1 aD with ⟨rfl,h⟩ | ⟨rfl,h⟩
  .rfl
  .exact absurd h ne
  .exact absurd h.symm ne
  .rfl
 .have ag:scope.names.lookup x=some .cell\/scope.names.lookup x=some .free:=ag;rcases ag with ag | ag
  .exact absurd rfl (S.uy _ (u6 ag))
  .rcases S.two _ (u6 ag) rfl with h | h
   .have h:x=y:=h;exact ⟨cc,by rw [h];exact Px⟩
   .have h:x=z:=h;exact ⟨cU,by rw [h];exact OV⟩
 .cases hf
 .match i,aq,aD with
  | 0,aq,aD=>
   cases aq;cases aD;exact ⟨u,jH,.inl ⟨S.par,by show nQ p [(p,u)]=some u;rw [j5,beq_self_eq_true]⟩⟩
  | 1,aq,aD=>
   cases aq;cases aD;exact ⟨mU,cE,.inr ⟨.inr S.MS,cc,Px,⟨va,aC _ _ QQ,TO⟩⟩⟩
  | 2,aq,aD=>
   cases aq;cases aD;exact ⟨Dn,fW,.inr ⟨.inr S.KC,cU,OV,⟨EZ,aC _ _ NO,PO⟩⟩⟩
  | i + 3,aq,_=>simp [rj] at aq
 .rcases B1 e with ⟨_,rfl⟩ | ⟨_,rfl⟩
  .exact ⟨_,va,aC _ _ QQ,TO⟩
  .exact ⟨_,EZ,aC _ _ NO,PO⟩
 .rcases B1 e with ⟨_,rfl⟩ | ⟨_,rfl⟩
  .exact b9
  .exact cI
theorem aaJ (S:zP p y z scope) (ak:dX k A) (hN:A.frames=some X.stack) (J:Inv X aa σ H s) (ne:cc ≠ cU) (b9:H cc=none) (cI:H cU=none)
  (cw:∃ u,bD v1 u/\s.heap.IsCell cc (some u)) (cN:∃ u,bD v2 u/\s.heap.IsCell cU (some u))
  (HD:H f=some (.ext (lM f q params body scope [(y,cc),(z,cU)] c'))) (kg:H c'=some (.ext (mz c' q)))
  (ab:∀ pm j4,bindArgs (ahp "<lambda>" q params body scope [(y,cc),(z,cU)] pm (.ref c') j4) ⟨[u],[]⟩=pure [(p,u)]) (jH:bD a u)
  (nv:bp (rj X A [p,y,z] q scope f c' [(y,cc),(z,cU)] s H) body t) (h:t [some a,some v1,some v2] H Q) :
  wpAny (model X.prog X.w) A (call (.ref f) [u]) (f7 X aa σ Q) E s:=by
 have inner:codeAny (model X.prog X.w) A (.call (.ref f) ⟨[u],[]⟩) (J8 dr X.stack X.prog X.w H s Q sO) s:=by
  obtain ⟨⟨pm,j4,aQ⟩,_⟩:=J.a4 _ _ HD;refine PySem.W.kla_callFunE ak.depth aQ rfl S.co S.gen rfl (J.a4 _ _ kg).1 ?_;rw [ab];refine wpAny_pure (wpAny_newFunctionEnv S.uy (fun z aJ=>by rw [gg.mp aJ];exact S.par) (fun af nr tR=>⟨J.nolimit.fresh _ tR,?_⟩) S.kind);have aC:∀ b o,s.heap.get? b=some o->af.get? b=some o:=fun b o e=>tR.extBut b o (fR (dJ e)) (dE _ e)
  show codeAny _ _ (.expr body (Gb q scope s.heap.objs.size f (.ref c') [(y,cc),(z,cU)])) _ _;have bE:=ac9 (f:=f) (c':=c') (q:=q) (tk:=s.toks + [(p,u)].length) S ak hN J ne b9 cI cw cN jH nr aC;refine PySem.W.kla_codeExpr (wpAny_mono (nv [] _ _ _ _ bE h) (fun anx s' aI=>?_) fun _ _ z=>hP z);obtain ⟨x,I,AW,bb,cW⟩:=aI;exact ⟨x,I,AW.os,AW.bare,AW.base,AW.a4,bb,cW⟩
 refine wpAny_call (codeAny_mono inner fun r s' aI=>?_);cases r with
 | error e=>exact aI.elim
 | ok cR=>
  cases cR with
  | ret u=>exact J.after aI
  | next=>exact hP aI
  | brk=>exact hP aI
  | cont=>exact hP aI
end
theorem aB.p {K:a_} (s:lb Pt H I) (t:Tab H Pt pos q) (h:aB K H a xs):aB K I a xs:=by
 rcases h with (h | ⟨o,h⟩) | h
 .exact .inl (.inl (s _ _ (t.ne h (fun _ z=>by cases z)) h))
 .exact .inl (.inr ⟨o,s _ _ (t.ne h (fun _ z=>by cases z)) h⟩)
 .exact .inr h
noncomputable def P2 (K:a_) (Pt:Addr) (qQ:Pos) (q:Str) (i1 i2:Nat) (t:TE) (a7:e_):TE:=fun σ H Q=>a7 σ H fun vs H1=>∃ l cb v1 v2,∃ g:Int->Int,vs=[.ref l]/\aB K H1 l (qh V.int cb)/\cb ≠ [] /\
 σ[i1]? = some (some v1)/\σ[i2]? = some (some v2)/\Tab H1 Pt qQ q/\∀ aw,lb Pt H1 aw->(aP H1->aP aw)->Tab aw Pt qQ q ->
  (∀ n ∈ cb,t [some (.int n),some v1,some v2] aw fun x I=>x=.int (g n)/\I=aw)/\∀ (i:Nat) m,cb[i]? = some m->(∀ (j:Nat) n,cb[j]? = some n->g m <= g n/\(j < i->g m < g n))->Q (.int m) aw
theorem akN {k:Nat} {t:TE} {p bH pos qQ:Pos}
  (av:X.calm=true) (a5:j7 X "min") (hm:X.mg "min"=none) (aO:iY X [a] a7) (T:Nl X c Pt) (ak:dX (k + 1) X.A) (S:zP pr y z scope) (af:X.env.cells.lookup y=some cc) (aj:X.env.cells.lookup z=some cU) (Ji:defaultsOf params X.env=([],[])) (pM:closureFor scope X.env=pure [(y,cc),(z,cU)])
  (bG:X.env.scope.names.lookup y=some .cell) (cT:X.env.scope.names.lookup z=some .cell) (ala:X.N[i1]? = some y) (afE:X.N[i2]? = some z)
  (ab:∀ c' pm j4 u,bindArgs (ahp "<lambda>" (X.env.qual ++ "<lambda>") params body scope [(y,cc),(z,cU)] pm (.ref c') j4) ⟨[u],[]⟩=pure [(pr,u)])
  (nv:∀ f c' s H,∃ t',bp (rj X X.A.in1 [pr,y,z] (X.env.qual ++ "<lambda>") scope f c' [(y,cc),(z,cU)] s H) body t'/\t'=t)
  (he:∀ pos,backTo pos (starEach [a] X.env)=(false,eval a X.env) :: backTo pos (starEach [] X.env):=by intro _;rfl) (cO:∀ pos,(backTo pos (starEach [a] X.env)).any (·.1)=false:=by intro _;rfl) :
  bp X (.Call (.Name "min" p) [a] [⟨some "key",.Lambda params body scope qQ,bH⟩] pos) (P2 X.K Pt qQ (X.env.qual ++ "<lambda>") i1 i2 t a7):=by
 intro aa s σ H Q J h;refine wpAny_Call_Name_kw (wH J a5 hm (show bootBuiltins "min"=some (.builtin "min") by ac_nf) ?_);refine callWith_kw (id := "min") (bA (aO pos aa s σ H _ J h) fun us s1 cF=>?_) (he:=he pos) (hplain:=cO pos);obtain ⟨vs,H1,aN,cE,bS⟩:=cF;obtain ⟨l,cb,v1,v2,g,rfl,aI,bX,aq,aD,bK,q⟩:=bS;refine kws_cons (WP aN T bK pM Ji fun f c' aw s2 bu bR bN si HD kg f6=>kws_nil ?_);obtain ⟨kI,ai3⟩:=q aw bR bN si;have Bu:=aI.p bR bK;have cell:∀ {aa:List (Addr × Obj)} {s:Shared} (bE:Inv X aa σ aw s) {i:Nat} {x:Str} {v:V} {cl:Addr},X.N[i]? = some x->σ[i]? = some (some v)->X.env.scope.names.lookup x=some .cell->X.env.cells.lookup x=some cl->∃ u,bD v u/\s.heap.IsCell cl (some u):=by
  intro aa s bE i x v cl bf ev ag r1;obtain ⟨m,aY,t5⟩:=bE.loc;obtain ⟨u,eo,lo⟩:=t5 i x v bf ev (.inr (.inl ag));have aC:X.env.kindOf x=some .cell:=ag;rcases lo with ⟨w,_⟩ | ⟨_,apB,c9,dH⟩
  .rw [aC] at w;cases w
  .rw [r1] at c9;cases c9;exact ⟨u,eo,dH⟩
 have agV:cc ≠ cU:=fun w=>S.ne (J.ok.inj _ _ _ af (by rw [w];exact aj))
 cases cE with
 | cons r sk=>
  cases sk;cases r;have aex:0 < cb.length:=Va.mpr bX;refine aiT (n:=cb.length) (P:=fun i v=>∃ t,v=.int (cb.getD i 0) t) (fun i=>g (cb.getD i 0)) (aN.ok.hd av) bu (fun aa s bE=>?_) aex (fun i v ah aF aa s bE=>?_) fun i v s' ah aF sR bE=>?_
  .obtain ⟨a9,cG,pl,aJ⟩:=bE.list Bu;have aA:=cG.length;rw [a0] at aA;refine ⟨a9,aA.symm,fun i v aF=>?_,pl.isList⟩;have ah:i < cb.length:=by have:=(cv.mp aF).1;omega
   obtain ⟨w,hw,h9⟩:=cG.get (show (cb.map V.int)[i]? = some (.int cb[i]) by rw [da,bc ah];rfl);rw [aF] at hw;cases hw;rw [iF,bc ah];exact h9
  .obtain ⟨t',Cy,rfl⟩:=nv f c' s aw;have hm:cb.getD i 0 ∈ cb:=by rw [iF,bc ah];exact jq ah
   exact aaJ (a:=.int (cb.getD i 0)) S ak.in1 aN.ok.frames bE agV (bE.h3 _ _ af) (bE.h3 _ _ aj) (cell bE ala aq bG af) (cell bE afE aD cT aj) HD kg (fun pm j4=>ab c' pm j4 v) aF Cy (kI _ hm)
  .obtain ⟨tk,rfl⟩:=aF;refine ⟨.int (cb.getD i 0),aw,bE,⟨tk,rfl⟩,ai3 i _ (by rw [iF,bc ah];rfl) fun j n aM=>?_⟩;have lG:j < cb.length:=(cv.mp aM).1;have e:cb.getD j 0=n:=by rw [iF,aM];rfl
   have:=sR j lG;rw [e] at this;exact this
theorem b8.ahV {w:World} {K:a_} {mg:Str->Option Value} {base:Heap} {x qual:Str} {st:Stmt} {fd:FuncData} {N ps:List Str} {k:Nat} (F:b8 K x qual st f fd) (S:ck N ps (bz st)) (len:∀ vs H Q E,sp vs H Q E->vs.length=ps.length)
  (nv:∀ (eP:Value),fd.code=eP->∀ (A:Around) (outer:List Env) (s:Shared) (H:au) (vs:List V) (Q:cJ) (E:dZ),dX k (A.deeper (envOfC qual (bz st) s.heap.objs.size f eP))->sp vs H Q E ->
   ∃ t,iR (mr dr P w K mg base N qual (bz st) f eP A outer s H E).lD (p5 st) t/\t { b2:=fun _ I=>Q .bO I,ku:=Q } (start N vs) H):b_ P w K mg base dr (k + 1) f fd ps sp:=by
 obtain ⟨md,bk,cM,doc,pm,an,eP,eH,qf,rfl,lk,jG⟩:=F.ex;refine Mb lk jG S len fun A outer s H vs Q E ak mG=>?_
 obtain ⟨t,h,q⟩:=nv eP rfl A outer s H vs Q E ak mG;exact ⟨t,h.lD,q⟩
def TF (_:Addr):Prop:=True
noncomputable abbrev Ov {P:Addr} (_:TF P):Addr:=P
theorem acY {l:PySem.W.OpenLaw} {n k:Nat} {q:Program} {loose:List Str} {CH:(Str->Option Value)->Heap->Prop} {uE:World->Heap->Prop} {d:DefRec} {K:Params->a_} {CX:jc} {sp:a_->Addr->bP} {x:Str} {Pt:Addr}
  (aY:l.most=some n) (oo:n <= sizeLine) (Mr:d.params.defaults=[]) (ak:dX k callerA)
  (ah8:∀ (w:World) (h:Heap),uE w h->(K w.params).In h) (et:∀ (w:World) (h:Heap),uE w h->h.get? Pt=some (S_ #[])) (fl:∀ p,alI (K p)=true)
  (F:∀ (w:World) (mg:Str->Option Value) (gd:Addr) (h:Heap),(K w.params).In h->h.Ns mainGlobals mg->mg d.name=some (.ref gd)->TF Pt ->
   ∃ (fd:FuncData) (c:Addr),(∀ (s:Shared) (u:Value),BindsTo s fd ⟨[u],[]⟩ [(x,u)])/\aa1 (K w.params) c Pt=true /\
    ∀ (base:Heap),(K w.params).In base->base.Ns mainGlobals mg->mS base c Pt->base.BuiltinsAt mg Pt->b_ l.prog w (K w.params) mg base CX k gd fd [x] (sp (K w.params) Pt))
  (mG:∀ (K:a_) (H:au) (a Pt:Addr) (ns:List Int),ns.length <= n->AL Pt H->aB K H a (ns.map V.int)->sp K Pt [.ref a] H (fun v _=>v=.bo true) fun _ _ _=>False)
  (FL:∀ (H:au) (s:Shared) (e:Value) (s':Shared),CX [] H s (fun _ _ _=>False) e s'->False) :
  PySem.W.WalkO q loose CH uE l.row.toRowW d [] (fun f vs=>ahh f vs):=by
 refine PI.al3 aY Mr fun w fv dd mg mx gd o pm cd doc a vs ns G Y aQ hd jG xc Ii hints hlen a5=>?_
 have e1:=ah8 w _ Y;obtain ⟨fd,c,ab,av,w7⟩:=F w mg gd _ e1 G.T.g xc trivial;exact aga (c:=c) (Pt:=Pt) e1 (fl w.params) G.T.g G.T.b G.T.builtins G.T.nolimit a5 G.T.bmain (PySem.W.codeHd_of_K e1 av) (et w _ Y) Ii hints (cP hlen oo) ak w7 ab (fun H lz dM=>mG (K w.params) H a Pt ns hlen lz dM) fun H e s'=>FL H dd e s'
noncomputable def Oz (st:Stmt):Expr:=match (p5 st).getLast? with
 | some (.Return (some (.Call _ _ [⟨_,e,_⟩] _)) _)=>e
 | _=>.Constant .none 0 ⟨0,0,0,0⟩
noncomputable def FC (t:dF):dF:=fun D σ H=>∃ d kvs,H d=some (.bx kvs)/\t { b2:=fun ax I=>∃ o,I d=some (.d6 o (.bx kvs))/\D.b2 ax (upd I d (.bx kvs)),ku:=fun _ _=>False } σ H
theorem ail {st:Stmt} {t:dF} (h:gJ X st t):gJ X st (FC t):=by
 intro aa s σ H D J q;obtain ⟨d,kvs,ho,q⟩:=q;refine bA (h aa s σ H _ J q) fun f s1 aI=>?_
 cases f with
 | next=>
  obtain ⟨f_,H1,aN,o,aq,bS⟩:=aI;refine ⟨f_,_,MY aN aq (fun dx u z=>?_),bS⟩;have:=J.base.jo d dx u z;rw [ho] at this;cases this
 | ret u=>obtain ⟨_,_,_,_,_,z⟩:=aI;exact z.elim
 | brk=>obtain ⟨_,_,_,z⟩:=aI;exact z.elim
 | cont=>obtain ⟨_,_,_,z⟩:=aI;exact z.elim
theorem dG (t u:dF) (D:gO) (σ:St) (H:au):JX t u D σ H=(t { D with b2:=u D } σ H):=rfl
theorem QJ (K:a_):BT K a7 e3 f D σ H=(e3 σ H fun y H1=>a7 σ H1 fun x aw=>fa x fun a=>∃ C ao aK,aw a=some (.ins C ao aK)/\gP K C/\ac K C f/\aK.length < 1000 /\
 D.b2 σ (upd aw a (.ins C ao (c2 f y aK)))):=rfl
theorem RF (K:a_) (kc:V->V->au->cJ->Prop):Tz K a7 e3 kc f D σ H=(a7 σ H fun x H1=>∃ a C ao aK v,x=.ref a/\H1 a=some (.ins C ao aK)/\gP K C/\ac K C f/\aK.lookup f=some v /\
 e3 σ H1 fun y aw=>kc v y aw fun z bw=>∃ hk l1,bw a=some (.ins C hk l1)/\l1.length < 1000/\D.b2 σ (upd bw a (.ins C hk (c2 f z l1)))):=rfl
theorem Rb (t:e_):LH C m sp dvs E a7 t σ H Q=(a7 σ H fun x H1=>fa x fun a=>∃ ao aK,H1 a=some (.ins C ao aK)/\aK.lookup m=none /\
 t σ H1 fun vs aw=>sp (x :: (vs ++ dvs)) aw Q E):=rfl
theorem To (t:e_):PP C sp dvs E t σ H Q=(t σ H fun vs H1=>∀ x ao,H1 x=none->H1 ao=none->ao ≠ x ->
 sp (.ref x :: (vs ++ dvs)) (upd (upd H1 ao (.own x)) x (.ins C ao [])) (fun v aw=>v=.bO/\Q (.ref x) aw) E):=rfl
theorem PT (K:a_) (x:V) (lo:Option Int) (ah:Option Int) (H:au) (Q:cJ):SO K x lo ah H Q=(∃ a xs,x=.ref a/\c0 K H a xs /\
 ¬ (fZ.dc xs.length 0 lo=0/\fZ.dc xs.length xs.length ah=xs.length)/\∀ p,H p=none->Q (.ref p) (upd H p (.tup (mm xs lo ah)))):=rfl
theorem R2 (fg ty rd:TE):O' fg ty rd σ H Q=(fg σ H fun x H1=>∃ a,x=.ref a/\F0 H1 a/\ty σ H1 fun y aw=>rd σ aw fun z bw=>∃ kvs k,bw a=some (.bx kvs)/\y=cM k /\
 (∀ v,cY kvs k=some v->Q v (upd bw a (.bx (p3 kvs k))))/\(cY kvs k=none->Q z bw)):=rfl
theorem Rt (t:e_):Rr oy m n8 E a7 t σ H Q=(a7 σ H fun x H1=>∃ a C ao aK,x=.ref a/\H1 a=some (.ins C ao aK)/\oy C/\aK.lookup m=none /\
 t σ H1 fun vs aw=>n8 C (x :: vs) aw Q E):=rfl
theorem Wk (K:a_):Qq K a7 e3 f D σ H=(e3 σ H fun y H1=>a7 σ H1 fun x aw=>∃ a C,x=.ref a/\aw a=some (.ext (fH a C none))/\l0 K C/\ac K C f /\
 ∀ ao,aw ao=none->ao ≠ a->D.b2 σ (upd (upd aw a (.ext (fH a C (some ao)))) ao (.ext (ka ao [(f,y)])))):=rfl
theorem MN (t:e_):N0 C m sp dvs E a7 t σ H Q=(a7 σ H fun x H1=>∃ a ao aK,x=.ref a/\H1 a=some (.ins C ao aK)/\aK.lookup m=none /\
 t σ H1 fun vs aw=>sp (x :: (vs ++ dvs)) aw Q (E σ)):=rfl
theorem PU (K:a_) (t:TE):P2 K Pt qQ q i1 i2 t a7 σ H Q=(a7 σ H fun vs H1=>∃ l cb v1 v2,∃ g:Int->Int,vs=[.ref l]/\aB K H1 l (qh V.int cb)/\cb ≠ [] /\
 σ[i1]? = some (some v1)/\σ[i2]? = some (some v2)/\Tab H1 Pt qQ q/\∀ aw,lb Pt H1 aw->(aP H1->aP aw)->Tab aw Pt qQ q ->
  (∀ n ∈ cb,t [some (.int n),some v1,some v2] aw fun x I=>x=.int (g n)/\I=aw)/\∀ (i:Nat) m,cb[i]? = some m->(∀ (j:Nat) n,cb[j]? = some n->g m <= g n/\(j < i->g m < g n))->Q (.int m) aw):=rfl
def d3 (bE:jm) (g:gH) (bK:dF) (D:gO) (σ:St) (H:au):Prop:=∃ W:Nat->Nat->St->au->Prop,(∃ m,W 0 m σ H)/\∀ i m σ H,W i m σ H ->
 (bE.stop i H/\D.b2 σ H)\/(bE.go i H/\∃ N:St->au->Prop,(∀ ax I,N ax I->∃ dt,dt < m/\W (i + 1) dt ax I)/\∀ x I,bE.ph i H x I->g x σ I fun cz aw=>bK { D with b2:=N,eH:=N,cA:=D.b2 } cz aw)
theorem SY:P0 gC g bK D σ H=gC σ H fun bE H1=>d3 bE g bK D σ H1:=rfl
def c6 (bE:jm) (g:gH) (dk:TT) (bJ:TE) (dv:St) (Q:cJ) (H:au):Prop:=∃ W:Nat->Nat->List V->au->Prop,(∃ m,W 0 m [] H)/\rH bE g dk bJ dv Q W
theorem Rg:JJ gC g dk bJ sel σ H Q=gC σ H fun bE H1=>c6 bE g dk bJ (blk sel σ) Q H1:=rfl
theorem VR:S3 a7 σ H R=(a7 σ H fun vs H1=>mD vs fun x=>gK x fun j=>-4611686018427387904 <= j/\j < 4611686018427387904/\R (nM 0 j.toNat) H1):=rfl
theorem aiv (f:α->β):[].map f=[]:=rfl
theorem akI (f:α->β) (a:α) (l:List α):(a :: l).map f=f a :: l.map f:=rfl
theorem ad5 (l:List α):[] ++ l=l:=rfl
theorem acr (a:α) (l r:List α):(a :: l) ++ r=a :: (l ++ r):=rfl
theorem alh (a b:α) (l:List α):(a :: l).set 0 b=b :: l:=rfl
theorem ajv (a b:α) (l:List α) (n:Nat):(a :: l).set (n + 1) b=a :: l.set n b:=rfl
theorem adh (a:α) (l:List α):(a :: l)[0]? = some a:=rfl
theorem YZ (a:α) (l:List α) (n:Nat):(a :: l)[n + 1]? = l[n]?:=rfl
theorem alJ:([]:List α).length=0:=rfl
theorem alk (a:α) (l:List α):(a :: l).length=l.length + 1:=rfl
theorem acu (f:α->Option β):(none:Option α).bind f=none:=rfl
theorem aln (f:α->Option β) (a:α):(some a).bind f=f a:=rfl
theorem abn (a:Option α):(some a).join=a:=rfl
theorem alM:(none:Option (Option α)).join=none:=rfl
theorem OY (sel:List (Option Nat)) (σ:St):blk sel σ=sel.map fun o=>o.bind fun j=>(σ[j]?).join:=rfl
theorem dW {t u:dF} (b:Bool) (av:∀ Q:Bool->au->Prop,Q b H->c σ H Q) (af:b=true->t D σ H) (aj:b=false->u D σ H):IP c t u D σ H:=by
 refine av _ ?_;cases b with
 | true=>exact af rfl
 | false=>exact aj rfl
theorem tI {t u:dF} (R:Bool->au->Prop) (av:∀ Q:Bool->au->Prop,(∀ b I,R b I->Q b I)->c σ H Q) (af:∀ I,R true I->t D σ I) (aj:∀ I,R false I->u D σ I):IP c t u D σ H:=by
 refine av _ fun b I r=>?_
 cases b with
 | true=>exact af I r
 | false=>exact aj I r
theorem qK {t:dF} {D:gO} {σ:St} {H:au} (R:St->au->Prop) (h:∀ fk:gO,(∀ σ H,R σ H->fk.b2 σ H)->fk.ku=D.ku->fk.cA=D.cA->fk.eH=D.eH->t fk σ H) (gy:∀ σ H,R σ H->D.b2 σ H):t D σ H:=h D gy rfl rfl rfl
theorem EK {t:dF} {D:gO} {σ:St} {H:au} (R:St->au->Prop) (h:∀ fk:gO,(∀ σ H,R σ H->fk.b2 σ H)->t fk σ H) (gy:∀ M,M=D.b2->∀ σ H,R σ H->M σ H):t D σ H:=h D (gy _ rfl)
theorem UR {p:Prop} (h:∀ q,q=p->q):p:=h p rfl
theorem r6 {t:dF} {D:gO} {σ:St} {H:au} (R:St->au->Prop) (h:∀ fk:gO,(∀ σ H,R σ H->fk.b2 σ H)->t fk σ H) (gy:∀ σ H,R σ H->D.b2 σ H):t D σ H:=h D gy
theorem HY {t u:dF} {D:gO} {σ:St} {H:au} (R:St->au->Prop) (h:∀ fk:gO,(∀ σ H,R σ H->fk.b2 σ H)->t fk σ H) (gy:∀ M,M=u D->∀ σ H,R σ H->M σ H):JX t u D σ H:=h { D with b2:=u D } (gy _ rfl)
theorem adI (v:V) (av:∀ Q:cJ,Q v H->bJ σ H Q) (h:D.ku v H):yR bJ D σ H:=av _ h
theorem oe (x y:Str):(x ++ y).length=x.length + y.length:=by
 show (x.cps ++ y.cps).size=_;rw [Array.size_append];rfl
theorem d3.range {lo:Int} {n:Nat} {g:gH} {bK:dF} {D:gO} {σ:St} {H:au} (Pv:Nat->St->au->Prop) (h0:Pv 0 σ H)
  (ay:∀ i σ H,i < n->Pv i σ H->g (.int (lo + i)) σ H fun cz aw=>bK { D with b2:=Pv (i + 1),eH:=Pv (i + 1),cA:=D.b2 } cz aw) (hd:∀ σ H,Pv n σ H->D.b2 σ H):d3 (nM lo n) g bK D σ H:=af2 Pv h0 ay hd
theorem d3.list {K:a_} (Pv:Nat->St->au->Prop) (h0:Pv 0 σ H) (aA:∀ i σ H,i <= xs.length->Pv i σ H->aB K H a xs)
  (ay:∀ i x σ H,xs[i]? = some x->Pv i σ H->g x σ H fun cz aw=>bK { D with b2:=Pv (i + 1),eH:=Pv (i + 1),cA:=D.b2 } cz aw) (hd:∀ σ H,Pv xs.length σ H->D.b2 σ H):d3 (m' K a) g bK D σ H:=afS Pv h0 aA ay hd
theorem d3.a9 (Pv:Nat->St->au->Prop) (h0:Pv 0 σ H)
  (ay:∀ i x σ H,xs[i]? = some x->Pv i σ H->g x σ H fun cz aw=>bK { D with b2:=Pv (i + 1),eH:=Pv (i + 1),cA:=D.b2 } cz aw) (hd:∀ σ H,Pv xs.length σ H->D.b2 σ H):d3 (pF xs) g bK D σ H:=aku Pv h0 ay hd
theorem c6.list {K:a_} (Pv:Nat->List V->au->Prop) (aJ:xs.length <= sizeLine) (h0:Pv 0 [] H) (aA:∀ i ys H,i <= xs.length->Pv i ys H->aB K H a xs/\ys.length <= i)
  (ay:∀ i x ys H,xs[i]? = some x->Pv i ys H->pE Pv g dk bJ dv i x ys H) (hd:∀ ys H,Pv xs.length ys H->∀ p,H p=none->Q (.ref p) (upd H p (.lst ys))):c6 (m' K a) g dk bJ dv Q H:=akE Pv aJ h0 aA ay hd
theorem c6.a9 (Pv:Nat->List V->au->Prop) (aJ:xs.length <= sizeLine) (h0:Pv 0 [] H) (aA:∀ i ys H,i <= xs.length->Pv i ys H->ys.length <= i)
  (ay:∀ i x ys H,xs[i]? = some x->Pv i ys H->pE Pv g dk bJ dv i x ys H) (hd:∀ ys H,Pv xs.length ys H->∀ p,H p=none->Q (.ref p) (upd H p (.lst ys))):c6 (pF xs) g dk bJ dv Q H:=ajB Pv aJ h0 aA ay hd
theorem c6.range {lo:Int} {n:Nat} {g:gH} {dk:TT} {bJ:TE} {dv:St} {Q:cJ} {H:au} (Pv:Nat->List V->au->Prop) (aJ:n <= sizeLine) (h0:Pv 0 [] H) (aA:∀ i ys H,i <= n->Pv i ys H->ys.length <= i)
  (ay:∀ i ys H,i < n->Pv i ys H->pE Pv g dk bJ dv i (.int (lo + i)) ys H) (hd:∀ ys H,Pv n ys H->∀ p,H p=none->Q (.ref p) (upd H p (.lst ys))):c6 (nM lo n) g dk bJ dv Q H:=abr Pv aJ h0 aA ay hd
theorem YE {α β:Type} {xs:List α} {i:Nat} {x:α} (f:α->β) (h:xs[i]? = some x):(xs.take (i + 1)).map f=(xs.take i).map f ++ [f x]:=by
 rw [pz,h,fS];rfl
theorem c6.ai4 {xs:List V} {g:gH} {bJ:TE} {dv:St} {Q:cJ} {H:au} (f:V->V) (aJ:xs.length <= sizeLine) (ay:∀ (i:Nat) (x:V) (N:V->au->Prop),xs[i]? = some x->N (f x) H->g x dv H fun cz aw=>Sub dv cz/\bJ cz aw N)
  (hd:∀ p,H p=none->Q (.ref p) (upd H p (.lst (xs.map f)))):c6 (pF xs) g oU bJ dv Q H:=by
 refine c6.a9 (fun i ys I=>I=H/\ys=(xs.take i).map f) aJ ⟨rfl,rfl⟩ (fun i ys I ah ⟨_,e⟩=>?_) (fun i x ys I ag ⟨aq,aD⟩ N bf=>?_) (fun ys I ⟨aq,aD⟩ p ar=>?_)
 .rw [e,a0,hE];omega
 .subst aq;exact ay i x (fun y cS=>N (ys ++ [y]) cS) ag (bf _ _ ⟨rfl,by rw [aD,YE f ag]⟩)
 .subst aq;rw [aD,ig];exact hd p ar
theorem c6.aho {lo:Int} {n:Nat} {g:gH} {bJ:TE} {dv:St} {Q:cJ} {H:au} (f:Nat->V) (aJ:n <= sizeLine) (ay:∀ (i:Nat) (N:V->au->Prop),i < n->N (f i) H->g (.int (lo + i)) dv H fun cz aw=>Sub dv cz/\bJ cz aw N)
  (hd:∀ p,H p=none->Q (.ref p) (upd H p (.lst ((fF n).map f)))):c6 (nM lo n) g oU bJ dv Q H:=by
 refine c6.range (fun i ys I=>I=H/\ys=(fF i).map f) aJ ⟨rfl,rfl⟩ (fun i ys I ah ⟨_,e⟩=>?_) (fun i ys I ah ⟨aq,aD⟩ N bf=>?_) (fun ys I ⟨aq,aD⟩ p ar=>?_)
 .rw [e,a0,tC];exact bW _
 .subst aq;exact ay i (fun y cS=>N (ys ++ [y]) cS) ah (bf _ _ ⟨rfl,by rw [aD,xm,fS];rfl⟩)
 .subst aq;rw [aD];exact hd p ar
theorem c6.akp {K:a_} (f:V->e2) (aA:aB K H a xs) (aJ:xs.length <= sizeLine) (aY:∀ x,o8 (f x)=true)
  (ay:∀ (i:Nat) (x:V) (H1:au) (N:V->au->Prop),xs[i]? = some x->aS H H1->(aP H->aP H1)->(∀ q,H1 q=none->N (.ref q) (upd H1 q (f x)))->g x dv H1 fun cz aw=>Sub dv cz/\bJ cz aw N)
  (hd:∀ (qs:List Addr) (H1:au),aS H H1->(aP H->aP H1)->qs.length=xs.length->(∀ (j:Nat) (q:Addr) (x:V),qs[j]? = some q->xs[j]? = some x->H1 q=some (f x)/\H q=none)->∀ p,H1 p=none->Q (.ref p) (upd H1 p (.lst (qs.map V.ref)))):c6 (m' K a) g oU bJ dv Q H:=by
 refine c6.list (fun i ys I=>∃ qs:List Addr,ys=qs.map V.ref/\qs.length=i/\aS H I/\(aP H->aP I)/\∀ (j:Nat) (q:Addr) (x:V),qs[j]? = some q->xs[j]? = some x->I q=some (f x)/\H q=none) aJ
  ⟨[],rfl,rfl,aS.refl H,id,fun j q x h _=>by simp at h⟩ ?_ ?_ ?_
 .rintro i ys I ah bl;refine UR fun rN ba=>?_
  obtain ⟨qs,e,aD,bR,_,_⟩:=bl;subst ba;exact ⟨aA.same bR,by rw [e,a0];omega⟩
 .rintro i x ys I ag ⟨qs,aq,aD,bR,bN,al⟩ N bf;refine ay i x I (fun y cS=>N (ys ++ [y]) cS) ag bR bN fun q aI=>bf _ _ ⟨qs ++ [q],by rw [aq,fS];rfl,by rw [ec,aD];rfl,bR.fY (bR.free aI),fun n=>(bN n).upd (aY x),fun j cW fx af aj=>?_⟩
  by_cases aM:j < qs.length
  .rw [tP aM] at af;obtain ⟨ez,d9⟩:=al j cW fx af aj;exact ⟨by rw [aH (dj ez aI)];exact ez,d9⟩
  .rw [sf (by omega)] at af;have o':j - qs.length=0:=by
    cases de:j - qs.length with
    | zero=>rfl
    | succ n=>rw [de] at af;simp at af
   rw [o'] at af;have bL:q=cW:=by simpa using af
   subst bL;have ek:j=i:=by omega
   subst ek;rw [ag] at aj;cases aj;exact ⟨aX,bR.free aI⟩
 .rintro ys I ⟨qs,aq,aD,bR,bN,al⟩ p ar;subst aq;exact hd qs I bR bN aD al p ar
theorem d3.of (Pv:Nat->St->au->Prop) (h0:Pv 0 σ H) (ux:∀ i σ H,i < n->Pv i σ H->bE.go i H) (fO:∀ σ H,Pv n σ H->bE.stop n H)
  (ay:∀ i σ H x I,i < n->Pv i σ H->bE.ph i H x I->g x σ I fun cz aw=>bK { D with b2:=Pv (i + 1),eH:=Pv (i + 1),cA:=D.b2 } cz aw) (hd:∀ σ H,Pv n σ H->D.b2 σ H):d3 bE g bK D σ H:=by
 refine ⟨fun i m σ H=>m=n - i/\i <= n/\Pv i σ H,⟨n,by simp,fC _,h0⟩,?_⟩;rintro i m σ H ⟨rfl,ah,p⟩;by_cases dD:i < n
 .exact .inr ⟨ux i σ H dD p,Pv (i + 1),fun ax I ju=>⟨n - (i + 1),by omega,rfl,dD,ju⟩,fun x I y=>ay i σ H x I dD p y⟩
 .have e:i=n:=by omega
  subst e;exact .inl ⟨fO σ H p,hd σ H p⟩
theorem c6.of (Pv:Nat->List V->au->Prop) (aJ:n <= sizeLine) (h0:Pv 0 [] H) (ux:∀ i ys H,i < n->Pv i ys H->bE.go i H) (fO:∀ ys H,Pv n ys H->bE.stop n H) (aA:∀ i ys H,i < n->Pv i ys H->ys.length <= i)
  (ay:∀ i ys H x I,i < n->Pv i ys H->bE.ph i H x I->pE Pv g dk bJ dv i x ys I) (hd:∀ ys H,Pv n ys H->∀ p,H p=none->Q (.ref p) (upd H p (.lst ys))):c6 bE g dk bJ dv Q H:=by
 refine ⟨fun i m ys H=>m=n - i/\i <= n/\Pv i ys H,⟨n,by simp,fC _,h0⟩,?_⟩;rintro i m ys H ⟨rfl,ah,p⟩;by_cases dD:i < n
 .have vc:=aA i ys H dD p;refine .inr ⟨ux i ys H dD p,by omega,fun x I y=>?_⟩;exact ay i ys H x I dD p y (fun jx I=>∃ dt,dt < n - i/\dt=n - (i + 1)/\i + 1 <= n/\Pv (i + 1) jx I) fun jx I r=>⟨n - (i + 1),by omega,rfl,dD,r⟩
 .have e:i=n:=by omega
  subst e;exact .inl ⟨fO ys H p,hd ys H p⟩
section
variable {K:a_} {a b:Addr} {xs ys:List V} {g:gH} {bK:dF} {D:gO} {σ dv:St} {H:au} {dk:TT} {bJ:TE} {Q:cJ}
theorem d3.enum (Pv:Nat->St->au->Prop) (h0:Pv 0 σ H) (aA:∀ i σ H,i <= xs.length->Pv i σ H->aB K H a xs)
  (ay:∀ i x σ H p,xs[i]? = some x->Pv i σ H->H p=none->g (.ref p) σ (upd H p (.tup [.int i,x])) fun cz aw=>bK { D with b2:=Pv (i + 1),eH:=Pv (i + 1),cA:=D.b2 } cz aw) (hd:∀ σ H,Pv xs.length σ H->D.b2 σ H):d3 (CD K a) g bK D σ H:=by
 refine d3.of (n:=xs.length) Pv h0 (fun i σ H ah p=>⟨xs,xs[i],aA i σ H (l3 ah) p,by simp [ah]⟩) (fun σ H p=>⟨xs,aA _ σ H (bW _) p,bW _⟩) (fun i σ H v I ah p y=>?_) hd;obtain ⟨q,x,aI,rfl,ag,rfl⟩:=y;exact ay i x σ H q (ag xs (aA i σ H (l3 ah) p)) p aI
theorem d3.zip (Pv:Nat->St->au->Prop) (h0:Pv 0 σ H) (aA:∀ i σ H,i <= xs.length->Pv i σ H->aB K H a xs/\aB K H b ys) (n:Nat) (aY:n=min xs.length ys.length)
  (ay:∀ i x y σ H p,xs[i]? = some x->ys[i]? = some y->Pv i σ H->H p=none->g (.ref p) σ (upd H p (.tup [x,y])) fun cz aw=>bK { D with b2:=Pv (i + 1),eH:=Pv (i + 1),cA:=D.b2 } cz aw) (hd:∀ σ H,Pv n σ H->D.b2 σ H):d3 (aap K a b) g bK D σ H:=by
 subst aY;refine d3.of (n:=min xs.length ys.length) Pv h0 (fun i σ H ah p=>?_) (fun σ H p=>?_) (fun i σ H v I ah p y=>?_) hd
 .obtain ⟨ez,d9⟩:=aA i σ H (by omega) p;exact ⟨xs,ys,xs[i],ys[i],ez,d9,by rw [bc (by omega)],by rw [bc (by omega)]⟩
 .obtain ⟨ez,d9⟩:=aA _ σ H (by omega) p;exact ⟨xs,ys,ez,d9,by omega⟩
 .obtain ⟨q,x,y,aI,rfl,ag,bh,rfl⟩:=y;obtain ⟨ez,d9⟩:=aA i σ H (by omega) p;exact ay i x y σ H q (ag xs ez) (bh ys d9) p aI
theorem c6.enum (Pv:Nat->List V->au->Prop) (aJ:xs.length <= sizeLine) (h0:Pv 0 [] H) (aA:∀ i ys H,i <= xs.length->Pv i ys H->aB K H a xs/\ys.length <= i)
  (ay:∀ i x ys H p,xs[i]? = some x->Pv i ys H->H p=none->pE Pv g dk bJ dv i (.ref p) ys (upd H p (.tup [.int i,x]))) (hd:∀ ys H,Pv xs.length ys H->∀ p,H p=none->Q (.ref p) (upd H p (.lst ys))):c6 (CD K a) g dk bJ dv Q H:=by
 refine c6.of (n:=xs.length) Pv aJ h0 (fun i ys H ah p=>⟨xs,xs[i],(aA i ys H (l3 ah) p).1,by simp [ah]⟩) (fun ys H p=>⟨xs,(aA _ ys H (bW _) p).1,bW _⟩) (fun i ys H ah p=>(aA i ys H (l3 ah) p).2) (fun i zs H v I ah p y=>?_) hd;obtain ⟨q,x,aI,rfl,ag,rfl⟩:=y;exact ay i x zs H q (ag xs (aA i zs H (l3 ah) p).1) p aI
theorem Yp {p:Addr} {x y:V} (h:c0 K H p [x,y]) (q:R ((σ.set i (some x)).set j (some y)) H):t2 K 2 (rv (ht i) (rv (ht j) w2)) (.ref p) σ H R:=
 ⟨p,_,rfl,h,rfl,x,_,rfl,y,_,rfl,rfl,q⟩
theorem Dq {p:Addr} {x y:V} (q:R ((σ.set i (some x)).set j (some y)) (upd H p (.tup [x,y]))):t2 K 2 (rv (ht i) (rv (ht j) w2)) (.ref p) σ (upd H p (.tup [x,y])) R:=
 Yp (.inl (.inl aX)) q
end
theorem Sub.aa_ {v w:Option V}:Sub (none :: none :: r) (v :: w :: r):=by
 refine ⟨rfl,fun i u h=>?_⟩
 match i with
 | 0=>cases h
 | 1=>cases h
 | i + 2=>exact h
theorem Sub.uw {v w z:Option V}:Sub (none :: none :: none :: r) (v :: w :: z :: r):=by
 refine ⟨rfl,fun i u h=>?_⟩
 match i with
 | 0=>cases h
 | 1=>cases h
 | 2=>cases h
 | i + 3=>exact h
theorem c6.lR {K:a_} (aA:aB K H a xs) (aJ:xs.length <= sizeLine) (he:zs.length=xs.length)
  (ay:∀ (i:Nat) (x z:V) (N:V->au->Prop),xs[i]? = some x->zs[i]? = some z->N z H->g x dv H fun cz aw=>Sub dv cz/\bJ cz aw N) (hd:∀ p,H p=none->Q (.ref p) (upd H p (.lst zs))):c6 (m' K a) g oU bJ dv Q H:=by
 refine c6.list (fun i ys I=>I=H/\ys=zs.take i) aJ ⟨rfl,rfl⟩ (fun i ys I ah ⟨fD,e⟩=>?_) (fun i x ys I ag ⟨aq,aD⟩ N bf=>?_) (fun ys I ⟨aq,aD⟩ p ar=>?_)
 .subst fD;exact ⟨aA,by rw [e,hE];omega⟩
 .subst aq;have ah:i < zs.length:=by rw [he];exact (cv.mp ag).1
  have gk:zs[i]? = some zs[i]:=bc ah;exact ay i x zs[i] (fun y cS=>N (ys ++ [y]) cS) ag gk (bf _ _ ⟨rfl,by rw [aD,pz,gk];rfl⟩)
 .subst aq;rw [aD,<- he,ig];exact hd p ar
theorem c6.WL {K:a_} (aA:c0 K H a xs) (aJ:xs.length <= sizeLine) (he:zs.length=xs.length)
  (ay:∀ (i:Nat) (x z:V) (N:V->au->Prop),xs[i]? = some x->zs[i]? = some z->N z H->g x dv H fun cz aw=>Sub dv cz/\bJ cz aw N) (hd:∀ p,H p=none->Q (.ref p) (upd H p (.lst zs))):c6 (CN K a) g oU bJ dv Q H:=by
 refine agD (xs:=xs) (fun i ys I=>I=H/\ys=zs.take i) aJ ⟨rfl,rfl⟩ (fun i ys I ah ⟨fD,e⟩=>?_) (fun i x ys I ag ⟨aq,aD⟩ N bf=>?_) (fun ys I ⟨aq,aD⟩ p ar=>?_)
 .subst fD;exact ⟨aA,by rw [e,hE];omega⟩
 .subst aq;have ah:i < zs.length:=by rw [he];exact (cv.mp ag).1
  have gk:zs[i]? = some zs[i]:=bc ah;exact ay i x zs[i] (fun y cS=>N (ys ++ [y]) cS) ag gk (bf _ _ ⟨rfl,by rw [aD,pz,gk];rfl⟩)
 .subst aq;rw [aD,<- he,ig];exact hd p ar
theorem c6.sj {K:a_} {a:Addr} {xs:List V} {ss:List (Option V)} {g:gH} {dk:TT} {bJ:TE} {dv:St} {Q:cJ} {H:au} (aA:aB K H a xs) (aJ:xs.length <= sizeLine) (he:ss.length=xs.length)
  (ay:∀ (i:Nat) (x:V) (o:Option V) (ys:List V) (N:List V->au->Prop),xs[i]? = some x->ss[i]? = some o->N (ys ++ o.toList) H->g x dv H fun cz aw=>Sub dv cz/\dk cz aw fun c bw=>if c=true then bJ cz bw fun y cS=>N (ys ++ [y]) cS else N ys bw)
  (hd:∀ p,H p=none->Q (.ref p) (upd H p (.lst (ss.flatMap zW)))):c6 (m' K a) g dk bJ dv Q H:=by
 refine c6.list (fun i ys I=>I=H/\ys=(ss.take i).flatMap zW/\ys.length <= i) aJ ⟨rfl,rfl,bW _⟩ (fun i ys I ah ⟨fD,e,bQ⟩=>?_) (fun i x ys I ag ⟨aq,aD,bL⟩ N bf=>?_) (fun ys I ⟨aq,aD,_⟩ p ar=>?_)
 .subst fD;exact ⟨aA,bQ⟩
 .subst aq;have ah:i < ss.length:=by rw [he];exact (cv.mp ag).1
  have gk:ss[i]? = some ss[i]:=bc ah;refine ay i x ss[i] ys N ag gk (bf _ _ ⟨rfl,by rw [aD,pz,gk,CG];simp,?_⟩);rw [ec];cases ss[i] <;> simp <;> omega
 .subst aq;rw [aD,<- he,ig];exact hd p ar
theorem adB (Pv:St->au->Prop) (wD:St->au->Nat) (h0:Pv σ H)
  (ay:∀ σ H,Pv σ H->∃ b:Bool,(∀ Q:Bool->au->Prop,Q b H->c σ H Q)/\(b=true->bK { D with b2:=fun ax I=>Pv ax I/\wD ax I < wD σ H,eH:=fun ax I=>Pv ax I/\wD ax I < wD σ H,cA:=D.b2 } σ H)/\(b=false->D.b2 σ H)):M3 c bK D σ H:=by
 refine ⟨fun m σ H=>m=wD σ H/\Pv σ H,⟨_,rfl,h0⟩,?_⟩;rintro m σ H ⟨rfl,p⟩;obtain ⟨b,av,af,aj⟩:=ay σ H p;refine av _ ?_;cases b with
 | true=>exact ⟨_,fun ax I ⟨ju,l⟩=>⟨_,l,rfl,ju⟩,af rfl⟩
 | false=>exact aj rfl
theorem Sub.name:Sub (none :: r) (v :: r):=by
 refine ⟨rfl,fun i w h=>?_⟩;cases i with
 | zero=>cases h
 | succ i=>exact h
theorem b5 {x:Str} {e:Expr} (bf:X.N.Nodup) (he:bp X e bJ) (ah:X.N[i]? = some x:=by rfl) (ag:Loc X.env.scope x:=by exact oj rfl) (ay:swapsWith e (some (.Name x pos')) pos.line X.env=pure false:=by rfl) (hf:X.fn x=true\/X.env.scope.names.lookup x=some .local:=by first | exact .inl rfl | exact .inr rfl | assumption):gJ X (.Assign [.Name x pos'] e pos) (uz bJ (ht i)):=oT bf ah ag he ay hf
theorem Db {x:Str} (bf:X.N.Nodup) (ah:X.N[i]? = some x:=by rfl) (ag:Loc X.env.scope x:=by exact oj rfl) (hf:X.fn x=true\/X.env.scope.names.lookup x=some .local:=by first | exact .inl rfl | exact .inr rfl | assumption):mT X (.Name x pos) (ht i):=SH bf ah ag hf
theorem cq (ak:wJ X r) (aO:bp X a a7) (ab:bp X b bK) (ay:Ui b:=by exact fun _ _=>rfl):bp X (.Subscript a b pos) (ra r a7 bK):=aeB ak aO ab ay
theorem cn {k:Nat} {fd:FuncData} {x:Str} {p pos:Pos} {e:Expr} {t:e_} (F:b_ X.prog X.w X.K X.mg X.base dr k f fd ps sp) (ak:dX k X.A) (hm:X.mg x=some (.ref f)) (aC:qr X.K (.ref f)=true) (ab:bY X.K fd ps []) (aO:iY X (e :: aV) t) (a5:j7 X x:=by rfl) (i6:(x == ("__debug__" : Str))=false:=by decide) (he:starEach (e :: aV) X.env=(false,eval e X.env) :: starEach aV X.env:=by rfl) (cO:(backTo pos (starEach aV X.env)).any (·.1)=false:=by rfl):bp X (.Call (.Name x p) (e :: aV) [] pos) (vK sp [] sO t):=aep F ak a5 hm aC ab .nil cx aO i6 he cO
end L2
local macro_rules|`(tactic|nofun)=>do let f(s:String):=(s.splitOn " ").toArray.map fun x=>Lean.mkCIdent x.toName;let c:=f "L2.BS L2.rb L2.zf L2.wS L2.EO L2.Gh L2.GP L2.Ej L2.Jz L2.G' L2.iy L2.dG L2.Kf L2.yR L2.GC L2.FR L2.ht L2.w2 L2.rv L2.t2 L2.uz L2.JI L2.Hy L2.ra L2.Fw L2.v5 L2.o4 L2.zt L2.Kc L2.IM L2.LA L2.Mv L2.QJ L2.RF L2.KS L2.wR L2.EB L2.FJ L2.JR L2.vK L2.Rb L2.To L2.zu L2.Hv L2.KR L2.J7 L2.PT L2.Gx L2.Fs L2.E5 L2.HJ L2.Bj L2.Mt L2.Ke L2.HC L2.LG L2.Jv L2.K1 L2.GW L2.Kb L2.IY L2.Ll L2.Js L2.IV L2.R2 L2.oU L2.DY L2.Iy L2.FK L2.Mq L2.Rt L2.wP L2.SB L2.Ef L2.JA L2.H6 L2.G6 L2.KN L2.Iq L2.LI L2.Wk L2.LD L2.MN L2.G7 L2.pD L2.GJ L2.EG L2.Fl L2.JZ L2.I6 L2.D2 L2.PU L2.FC L2.SY L2.Rg L2.VR L2.WC L2.Vu L2.NA L2.TM L2.Un L2.Sl L2.S6 L2.VA L2.PN L2.start L2.OY Nat.reduceAdd Nat.reduceSub List.replicate";let a:=f "L2.mr L2.aj1 L2.a3.lD L2.a3.gU L2.a3.block L2.a3.i0 L2.a3.aY L2.aiv L2.akI L2.ad5 L2.acr L2.alh L2.ajv L2.adh L2.YZ L2.alJ L2.alk L2.acu L2.aln L2.abn L2.alM"++c;let b:=c++f "L2.Ye L2.ajw L2.ajL L2.amc L2.abK List.map_cons List.map_nil Option.bind_none Option.bind_some Option.join_some Option.join_none List.length_cons List.length_nil Nat.zero_add List.cons_append List.nil_append List.append_nil List.set_cons_zero List.set_cons_succ List.getElem?_cons_zero List.getElem?_cons_succ Option.some.injEq L2.V.int.injEq L2.V.bo.injEq L2.V.str.injEq L2.V.ref.injEq L2.V.ty.injEq exists_eq_left' exists_eq_left exists_and_left List.cons.injEq and_true true_and and_assoc Int.zero_add reduceCtorEq false_and exists_false and_false ite_true ite_false if_true if_false Bool.false_eq_true L2.GD L2.zc false_or or_false Bool.not_true Bool.not_false decide_true decide_false";`(tactic|((try dsimp only [$[$a:ident],*]);(try simp only [$[$b:ident],*])))
local macro_rules | `(tactic| walk_at "B")=>`(tactic| first | rfl | (dsimp only [L2.a3.block];done) | (dsimp only [L2.a3.block];exact rfl))
local macro_rules | `(tactic| walk_at "F")=>`(tactic| exact ⟨rfl,rfl,rfl,by ac_nf,rfl,by ac_nf,by ac_nf⟩)
namespace L2
open PySem
theorem cy {P:Program} {w:World} {K:a_} {mg:Str->Option Value} {base:Heap} {C:jc} {m n:Nat} {f a:Addr} {fd b:FuncData} {ps q:List Str} {sp S:bP} (h:b_ P w K mg base C m f fd ps sp) (g:b_ P w K mg base C n f fd ps sp->b_ P w K mg base C (n+1) a b q S) (hm:m<=n:=by decide):b_ P w K mg base C (n+1) a b q S:=g (h.mono hm)
end L2
set_option hygiene false
local macro_rules | `(tactic| walk_at "O")=>`(tactic| (intro vs H Q E h;repeat (first | (obtain ⟨rfl,_⟩:=h;rfl) | (obtain ⟨_,h⟩:=h))))
set_option hygiene true
set_option hygiene false
local macro_rules | `(tactic| ac_rfl)=>`(tactic| refine UR fun rN ba=>?_)
local macro_rules | `(tactic| exists $e,0)=>`(tactic| refine EK $e (fun fk cL=>?_) fun rN ba=>?_)
local macro_rules | `(tactic| exists $e,2)=>`(tactic| refine EK $e (fun fk cQ=>?_) fun rN ba=>?_)
local macro_rules | `(tactic| exists $e,3)=>`(tactic| refine HY $e (fun fk cL=>?_) fun rN ba=>?_)
local macro_rules | `(tactic| exists $e,4)=>`(tactic| refine HY $e (fun D cL=>?_) fun rN ba=>?_)
local macro_rules | `(tactic| exists $e,5)=>`(tactic| refine HY $e (fun fk cQ=>?_) fun rN ba=>?_)
local macro_rules | `(tactic| exists $e,9)=>`(tactic| refine ($e) (by walk_at "O") (fun _ _ _ s H vs Q E ak h=>?_))
set_option hygiene true
namespace My
open PySem L2
local macro_rules|`(~~~$x)=>`(some (L2.V.ref $x))
abbrev gL:List Str:=["self","name"]
abbrev iD:List Str:=["least","most","members"]
abbrev kx:List Str:=["crossing","rows"]
abbrev ki:List Str:=["self","name","start","end","off","near","least"]
abbrev pe:List Str:=["self","own_asked"]
abbrev wI:List Str:=["_law_script","_law_k","_law_many"]
abbrev p_:List Str:=["crossing","one","other"]
abbrev yh:List Str:=["word","signs","most"]
abbrev BU:List Str:=["self","good"]
abbrev Eh:List Str:=["self","choices"]
abbrev Hn:List Str:=["self","low","high"]
abbrev A5:List Str:=["self","kind","name","start","end","off","near","least"]
abbrev Ab:List Str:=["crossing","name"]
abbrev Bq:List Str:=["stages","one","other"]
abbrev tx:List Str:=["self","asks"]
abbrev tY:List Str:=["name","self"]
abbrev Ck:List Str:=["places","way","second"]
abbrev z6:List Str:=["word","most_figures"]
abbrev xQ:List Str:=["crossing","text"]
abbrev Ai:List Str:=["reader","places","start"]
abbrev Af:List Str:=["sort","name","start","end","off","near","least"]
abbrev yo:List Str:=["self","row","told"]
abbrev xh:List Str:=["self","crossing","rows","one","other"]
abbrev xI:List Str:=["self","stages"]
abbrev zH:List Str:=["self","number"]
abbrev Aa:List Str:=["places","way","place"]
abbrev DZ:List Str:=["word","low","high"]
abbrev yS:List Str:=["crossing","first","second","turns","one"]
abbrev LL:List Str:=["crossing","first","second"]
abbrev HM:List Str:=["reader","crossing","left"]
abbrev Di:List Str:=["reader","crossing","rows"]
abbrev GL:List Str:=["reader","ways"]
abbrev AZ:List Str:=["reader","places","ways"]
abbrev Fe:List Str:=["_law_script","_law_many"]
abbrev zU:List Str:=["_law_script","_law_most"]
abbrev zp:List Str:=["_law_places","_law_ways_here"]
abbrev L0:List Str:=["_law_one","_law_other","_law_places"]
abbrev LZ:List Str:=["_law_ways_here","_law_one","_law_other"]
abbrev y1:List Str:=["_law_script","_law_places","_law_ways_here"]
abbrev zA:List Str:=["_law_ways_here","_law_stages_here"]
abbrev yV:List Str:=["_law_script","_law_turn","_law_ways_here"]
abbrev Jh:List Str:=["_law_keeper","_law_asks_here"]
abbrev CA:List Str:=["_law_script","_law_turn","_law_keeper","_law_ways_here","_law_asks_here"]
abbrev C6:List Str:=["self","crossing","rows"]
abbrev B3:List Str:=["self","places","ways"]
abbrev BX:List Str:=["name","crossing"]
abbrev Bk:List Str:=["least","most","members","crossing"]
abbrev BW:List Str:=["_law_i","_law_ways_here"]
abbrev Lh:List Str:=["crossing","rows","told"]
abbrev EU:List Str:=["reader","crossing","left","first","members","alike"]
abbrev Il:List Str:=["_law_script","_law_places","_law_ways_here","_law_stages_here","_law_keeper","_law_waiting","_law_turn","_law_asks_here","_law_ahead","_law_handed","_law_row","_law_name","_law_shade"]
abbrev Ir:List Str:=["self","waited","same","others","choices","last","many"]
noncomputable def top (i:Nat):Stmt:=PySem.Challenge.pw_lampway_k35_who_waits.main.body.getD i (.Pass ⟨0,0,0,0⟩)
noncomputable abbrev Tq:Stmt:=top 9
theorem RC:ck ["places","way","place","steps"] Aa (bz Tq):=(by walk_at "F")
noncomputable abbrev U0:Stmt:=top 10
theorem ad8:ck Ck Ck (bz U0):=(by walk_at "F")
noncomputable abbrev RL:Stmt:=top 11
theorem E3:ck ["crossing","one","other","way","second"] p_ (bz RL):=(by walk_at "F")
noncomputable abbrev O3:Stmt:=top 12
theorem Fc:ck ["crossing","one","other","way","second"] p_ (bz O3):=(by walk_at "F")
noncomputable abbrev Jx:Stmt:=top 18
theorem aiw:ck ["text"] ["text"] (bz Jx):=(by walk_at "F")
noncomputable abbrev J2:Stmt:=top 19
theorem ae6:ck yh yh (bz J2):=(by walk_at "F")
noncomputable abbrev PH:Stmt:=top 20
theorem xz:ck z6 z6 (bz PH):=(by walk_at "F")
noncomputable abbrev PV:Stmt:=top 21
theorem MB:ck ["word","low","high","number"] DZ (bz PV):=(by walk_at "F")
noncomputable abbrev N':Stmt:=top 22
theorem KF:ck ["word"] ["word"] (bz N'):=(by walk_at "F")
noncomputable abbrev KP:Stmt:=top 25
theorem afo:ck ["text"] ["text"] (bz KP):=(by walk_at "F")
noncomputable abbrev Tc:Stmt:=top 30
theorem alo:ck Ab Ab (bz Tc):=(by walk_at "F")
noncomputable abbrev Pa:Stmt:=top 31
theorem xU:ck ["members","homes","number","names","name"] ["members"] (bz Pa):=(by walk_at "F")
noncomputable abbrev wX:Stmt:=top 32
theorem Hi:ck yS LL (bz wX):=(by walk_at "F")
noncomputable abbrev B_:Stmt:=top 33
theorem OF:ck Lh kx (bz B_):=(by walk_at "F")
noncomputable abbrev zK:Stmt:=top 34
theorem AE:ck EU HM (bz zK):=(by walk_at "F")
noncomputable abbrev U2:Stmt:=top 35
theorem ul:ck ["reader","crossing","rows","least","most"] Di (bz U2):=(by walk_at "F")
noncomputable abbrev Sv:Stmt:=top 36
theorem NR:ck ["crossing","rows","left"] kx (bz Sv):=(by walk_at "F")
noncomputable abbrev HL:Stmt:=top 37
theorem Br:ck ["crossing","rows","homes","name","number"] kx (bz HL):=(by walk_at "F")
noncomputable abbrev Go:Stmt:=top 38
theorem wf:ck ["crossing","rows","number","row","one","other"] kx (bz Go):=(by walk_at "F")
noncomputable abbrev NU:Stmt:=top 39
theorem KH:ck ["crossing","text","rows","reader"] xQ (bz NU):=(by walk_at "F")
noncomputable abbrev SS:Stmt:=top 40
theorem abx:ck Bq Bq (bz SS):=(by walk_at "F")
noncomputable abbrev QU:Stmt:=top 56
theorem Sm:ck ["reader","places"] ["reader"] (bz QU):=(by walk_at "F")
noncomputable abbrev Pi:Stmt:=top 57
theorem UX:ck ["reader","ways","name"] GL (bz Pi):=(by walk_at "F")
noncomputable abbrev Wo:Stmt:=top 58
theorem ag8:ck Ai Ai (bz Wo):=(by walk_at "F")
noncomputable abbrev Vy:Stmt:=top 59
theorem aby:ck Af Af (bz Vy):=(by walk_at "F")
noncomputable abbrev VJ:Stmt:=top 60
theorem qd:ck ["reader","places","ways","sort","name","start","end","off","near","least"] AZ (bz VJ):=(by walk_at "F")
noncomputable abbrev UY:Stmt:=top 61
theorem wF:ck ["text","rows","places","ways","reader"] ["text"] (bz UY):=(by walk_at "F")
noncomputable abbrev Rv:Stmt:=top 63
theorem s_:ck ["_law_script","_law_k","_law_many","_law_cell","_law_seed"] wI (bz Rv):=(by walk_at "F")
noncomputable abbrev Ed:Stmt:=top 64
theorem q3:ck ["_law_script","_law_many","_law_letters","_law_base","_law_way","_law_at","_law_names_here","_law_k","_law_sign"] Fe (bz Ed):=(by walk_at "F")
noncomputable abbrev M7:Stmt:=top 65
theorem mn:ck ["_law_script","_law_most","_law_places","_law_names_here","_law_ways_here","_law_k","_law_start","_law_end","_law_sort","_law_off","_law_near"] zU (bz M7):=(by walk_at "F")
noncomputable abbrev Kv:Stmt:=top 66
theorem F7:ck ["_law_places","_law_ways_here","_law_rows","_law_way"] zp (bz Kv):=(by walk_at "F")
noncomputable abbrev Qz:Stmt:=top 67
theorem AK:ck ["_law_one","_law_other","_law_places","_law_length","_law_start","_law_end"] L0 (bz Qz):=(by walk_at "F")
noncomputable abbrev OP:Stmt:=top 68
theorem NV:ck ["_law_ways_here","_law_one","_law_other","_law_tram"] LZ (bz OP):=(by walk_at "F")
noncomputable abbrev K9:Stmt:=top 69
theorem k0:ck ["_law_script","_law_places","_law_ways_here","_law_some","_law_k","_law_fits","_law_j","_law_good","_law_i","_law_stages_here","_law_low","_law_more"] y1 (bz K9):=(by walk_at "F")
noncomputable abbrev K3:Stmt:=top 70
theorem xW:ck ["_law_ways_here","_law_stages_here","_law_rows","_law_low","_law_high","_law_some"] zA (bz K3):=(by walk_at "F")
noncomputable abbrev OI:Stmt:=top 71
theorem Dh:ck ["_law_script","_law_turn","_law_ways_here","_law_rate","_law_asks_here","_law_k"] yV (bz OI):=(by walk_at "F")
noncomputable abbrev UG:Stmt:=top 72
theorem yT:ck ["_law_keeper","_law_asks_here","_law_found","e"] Jh (bz UG):=(by walk_at "F")
noncomputable abbrev We:Stmt:=top 73
theorem BH:ck ["_law_script","_law_turn","_law_keeper","_law_ways_here","_law_asks_here","_law_strange_here","_law_handed","_law_before"] CA (bz We):=(by walk_at "F")
noncomputable abbrev B9:Stmt:=top 74
theorem k1:ck Il ["_law_script"] (bz B9):=(by walk_at "F")
noncomputable abbrev Nc:Stmt:=eR (top 4) 0
theorem ajM:ck gL gL (bz Nc):=(by walk_at "F")
noncomputable abbrev NY:Stmt:=eR (top 24) 0
theorem aea:ck yo yo (bz NY):=(by walk_at "F")
noncomputable abbrev UH:Stmt:=eR (top 24) 1
theorem ahl:ck ["self"] ["self"] (bz UH):=(by walk_at "F")
noncomputable abbrev Rx:Stmt:=eR (top 24) 2
theorem al1:ck ["self"] ["self"] (bz Rx):=(by walk_at "F")
noncomputable abbrev Pf:Stmt:=eR (top 24) 4
theorem ae5:ck BU BU (bz Pf):=(by walk_at "F")
noncomputable abbrev Py:Stmt:=eR (top 24) 5
theorem TR:ck ["self","choices","found"] Eh (bz Py):=(by walk_at "F")
noncomputable abbrev UL:Stmt:=eR (top 24) 6
theorem Nd:ck ["self","low","high","found"] Hn (bz UL):=(by walk_at "F")
noncomputable abbrev Tj:Stmt:=eR (top 24) 7
theorem ahq:ck ["self"] ["self"] (bz Tj):=(by walk_at "F")
noncomputable abbrev uH:Stmt:=eR (top 29) 0
theorem HW:ck xh C6 (bz uH):=(by walk_at "F")
noncomputable abbrev R':Stmt:=eR (top 42) 0
theorem amj:ck xI xI (bz R'):=(by walk_at "F")
noncomputable abbrev Oh:Stmt:=eR (top 42) 1
theorem aei:ck ["self"] ["self"] (bz Oh):=(by walk_at "F")
noncomputable abbrev KV:Stmt:=eR (top 42) 2
theorem agI:ck ["self"] ["self"] (bz KV):=(by walk_at "F")
noncomputable abbrev Wm:Stmt:=eR (top 42) 3
theorem L_:ck ["self","colours","name"] ["self"] (bz Wm):=(by walk_at "F")
noncomputable abbrev Sy:Stmt:=eR (top 42) 4
theorem aht:ck gL gL (bz Sy):=(by walk_at "F")
noncomputable abbrev Ug:Stmt:=eR (top 42) 5
theorem HB:ck ["self","name","way","home"] gL (bz Ug):=(by walk_at "F")
noncomputable abbrev Ow:Stmt:=eR (top 42) 6
theorem mC:ck ["self","asks","name","colours","own_asked"] tx (bz Ow):=(by walk_at "F")
noncomputable abbrev QH:Stmt:=eR (top 42) 7
theorem aes:ck pe pe (bz QH):=(by walk_at "F")
noncomputable abbrev Tr:Stmt:=eR (top 42) 8
theorem akM:ck pe pe (bz Tr):=(by walk_at "F")
noncomputable abbrev Hr:Stmt:=eR (top 42) 9
theorem On:ck ["self"] ["self"] (bz Hr):=(by walk_at "F")
noncomputable abbrev tQ:Stmt:=eR (top 42) 10
theorem sJ:ck Ir ["self"] (bz tQ):=(by walk_at "F")
noncomputable abbrev Mz:Stmt:=eR (top 42) 11
theorem ajR:ck zH zH (bz Mz):=(by walk_at "F")
noncomputable abbrev SQ:Stmt:=eR (top 42) 12
theorem Ch:ck gL ["self"] (bz SQ):=(by walk_at "F")
noncomputable abbrev RG:Stmt:=eR (top 44) 0
theorem aj6:ck A5 A5 (bz RG):=(by walk_at "F")
noncomputable abbrev MP:Stmt:=eR (top 45) 0
theorem adF:ck ki ki (bz MP):=(by walk_at "F")
noncomputable abbrev QP:Stmt:=eR (top 45) 1
theorem aaa:ck ["self"] ["self"] (bz QP):=(by walk_at "F")
noncomputable abbrev Wp:Stmt:=eR (top 45) 2
theorem acd:ck ["self"] ["self"] (bz Wp):=(by walk_at "F")
noncomputable abbrev Oc:Stmt:=eR (top 46) 0
theorem Yy:ck ki ki (bz Oc):=(by walk_at "F")
noncomputable abbrev QY:Stmt:=eR (top 46) 1
theorem XA:ck ["self"] ["self"] (bz QY):=(by walk_at "F")
noncomputable abbrev Si:Stmt:=eR (top 46) 2
theorem aj5:ck ["self"] ["self"] (bz Si):=(by walk_at "F")
noncomputable abbrev Tp:Stmt:=eR (top 47) 0
theorem ahf:ck ki ki (bz Tp):=(by walk_at "F")
noncomputable abbrev RD:Stmt:=eR (top 47) 1
theorem WM:ck ["self"] ["self"] (bz RD):=(by walk_at "F")
noncomputable abbrev VI:Stmt:=eR (top 47) 2
theorem adW:ck ["self"] ["self"] (bz VI):=(by walk_at "F")
noncomputable abbrev Na:Stmt:=eR (top 55) 0
theorem J1:ck ["self","places","ways","number","way"] B3 (bz Na):=(by walk_at "F")
noncomputable abbrev D7:Stmt:=eR (top 55) 1
theorem afV:ck ["self"] ["self"] (bz D7):=(by walk_at "F")
noncomputable abbrev V0:Stmt:=eR (top 55) 2
theorem WK:ck gL gL (bz V0):=(by walk_at "F")
noncomputable abbrev Vo:Stmt:=eR (top 55) 3
theorem R5:ck gL gL (bz Vo):=(by walk_at "F")
set_option genInjectivity false in
set_option genInjectivity false in
structure bM where
 {z5 JD DM B5 z7 EF Ki HZ K4 w1 Hu JC FQ Ip E' AY De Be Dt vn Jn zz GH HT IU BV By yt GN Aw CU EY F5 zg CR Ar GR Bf Ht x_ x3 C4 AB BL B' AN Aj vF vV yZ xu uL BJ CO rJ x2 C2 CF AF Du Cc BC yp Ay ii x1 A_ Ba xa z0 zx vk xn sZ r4 g6 fq c3 k8 i5 i4 iS hz Gg lj n':Addr}
 {B7 HO zV CW DN HN Ho H9 H5 yj K8 Lc Jk K0 Kq y8 yI zX yU xf LR Cl Jw Mg Jl BD A8 xG F8 Av CB Ls HR AX Bl Ap Hl Bd zk A7 Uf E6 Im Mf L8 La ER BZ AU Ly Cb xx Fu re s6 zv Hp LC yE DU Lm GK Ao KJ JN CQ Hj I_ z1 LV LJ DO Dm yA tm:FuncData}
 {SX io Qa UN Wd OD Q7 Wt Qk Vm RT O_:Value}
structure Txt (w:World) (K:a_) (mg:Str->Option Value) (t:bM):Prop where
 O6:mg "in_bow"=some (.ref t.z5)
 C7:b8 K "in_bow" "in_bow" Tq t.z5 t.B7
 aeM:mg "bows_cross"=some (.ref t.JD)
 H8:b8 K "bows_cross" "bows_cross" U0 t.JD t.HO
 U8:mg "meet"=some (.ref t.DM)
 yX:b8 K "meet" "meet" RL t.DM t.zV
 ai7:mg "gap"=some (.ref t.B5)
 IN:b8 K "gap" "gap" O3 t.B5 t.CW
 WW:mg "words"=some (.ref t.z7)
 H':b8 K "words" "words" Jx t.z7 t.DN
 UE:mg "is_made_of"=some (.ref t.EF)
 As:b8 K "is_made_of" "is_made_of" J2 t.EF t.HN
 ahJ:mg "is_number"=some (.ref t.Ki)
 H7:b8 K "is_number" "is_number" PH t.Ki t.Ho
 aat:mg "figured"=some (.ref t.HZ)
 Hb:b8 K "figured" "figured" PV t.HZ t.H9
 aar:mg "is_name"=some (.ref t.K4)
 IE:b8 K "is_name" "is_name" N' t.K4 t.H5
 SN:mg "readers"=some (.ref t.w1)
 zY:b8 K "readers" "readers" KP t.w1 t.yj
 E4:mg "sort_of"=some (.ref t.Hu)
 xo:b8 K "sort_of" "sort_of" Tc t.Hu t.K8
 L7:mg "homes_in"=some (.ref t.JC)
 Tk:b8 K "homes_in" "homes_in" Pa t.JC t.Lc
 ZJ:mg "change_turns"=some (.ref t.FQ)
 I':b8 K "change_turns" "change_turns" wX t.FQ t.Jk
 TQ:mg "names_left"=some (.ref t.Ip)
 BR:b8 K "names_left" "names_left" B_ t.Ip t.K0
 aiF:mg "read_members"=some (.ref t.E')
 Eb:b8 K "read_members" "read_members" zK t.E' t.Kq
 alg:mg "read_stage"=some (.ref t.AY)
 bn:b8 K "read_stage" "read_stage" U2 t.AY t.y8
 afT:mg "refuse_never"=some (.ref t.De)
 J5:b8 K "refuse_never" "refuse_never" Sv t.De t.yI
 ahG:mg "refuse_short"=some (.ref t.Be)
 Md:b8 K "refuse_short" "refuse_short" HL t.Be t.zX
 aaF:mg "refuse_clash"=some (.ref t.Dt)
 LW:b8 K "refuse_clash" "refuse_clash" Go t.Dt t.yU
 alb:mg "read_stages"=some (.ref t.vn)
 DV:b8 K "read_stages" "read_stages" NU t.vn t.xf
 MR:mg "change"=some (.ref t.Jn)
 B2:b8 K "change" "change" SS t.Jn t.LR
 adV:mg "read_ring"=some (.ref t.zz)
 KW:b8 K "read_ring" "read_ring" QU t.zz t.Cl
 acT:mg "read_new_name"=some (.ref t.GH)
 D8:b8 K "read_new_name" "read_new_name" Pi t.GH t.Jw
 amn:mg "read_end"=some (.ref t.HT)
 Kp:b8 K "read_end" "read_end" Wo t.HT t.Mg
 YS:mg "made_way"=some (.ref t.IU)
 Ei:b8 K "made_way" "made_way" Vy t.IU t.Jl
 amk:mg "read_way"=some (.ref t.BV)
 Jj:b8 K "read_way" "read_way" VJ t.BV t.BD
 aam:mg "read_crossing"=some (.ref t.By)
 JK:b8 K "read_crossing" "read_crossing" UY t.By t.A8
 fm:mg "_law_draw"=some (.ref t.yt)
 eU:b8 K "_law_draw" "_law_draw" Rv t.yt t.xG
 abl:mg "_law_names"=some (.ref t.GN)
 Lw:b8 K "_law_names" "_law_names" Ed t.GN t.F8
 amL:mg "_law_ways"=some (.ref t.Aw)
 JP:b8 K "_law_ways" "_law_ways" M7 t.Aw t.Av
 XI:mg "_law_text"=some (.ref t.CU)
 Ez:b8 K "_law_text" "_law_text" Kv t.CU t.CB
 Z9:mg "_law_meet"=some (.ref t.EY)
 KQ:b8 K "_law_meet" "_law_meet" Qz t.EY t.Ls
 aio:mg "_law_alike"=some (.ref t.F5)
 I9:b8 K "_law_alike" "_law_alike" OP t.F5 t.HR
 alZ:mg "_law_stages"=some (.ref t.zg)
 Er:b8 K "_law_stages" "_law_stages" K9 t.zg t.AX
 akB:mg "_law_stages_text"=some (.ref t.CR)
 G5:b8 K "_law_stages_text" "_law_stages_text" K3 t.CR t.Bl
 aaj:mg "_law_asks"=some (.ref t.Ar)
 HV:b8 K "_law_asks" "_law_asks" OI t.Ar t.Ap
 Z':mg "_law_refused"=some (.ref t.GR)
 H_:b8 K "_law_refused" "_law_refused" UG t.GR t.Hl
 W':mg "_law_strange"=some (.ref t.Bf)
 HA:b8 K "_law_strange" "_law_strange" We t.Bf t.Bd
 aaG:mg "law"=some (.ref t.Ht)
 ahe:b8 K "law" "law" B9 t.Ht t.zk
 R6:mg "NoWay"=some (.ref t.lj)
 GM:dm K (.ref t.lj) "__init__"=some (some (.ref t.x_))
 Nb:b8 K "__init__" "NoWay.__init__" Nc t.x_ t.A7
 Zd:mg "RowReader"=some (.ref t.g6)
 am_:dm K (.ref t.g6) "__init__"=some (some (.ref t.x3))
 PL:b8 K "__init__" "RowReader.__init__" NY t.x3 t.Uf
 anN:dm K (.ref t.g6) "ahead"=some (some (.ref t.C4))
 Q8:b8 K "ahead" "RowReader.ahead" UH t.C4 t.E6
 ani:dm K (.ref t.g6) "has_more"=some (some (.ref t.AB))
 ci:b8 K "has_more" "RowReader.has_more" Rx t.AB t.Im
 apE:dm K (.ref t.g6) "take"=some (some (.ref t.BL))
 Uc:b8 K "take" "RowReader.take" Pf t.BL t.Mf
 apb:dm K (.ref t.g6) "one_of"=some (some (.ref t.B'))
 Uq:b8 K "one_of" "RowReader.one_of" Py t.B' t.L8
 apx:dm K (.ref t.g6) "figures"=some (some (.ref t.AN))
 T1:b8 K "figures" "RowReader.figures" UL t.AN t.La
 apw:dm K (.ref t.g6) "finish"=some (some (.ref t.Aj))
 Q2:b8 K "finish" "RowReader.finish" Tj t.Aj t.ER
 abC:mg "Stages"=some (.ref t.fq)
 am2:dm K (.ref t.fq) "__init__"=some (some (.ref t.vF))
 V2:b8 K "__init__" "Stages.__init__" uH t.vF t.BZ
 ag0:mg "Keeper"=some (.ref t.c3)
 aoX:dm K (.ref t.c3) "__init__"=some (some (.ref t.vV))
 Pp:b8 K "__init__" "Keeper.__init__" R' t.vV t.AU
 apn:dm K (.ref t.c3) "stage"=some (some (.ref t.yZ))
 PW:b8 K "stage" "Keeper.stage" Oh t.yZ t.Ly
 apz:dm K (.ref t.c3) "waits"=some (some (.ref t.xu))
 Uz:b8 K "waits" "Keeper.waits" KV t.xu t.Cb
 anf:dm K (.ref t.c3) "shown"=some (some (.ref t.uL))
 Vw:b8 K "shown" "Keeper.shown" Wm t.uL t.xx
 am8:dm K (.ref t.c3) "stage_colour"=some (some (.ref t.BJ))
 Ox:b8 K "stage_colour" "Keeper.stage_colour" Sy t.BJ t.Fu
 aor:dm K (.ref t.c3) "change_colour"=some (some (.ref t.CO))
 U9:b8 K "change_colour" "Keeper.change_colour" Ug t.CO t.re
 aph:dm K (.ref t.c3) "pass_turn"=some (some (.ref t.rJ))
 JL:b8 K "pass_turn" "Keeper.pass_turn" Ow t.rJ t.s6
 ant:dm K (.ref t.c3) "settle"=some (some (.ref t.x2))
 Vg:b8 K "settle" "Keeper.settle" QH t.x2 t.zv
 anr:dm K (.ref t.c3) "stays"=some (some (.ref t.C2))
 Do:b8 K "stays" "Keeper.stays" Tr t.C2 t.Hp
 aom:dm K (.ref t.c3) "tram_waits"=some (some (.ref t.CF))
 Tt:b8 K "tram_waits" "Keeper.tram_waits" Hr t.CF t.LC
 an3:dm K (.ref t.c3) "pick"=some (some (.ref t.AF))
 Rj:b8 K "pick" "Keeper.pick" tQ t.AF t.yE
 an8:dm K (.ref t.c3) "leave_for"=some (some (.ref t.Du))
 Ut:b8 K "leave_for" "Keeper.leave_for" Mz t.Du t.DU
 apC:dm K (.ref t.c3) "show_sought"=some (some (.ref t.Cc))
 U3:b8 K "show_sought" "Keeper.show_sought" SQ t.Cc t.Lm
 Fp:mg "Way"=some (.ref t.k8)
 amS:dm K (.ref t.k8) "__init__"=some (some (.ref t.BC))
 SA:b8 K "__init__" "Way.__init__" RG t.BC t.GK
 X0:mg "CarWay"=some (.ref t.i5)
 ao':dm K (.ref t.i5) "__init__"=some (some (.ref t.yp))
 Vn:b8 K "__init__" "CarWay.__init__" MP t.yp t.Ao
 amQ:dm K (.ref t.i5) "ready"=some (some (.ref t.Ay))
 Rl:b8 K "ready" "CarWay.ready" QP t.Ay t.KJ
 aox:dm K (.ref t.i5) "fade"=some (some (.ref t.ii))
 PX:b8 K "fade" "CarWay.fade" Wp t.ii t.JN
 air:mg "FootWay"=some (.ref t.i4)
 anq:dm K (.ref t.i4) "__init__"=some (some (.ref t.x1))
 OH:b8 K "__init__" "FootWay.__init__" Oc t.x1 t.CQ
 anS:dm K (.ref t.i4) "ready"=some (some (.ref t.A_))
 T':b8 K "ready" "FootWay.ready" QY t.A_ t.Hj
 aoa:dm K (.ref t.i4) "fade"=some (some (.ref t.Ba))
 Qr:b8 K "fade" "FootWay.fade" Si t.Ba t.I_
 ae9:mg "TramWay"=some (.ref t.iS)
 aoL:dm K (.ref t.iS) "__init__"=some (some (.ref t.xa))
 P4:b8 K "__init__" "TramWay.__init__" Tp t.xa t.z1
 anl:dm K (.ref t.iS) "ready"=some (some (.ref t.z0))
 OM:b8 K "ready" "TramWay.ready" RD t.z0 t.LV
 anH:dm K (.ref t.iS) "fade"=some (some (.ref t.zx))
 V6:b8 K "fade" "TramWay.fade" VI t.zx t.LJ
 af':mg "Crossing"=some (.ref t.hz)
 aog:dm K (.ref t.hz) "__init__"=some (some (.ref t.vk))
 Wa:b8 K "__init__" "Crossing.__init__" Na t.vk t.DO
 apl:dm K (.ref t.hz) "names"=some (some (.ref t.xn))
 WJ:b8 K "names" "Crossing.names" D7 t.xn t.Dm
 ana:dm K (.ref t.hz) "number"=some (some (.ref t.sZ))
 IT:b8 K "number" "Crossing.number" V0 t.sZ t.yA
 amU:dm K (.ref t.hz) "called"=some (some (.ref t.r4))
 E8:b8 K "called" "Crossing.called" Vo t.r4 t.tm
 fV:gP K t.g6
 Zn:o3 K t.g6 t.x3
 zy:fE K t.g6 "ahead" t.C4
 bi:fE K t.g6 "has_more" t.AB
 Gv:fE K t.g6 "take" t.BL
 vA:fE K t.g6 "one_of" t.B'
 qu:fE K t.g6 "figures" t.AN
 R0:fE K t.g6 "finish" t.Aj
 YH:ac K t.g6 "row"
 SD:ac K t.g6 "told"
 Ie:ac K t.g6 "place"
 jK:gP K t.fq
 aif:o3 K t.fq t.vF
 P_:ac K t.fq "crossing"
 V_:ac K t.fq "many"
 ML:ac K t.fq "leasts"
 Um:ac K t.fq "mosts"
 EE:ac K t.fq "members"
 U5:ac K t.fq "sorts"
 lm:ac K t.fq "homes"
 Fk:ac K t.fq "changes"
 dI:gP K t.c3
 amI:o3 K t.c3 t.vV
 Sg:fE K t.c3 "stage" t.yZ
 F':fE K t.c3 "waits" t.xu
 tN:fE K t.c3 "shown" t.uL
 amO:fE K t.c3 "stage_colour" t.BJ
 ad6:fE K t.c3 "change_colour" t.CO
 Ng:fE K t.c3 "pass_turn" t.rJ
 VP:fE K t.c3 "settle" t.x2
 lw:fE K t.c3 "stays" t.C2
 YG:fE K t.c3 "tram_waits" t.CF
 ajT:fE K t.c3 "pick" t.AF
 aiP:fE K t.c3 "leave_for" t.Du
 NF:fE K t.c3 "show_sought" t.Cc
 PY:ac K t.c3 "stages"
 BQ:ac K t.c3 "showing"
 y0:ac K t.c3 "lasted"
 Jc:ac K t.c3 "left"
 ID:ac K t.c3 "sought"
 zI:ac K t.c3 "gone"
 Ru:ac K t.c3 "waiting"
 WH:ac K t.c3 "picked"
 aoH:gP K t.k8
 anp:ac K t.k8 "kind"
 api:ac K t.k8 "name"
 aps:ac K t.k8 "start"
 apk:ac K t.k8 "end"
 anB:ac K t.k8 "off"
 anY:ac K t.k8 "near"
 apt:ac K t.k8 "least"
 FT:gP K t.i5
 aii:o3 K t.i5 t.yp
 alN:fE K t.i5 "ready" t.Ay
 abO:fE K t.i5 "fade" t.ii
 aa0:ac K t.i5 "kind"
 ajy:ac K t.i5 "name"
 aiM:ac K t.i5 "start"
 ajZ:ac K t.i5 "end"
 Ty:ac K t.i5 "off"
 afx:ac K t.i5 "near"
 afU:ac K t.i5 "least"
 Lf:gP K t.i4
 alK:o3 K t.i4 t.x1
 akV:fE K t.i4 "ready" t.A_
 akL:fE K t.i4 "fade" t.Ba
 ak1:ac K t.i4 "kind"
 agj:ac K t.i4 "name"
 ai_:ac K t.i4 "start"
 W0:ac K t.i4 "end"
 al9:ac K t.i4 "off"
 aeA:ac K t.i4 "near"
 YO:ac K t.i4 "least"
 HK:gP K t.iS
 Xz:o3 K t.iS t.xa
 aaE:fE K t.iS "ready" t.z0
 Xe:fE K t.iS "fade" t.zx
 aeE:ac K t.iS "kind"
 akK:ac K t.iS "name"
 ahS:ac K t.iS "start"
 X9:ac K t.iS "end"
 ww:ac K t.iS "off"
 acj:ac K t.iS "near"
 Os:ac K t.iS "least"
 hq:gP K t.hz
 aae:o3 K t.hz t.vk
 wG:fE K t.hz "names" t.xn
 RE:fE K t.hz "number" t.sZ
 mW:fE K t.hz "called" t.r4
 M8:ac K t.hz "places"
 Tl:ac K t.hz "ways"
 OR:ac K t.hz "numbers"
 ahY:mg "LampError"=some (.ref t.Gg)
 aeY:UD K t.Gg "__init__"
 agi:PD K t.lj
 wE:yw K t.lj t.x_
 Sa:ac K t.lj "name"
 apK:JF K (.ref t.lj) (.ref t.Gg)=some true
 aaC:JF K (.ref t.lj) (.ref t.lj)=some true
 anz:t.k8 ≠ t.i5
 anv:t.k8 ≠ t.i4
 aoi:t.k8 ≠ t.iS
 T_:t.i5 ≠ t.i4
 Tn:t.i5 ≠ t.iS
 U6:t.i4 ≠ t.iS
 LN:VE K t.k8 "__init__" t.BC
 agC:mg "FIGURES"=some t.SX
 ahH:bD (.str (ae "0123456789")) t.SX
 adC:mg "LEAST_PLACES"=some t.io
 afs:bD (.int 2) t.io
 abu:mg "LETTERS"=some t.Qa
 ab':bD (.str (ae "abcdefghijklmnopqrstuvwxyz")) t.Qa
 WV:mg "MOST_FIGURES"=some t.UN
 adp:bD (.int 3) t.UN
 XE:mg "MOST_LEAST"=some t.Wd
 ac2:bD (.int 60) t.Wd
 acE:mg "MOST_LETTERS"=some t.OD
 abH:bD (.int 8) t.OD
 als:mg "MOST_NEAR"=some t.Q7
 akl:bD (.int 30) t.Q7
 adq:mg "MOST_OFF"=some t.Wt
 adR:bD (.int 30) t.Wt
 adm:mg "MOST_PLACES"=some t.Qk
 XU:bD (.int 99) t.Qk
 WN:mg "MOST_STAGES"=some t.Vm
 Y9:bD (.int 6) t.Vm
 VO:mg "MOST_TURNS"=some t.RT
 Nx:bD (.int 60) t.RT
 KB:mg "MOST_WAYS"=some t.O_
 aix:bD (.int 12) t.O_
 Ya:mg "all"=none
 FS:mg "any"=none
 AP:mg "enumerate"=none
 HS:mg "int"=none
 hR:mg "len"=none
 yc:mg "list"=none
 Mc:mg "max"=none
 ZV:mg "min"=none
 oB:mg "range"=none
 wV:mg "str"=none
 sw:t.yE.code=.ref t.n'
 adw:∀ (s:Shared) (u:Value),BindsTo s t.zk ⟨[u],[]⟩ [("_law_script",u)]
section
variable {w:World} {K:a_} {mg:Str->Option Value} {t:bM} (T:Txt w K mg t)
include T
theorem Txt.Ro:bY K t.B7 Aa []:=T.C7.binds fun _ _ _ _ _ _=>hX fun _ _ _=>rfl
theorem Txt.al8:bY K t.HO Ck []:=T.H8.binds fun _ _ _ _ _ _=>hX fun _ _ _=>rfl
theorem Txt.FM:bY K t.zV p_ []:=T.yX.binds fun _ _ _ _ _ _=>hX fun _ _ _=>rfl
theorem Txt.akt:bY K t.CW p_ []:=T.IN.binds fun _ _ _ _ _ _=>hX fun _ _ _=>rfl
theorem Txt.Y4:bY K t.DN ["text"] []:=T.H'.binds fun _ _ _ _ _ _=>hQ fun _=>rfl
theorem Txt.S2:bY K t.HN yh []:=T.As.binds fun _ _ _ _ _ _=>hX fun _ _ _=>rfl
theorem Txt.aiQ:bY K t.Ho z6 []:=T.H7.binds fun _ _ _ _ _ _=>g4 fun _ _=>rfl
theorem Txt.acy:bY K t.H9 DZ []:=T.Hb.binds fun _ _ _ _ _ _=>hX fun _ _ _=>rfl
theorem Txt.aax:bY K t.H5 ["word"] []:=T.IE.binds fun _ _ _ _ _ _=>hQ fun _=>rfl
theorem Txt.S8:bY K t.yj ["text"] []:=T.zY.binds fun _ _ _ _ _ _=>hQ fun _=>rfl
theorem Txt.IX:bY K t.K8 Ab []:=T.xo.binds fun _ _ _ _ _ _=>g4 fun _ _=>rfl
theorem Txt.Hc:bY K t.Lc ["members"] []:=T.Tk.binds fun _ _ _ _ _ _=>hQ fun _=>rfl
theorem Txt.ajc:bY K t.Jk LL []:=T.I'.binds fun _ _ _ _ _ _=>hX fun _ _ _=>rfl
theorem Txt.M5:bY K t.K0 kx []:=T.BR.binds fun _ _ _ _ _ _=>g4 fun _ _=>rfl
theorem Txt.ag_:bY K t.Kq HM []:=T.Eb.binds fun _ _ _ _ _ _=>hX fun _ _ _=>rfl
theorem Txt.afz:bY K t.y8 Di []:=T.bn.binds fun _ _ _ _ _ _=>hX fun _ _ _=>rfl
theorem Txt.Zm:bY K t.yI kx []:=T.J5.binds fun _ _ _ _ _ _=>g4 fun _ _=>rfl
theorem Txt.aeH:bY K t.zX kx []:=T.Md.binds fun _ _ _ _ _ _=>g4 fun _ _=>rfl
theorem Txt.aeD:bY K t.yU kx []:=T.LW.binds fun _ _ _ _ _ _=>g4 fun _ _=>rfl
theorem Txt.aky:bY K t.xf xQ []:=T.DV.binds fun _ _ _ _ _ _=>g4 fun _ _=>rfl
theorem Txt.TD:bY K t.LR Bq []:=T.B2.binds fun _ _ _ _ _ _=>hX fun _ _ _=>rfl
theorem Txt.ak3:bY K t.Cl ["reader"] []:=T.KW.binds fun _ _ _ _ _ _=>hQ fun _=>rfl
theorem Txt.ahB:bY K t.Jw GL []:=T.D8.binds fun _ _ _ _ _ _=>g4 fun _ _=>rfl
theorem Txt.adv:bY K t.Mg Ai []:=T.Kp.binds fun _ _ _ _ _ _=>hX fun _ _ _=>rfl
theorem Txt.Xy:bY K t.Jl Af []:=T.Ei.binds fun _ _ _ _ _ _=>A2 fun _ _ _ _ _ _ _=>rfl
theorem Txt.agU:bY K t.BD AZ []:=T.Jj.binds fun _ _ _ _ _ _=>hX fun _ _ _=>rfl
theorem Txt.alp:bY K t.A8 ["text"] []:=T.JK.binds fun _ _ _ _ _ _=>hQ fun _=>rfl
theorem Txt.fs:bY K t.xG wI []:=T.eU.binds fun _ _ _ _ _ _=>hX fun _ _ _=>rfl
theorem Txt.ak_:bY K t.F8 Fe []:=T.Lw.binds fun _ _ _ _ _ _=>g4 fun _ _=>rfl
theorem Txt.ado:bY K t.Av zU []:=T.JP.binds fun _ _ _ _ _ _=>g4 fun _ _=>rfl
theorem Txt.ads:bY K t.CB zp []:=T.Ez.binds fun _ _ _ _ _ _=>g4 fun _ _=>rfl
theorem Txt.aka:bY K t.Ls L0 []:=T.KQ.binds fun _ _ _ _ _ _=>hX fun _ _ _=>rfl
theorem Txt.amx:bY K t.HR LZ []:=T.I9.binds fun _ _ _ _ _ _=>hX fun _ _ _=>rfl
theorem Txt.afg:bY K t.AX y1 []:=T.Er.binds fun _ _ _ _ _ _=>hX fun _ _ _=>rfl
theorem Txt.Yn:bY K t.Bl zA []:=T.G5.binds fun _ _ _ _ _ _=>g4 fun _ _=>rfl
theorem Txt.ah9:bY K t.Ap yV []:=T.HV.binds fun _ _ _ _ _ _=>hX fun _ _ _=>rfl
theorem Txt.ajC:bY K t.Hl Jh []:=T.H_.binds fun _ _ _ _ _ _=>g4 fun _ _=>rfl
theorem Txt.XZ:bY K t.Bd CA []:=T.HA.binds fun _ _ _ _ _ _=>ag6 fun _ _ _ _ _=>rfl
theorem Txt.ZT:bY K t.A7 gL []:=T.Nb.binds fun _ _ _ _ _ _=>g4 fun _ _=>rfl
theorem Txt.ajk:bY K t.Uf yo []:=T.PL.binds fun _ _ _ _ _ _=>hX fun _ _ _=>rfl
theorem Txt.BI:bY K t.E6 ["self"] []:=T.Q8.binds fun _ _ _ _ _ _=>hQ fun _=>rfl
theorem Txt.Vd:bY K t.Im ["self"] []:=T.ci.binds fun _ _ _ _ _ _=>hQ fun _=>rfl
theorem Txt.G8:bY K t.Mf BU []:=T.Uc.binds fun _ _ _ _ _ _=>g4 fun _ _=>rfl
theorem Txt.w5:bY K t.L8 Eh []:=T.Uq.binds fun _ _ _ _ _ _=>g4 fun _ _=>rfl
theorem Txt.q0:bY K t.La Hn []:=T.T1.binds fun _ _ _ _ _ _=>hX fun _ _ _=>rfl
theorem Txt.QB:bY K t.ER ["self"] []:=T.Q2.binds fun _ _ _ _ _ _=>hQ fun _=>rfl
theorem Txt.amE:bY K t.BZ C6 []:=T.V2.binds fun _ _ _ _ _ _=>hX fun _ _ _=>rfl
theorem Txt.acM:bY K t.AU xI []:=T.Pp.binds fun _ _ _ _ _ _=>g4 fun _ _=>rfl
theorem Txt.NH:bY K t.Ly ["self"] []:=T.PW.binds fun _ _ _ _ _ _=>hQ fun _=>rfl
theorem Txt.EP:bY K t.Cb ["self"] []:=T.Uz.binds fun _ _ _ _ _ _=>hQ fun _=>rfl
theorem Txt.td:bY K t.xx ["self"] []:=T.Vw.binds fun _ _ _ _ _ _=>hQ fun _=>rfl
theorem Txt.ag3:bY K t.Fu gL []:=T.Ox.binds fun _ _ _ _ _ _=>g4 fun _ _=>rfl
theorem Txt.ah5:bY K t.re gL []:=T.U9.binds fun _ _ _ _ _ _=>g4 fun _ _=>rfl
theorem Txt.Sd:bY K t.s6 tx []:=T.JL.binds fun _ _ _ _ _ _=>g4 fun _ _=>rfl
theorem Txt.Ou:bY K t.zv pe []:=T.Vg.binds fun _ _ _ _ _ _=>g4 fun _ _=>rfl
theorem Txt.amM:bY K t.Hp pe []:=T.Do.binds fun _ _ _ _ _ _=>g4 fun _ _=>rfl
theorem Txt.ahg:bY K t.LC ["self"] []:=T.Tt.binds fun _ _ _ _ _ _=>hQ fun _=>rfl
theorem Txt.Z5:bY K t.yE ["self"] []:=T.Rj.binds fun _ _ _ _ _ _=>hQ fun _=>rfl
theorem Txt.af5:bY K t.DU zH []:=T.Ut.binds fun _ _ _ _ _ _=>g4 fun _ _=>rfl
theorem Txt.Vr:bY K t.Lm ["self"] []:=T.U3.binds fun _ _ _ _ _ _=>hQ fun _=>rfl
theorem Txt.ir:bY K t.GK A5 []:=T.SA.binds fun _ _ _ _ _ _=>adg fun _ _ _ _ _ _ _ _=>rfl
theorem Txt.adX:bY K t.Ao ki []:=T.Vn.binds fun _ _ _ _ _ _=>A2 fun _ _ _ _ _ _ _=>rfl
theorem Txt.adO:bY K t.KJ ["self"] []:=T.Rl.binds fun _ _ _ _ _ _=>hQ fun _=>rfl
theorem Txt.ajo:bY K t.JN ["self"] []:=T.PX.binds fun _ _ _ _ _ _=>hQ fun _=>rfl
theorem Txt.aj4:bY K t.CQ ki []:=T.OH.binds fun _ _ _ _ _ _=>A2 fun _ _ _ _ _ _ _=>rfl
theorem Txt.lv:bY K t.Hj ["self"] []:=T.T'.binds fun _ _ _ _ _ _=>hQ fun _=>rfl
theorem Txt.aeg:bY K t.I_ ["self"] []:=T.Qr.binds fun _ _ _ _ _ _=>hQ fun _=>rfl
theorem Txt.ajg:bY K t.z1 ki []:=T.P4.binds fun _ _ _ _ _ _=>A2 fun _ _ _ _ _ _ _=>rfl
theorem Txt.adk:bY K t.LV ["self"] []:=T.OM.binds fun _ _ _ _ _ _=>hQ fun _=>rfl
theorem Txt.ami:bY K t.LJ ["self"] []:=T.V6.binds fun _ _ _ _ _ _=>hQ fun _=>rfl
theorem Txt.wv:bY K t.DO B3 []:=T.Wa.binds fun _ _ _ _ _ _=>hX fun _ _ _=>rfl
theorem Txt.wW:bY K t.Dm ["self"] []:=T.WJ.binds fun _ _ _ _ _ _=>hQ fun _=>rfl
theorem Txt.Pe:bY K t.yA gL []:=T.IT.binds fun _ _ _ _ _ _=>g4 fun _ _=>rfl
theorem Txt.mM:bY K t.tm gL []:=T.E8.binds fun _ _ _ _ _ _=>g4 fun _ _=>rfl
theorem Txt.Ca:l0 K t.lj:=ag' T.agi T.wE
end
noncomputable def dh (ns:List Int) (k m:Int):Int:=
 ((((if 0 < (ns.length:Int) then ns.getD (k % (ns.length:Int)).toNat 0 else 0) % 1000003 + 31 * k * k + 1) * 48271 % 999983 * 7919) % 524287) % m
theorem g8 (ns:List Int) (k:Int) (h:0 < m):0 <= dh ns k m:=DF _ (by omega)
theorem gX (ns:List Int) (k:Int) (h:0 < m):dh ns k m < m:=yN _ h
def hJ (K:a_) (a:Addr) (ns:List Int):bP:=fun vs H Q _=>∃ k m,vs=[.ref a,.int k,.int m]/\Sc K a ns H/\(0 <= k/\k < 1000000)/\0 < m/\Q (.int (dh ns k m)) H
variable {P:Program} {w:World} {K:a_} {mg:Str->Option Value} {base:Heap} {t:bM}
abbrev cu (P:Program) (base:Heap) {w:World} {K:a_} {mg:Str->Option Value} {t:bM} (_:Txt w K mg t):=b_ P w K mg base dr
variable (T:Txt w K mg t)
theorem xE (a:Addr) (ns:List Int) (gx:ns.length <= 63):cu P base T 1 t.yt t.xG wI (hJ K a ns):=by
 exists T.eU.ok s_,9
 obtain ⟨k,m,rfl,S,⟨h0,af⟩,hm,q⟩:=h;refine ⟨_,(aW (b5 (i:=3) s_.aG (ud (c_ qN (gD h4 rfl T.hR hW (ai (U 0) aE)) aR (cC _)) (cq lc (U 0) (bF jn (U 1) (gD h4 rfl T.hR hW (ai (U 0) aE)))) aR))
   (aW (b5 (i:=4) s_.aG (bF dT (bF dT (bF jn (U 3) aR) (bF jt (bF jt aR (U 1)) (U 1))) aR))
   (a6 (cg (bF jn (bF jn (bF jt (bF jn (bF jt (U 4) aR) aR) aR) aR) (U 2)))))),?_⟩
 nofun;refine ⟨_,.inl S.seq,?_⟩;rw [a0];have ald:(0:Int) <= k * k/\k * k < 1000000 * 1000000:=⟨agk h0 h0,aa5 (by omega) af h0 (by decide)⟩;have fin:∀ i:Int,(0:Int) < 1000003/\nA 31 k/\nA (31 * k) k/\nA (i % 1000003 + 31 * k * k + 1) 48271/\(0:Int) < 999983/\nA ((i % 1000003 + 31 * k * k + 1) * 48271 % 999983) 7919/\(0:Int) < 524287/\0 < m:=by
  intro i;refine ⟨by decide,.inl (by decide),.inr (by omega),.inr (by decide),by decide,.inr (by decide),by decide,hm⟩
 by_cases c:(0:Int) < (ns.length:Int)
 .rw [if_pos (decide_eq_true c)];have aC:0 <= k % (ns.length:Int)/\k % (ns.length:Int) < (ns.length:Int):=⟨DF _ (by omega),yN _ c⟩;refine ⟨_,.inl S.seq,by rw [a0];exact c,_,S.seq,?_⟩;rw [a0];have aM:(k % (ns.length:Int)).toNat < ns.length:=by omega
  refine ⟨.int ns[(k % (ns.length:Int)).toNat],?_,_,rfl,?_⟩
  .have e:=cB (xs:=ns.map V.int) (j:=(k % (ns.length:Int)).toNat) (v:=.int ns[(k % (ns.length:Int)).toNat]) (by rw [da,bc aM] <;> rfl);rwa [pT aC.1] at e
  .obtain ⟨f1,f2,en,f4,eW,nk,lh,f8⟩:=fin ns[(k % (ns.length:Int)).toNat];refine ⟨f1,f2,en,f4,eW,nk,lh,f8,?_⟩;have e:dh ns k m=(((ns[(k % (ns.length:Int)).toNat] % 1000003 + 31 * k * k + 1) * 48271 % 999983 * 7919) % 524287) % m:=by
    unfold dh;rw [if_pos c,iF,bc aM];rfl
   rw [<- e];exact q
 .rw [if_neg (by simpa using c)];obtain ⟨f1,f2,en,f4,eW,nk,lh,f8⟩:=fin 0;refine ⟨f1,f2,en,f4,eW,nk,lh,f8,?_⟩;have e:dh ns k m=(((0 % 1000003 + 31 * k * k + 1) * 48271 % 999983 * 7919) % 524287) % m:=by
   unfold dh;rw [if_neg c]
  rw [<- e];exact q
theorem Dz {w:Str}:w=ae "" ↔ w.length=0:=by
 constructor
 .rintro rfl;ac_nf
 .intro h;have e:w.cps=#[]:=Array.eq_empty_of_size_eq_zero h;have aD:(ae "").cps=#[]:=by ac_nf
  cases w;cases aj:ae "";rw [aj] at aD;simp only at e aD;rw [e,aD]
noncomputable def sY (bC:Str) (c:Nat):Bool:=!(sC bC (ji c) 0 bC.length 1).isEmpty
theorem D4 (bC:Str) (c:Nat):sY bC c=decide (c ∈ bC.cps.toList):=StrLaws.found_one bC c
noncomputable def made (w bC:Str) (m:Int):Bool:=if w=ae "" then false else if m < (w.length:Int) then false else w.cps.toList.all (sY bC)
def Hx:bP:=fun vs H Q _=>∃ w bC m,vs=[.str w,.str bC,.int m]/\w.length <= 1000/\aP H/\Q (.bo (made w bC m)) H
def XL:bP:=fun vs H Q _=>∃ w bC m,vs=[.str w,.str bC,.int m]/\w.length <= 1000/\∀ I,aS H I->Q (.bo (made w bC m)) I
theorem Tx:cu P base T 1 t.EF t.HN yh Hx:=by
 refine b_.forget (sp:=XL) ?_ fun vs H Q E h=>?_
 .exists T.As.ok ae6,9
  obtain ⟨w,bC,m,rfl,aJ,q⟩:=h;have gk:w.length <= sizeLine:=cP aJ (by decide);refine ⟨_,(aW (dK (hH.pt (qw (c_ e5 (U 0) cX (cC _)) (tg (c_ qN (gD ZG rfl T.hR hW (ai (U 0) aE)) (U 2) (cC _))))) (a6 (cg am)) eu)
   (a6 (cg (gD (Xb rfl) rfl T.Ya Xf (ai (hl rfl (ajJ (U 0)) (gz (sc:=bz J2) rfl (by ac_nf)) (N:=["sign","signs"]) (sel:=[none,some 1]) (gA (M:=yh) (by ac_nf)) (fA.of (fun _ _ _ _=>(Db (i:=0) (er (N:=["sign","signs"]) (by ac_nf) rfl))) (fun _ _ _ _=>⟨_,ix,by walk_at "B"⟩) (fun _ _ _ _=>⟨_,(hO W8 (U 0) (U 1) (by with_unfolding_all rfl)),by walk_at "B"⟩))) aE))))),?_⟩
  nofun;refine dW (decide (w=ae "") || decide (m < (w.length:Int))) (fun Q a8=>?_) (fun ab=>?_) (fun ab=>?_)
  .nofun;by_cases c:w=ae ""
   .rw [if_pos (decide_eq_true c)];rw [decide_eq_true c,su] at a8;exact a8
   .rw [if_neg (by simpa using c)];rw [decide_eq_false c,lN] at a8;exact ⟨gk,a8⟩
  .nofun;have e:made w bC m=false:=by
    unfold made;simp only [w3,decide_eq_true_eq] at ab;by_cases c:w=ae ""
    .rw [if_pos c]
    .rw [if_neg c,if_pos (ab.resolve_left c)]
   have:=q H (aS.refl H);rw [e] at this;exact this
  .nofun;have e:made w bC m=w.cps.toList.all (sY bC):=by
    unfold made;simp only [Ct,decide_eq_false_iff_not] at ab;rw [if_neg ab.1,if_neg ab.2]
   refine c6.ai4 (fun x=>match x with | .str y=>.bo (!(sC bC y 0 bC.length 1).isEmpty) | _=>.bO) (by rw [Od];exact gk) (fun i x N ag bf=>?_) (fun p ar=>?_)
   .unfold mZ at ag;rw [da] at ag;cases av:w.cps.toList[i]? with
    | none=>rw [av] at ag;cases ag
    | some c=>
     rw [av] at ag;have d7:V.str (ji c)=x:=dU ag;subst d7;nofun;exact ⟨Sub.name,bf⟩
   .refine ⟨p,rfl,w.cps.toList.map (sY bC),aB.of ?_,?_⟩
    .rw [aX];unfold mZ;rw [k_,k_];rfl
    .have:=q (upd H p (.lst (qh (fun x=>match x with | .str y=>.bo (!(sC bC y 0 bC.length 1).isEmpty) | _=>.bO) (mZ w)))) (bq ar);rw [e] at this;rw [List.all_map];exact this
 .obtain ⟨w,bC,m,e,aJ,bN,q⟩:=h;exact ⟨bN,w,bC,m,e,aJ,fun I bR=>⟨bR,q⟩⟩
noncomputable abbrev rY:Str:=ae "0123456789"
noncomputable def mj (c:Nat):Bool:=decide (48 <= c/\c <= 57)
theorem Zx (c:Nat):sY rY c=mj c:=by
 rw [D4,show rY.cps.toList=List.range' 48 10 by ac_nf];unfold mj;refine decide_eq_decide.mpr ?_;rw [List.mem_range'_1];exact and_congr_right fun _=>show c < 58↔c <= 57 from Nat.lt_succ_iff
noncomputable abbrev cs (w:Str):List Nat:=w.cps.toList
theorem KU (w:Str):(cs w).length=w.length:=by simp [cs,tD]
noncomputable def j6 (w:Str):Bool:=decide (1 <= (cs w).length) && decide ((cs w).length <= 3) && (cs w).all mj && (decide ((cs w).length <= 1) || decide ((cs w).headD 0 ≠ 48))
noncomputable abbrev val (w:Str):Int:=((OQ (cs w):Nat):Int)
noncomputable def iP (w:Str) (lo ah:Int):V:=if j6 w && !(decide (val w < lo) || decide (ah < val w)) then .int (val w) else .bO
theorem QW {w:Str}:w=⟨#[c]⟩↔cs w=[c]:=by
 constructor
 .rintro rfl;rfl
 .intro h;cases w with
  | mk a=>
   have e:a=#[c]:=RQ.mp h;rw [e]
theorem ZB:ae "0"=⟨#[48]⟩:=by ac_nf
theorem U4 (w:Str):made w rY 3=(decide (1 <= (cs w).length) && decide ((cs w).length <= 3) && (cs w).all mj):=by
 unfold made;have e:(sY rY)=mj:=funext Zx;rw [e];by_cases af:w=ae ""
 .have aj:=Dz.mp af;rw [if_pos af,KU,aj];rfl
 .have aj:¬ w.length=0:=fun z=>af (Dz.mpr z)
  rw [if_neg af,KU];by_cases a':(3:Int) < (w.length:Int)
  .rw [if_pos a',decide_eq_false (show ¬ w.length <= 3 by omega),afM,mu]
  .rw [if_neg a',decide_eq_true (show 1 <= w.length by omega),decide_eq_true (show w.length <= 3 by omega)];rfl
theorem akO (h:l.all mj=true):NumText.AllDigits l:=fun c av=>by
 have:=nX.mp h c av;simpa [mj] using this
theorem ZQ {w:Str} (h:j6 w=true):(1 <= (cs w).length/\(cs w).length <= 3)/\(cs w).all mj=true:=by
 unfold j6 at h;simp only [iE,decide_eq_true_eq] at h;exact h.1
def Qp:bP:=fun vs H Q _=>∃ w,vs=[.str w,.int 3]/\w.length <= 1000/\aP H/\Q (.bo (j6 w)) H
def aeh:bP:=fun vs H Q _=>∃ w lo ah,vs=[.str w,.int lo,.int ah]/\w.length <= 1000/\aP H/\Q (iP w lo ah) H
theorem Zo:cu P base T 2 t.Ki t.Ho z6 Qp:=by
 refine cy (Tx T) fun Kz=>?_;exists T.H7.ok xz,9
 obtain ⟨w,rfl,aJ,bN,q⟩:=h;have gk:w.length <= sizeLine:=cP aJ (by decide);refine ⟨_,(aW (dK (tH (oJ (cn Kz ak T.UE T.As.bH T.S2 (ai (U 0) (ai (lQ rfl T.agC T.ahH) (ai (U 1) aE)))))) (a6 (cg am)) eu)
   (a6 (cg (Nn (hO e5 (U 0) cX (cC _)) (u7 (hO qO (cq I1 (U 0) aR) cX (cC _))))))),?_⟩
 refine dW (!made w rY 3) (fun Q a8=>?_) (fun ab=>?_) (fun ab=>?_)
 ·(nofun; repeat (dsimp only [Hx];nofun));exact ⟨aJ,bN,a8⟩
 .nofun;have e:j6 w=false:=by
   have f5:made w rY 3=false:=by simpa using ab
   rw [U4] at f5;unfold j6;rw [f5];rfl
  rw [e] at q;exact q
 .have f5:made w rY 3=true:=by simpa using ab
  rw [U4] at f5;rw [iy];dsimp only;refine adI (.bo (j6 w)) (fun Q a8=>?_) ?_
  case refine_2=>exact q
  nofun;have i':(1 <= (cs w).length/\(cs w).length <= 3)/\(cs w).all mj=true:=by
   simpa only [iE,decide_eq_true_eq] using f5
  obtain ⟨c,r,E0⟩:∃ c r,cs w=c :: r:=by
   cases h:cs w with
   | nil=>rw [h] at i';exact absurd i'.1.1 (by decide)
   | cons c r=>exact ⟨c,r,rfl⟩
  have ok:j6 w=(decide ((cs w).length <= 1) || decide ((cs w).headD 0 ≠ 48)):=by
   unfold j6;rw [f5,lK]
  by_cases bZ:w=ae "0"
  .rw [if_pos (decide_eq_true bZ)];have e:cs w=[48]:=by rw [bZ,ZB]
   rw [ok,e] at a8;exact a8
  .rw [if_neg (by simpa using bZ)];refine ⟨gk,c,?_,?_⟩
   .have:=cB (xs:=cs w) (j:=0) (v:=c) (by rw [E0];rfl);exact this
   .have aD:decide ((⟨#[c]⟩:Str)=ae "0")=decide (c=48):=by
     rw [ZB];by_cases qB:c=48
     .rw [qB];simp
     .rw [decide_eq_false qB,decide_eq_false];intro z;have d9:=QW.mp z;exact qB (wM d9).1
    rw [aD];have bL:j6 w = !decide (c=48):=by
     rw [ok,E0];show (decide ((c :: r).length <= 1) || decide (c ≠ 48))=_;by_cases qB:c=48
     .have ak:r ≠ []:=fun z=>bZ (by rw [ZB];exact QW.mpr (by rw [E0,z,qB]))
      have:¬ (c :: r).length <= 1:=by
       cases r with
       | nil=>exact absurd rfl ak
       | cons d r=>simp
      rw [decide_eq_false this,qB];rfl
     .rw [decide_eq_true qB,CT,decide_eq_false qB];rfl
    rw [<- bL];exact a8
theorem adA:cu P base T 3 t.HZ t.H9 DZ aeh:=by
 refine cy (Zo T) fun YI=>?_;exists T.Hb.ok MB,9
 obtain ⟨w,lo,ah,rfl,aJ,bN,q⟩:=h;refine ⟨_,(aW (dK (tH (oJ (cn YI ak T.ahJ T.H7.bH T.aiQ (ai (U 0) (ai (lQ rfl T.WV T.adp) aE))))) (a6 (cg qb)) eu)
   (aW (b5 (i:=3) MB.aG (lg af8 rfl T.HS Je (ai (U 0) aE)))
   (aW (dK (hH.pt (qw (c_ lu (U 3) (U 1) (cC _)) (tg (c_ qN (U 3) (U 2) (cC _))))) (a6 (cg qb)) eu)
   (a6 (cg (U 3)))))),?_⟩
 refine dW (!j6 w) (fun Q a8=>?_) (fun ab=>?_) (fun ab=>?_)
 ·(nofun; repeat (dsimp only [Qp];nofun));exact ⟨aJ,bN,a8⟩
 .nofun;have f5:j6 w=false:=by simpa using ab
  have e:iP w lo ah=.bO:=by unfold iP;rw [f5];rfl
  rw [e] at q;exact q
 .have f5:j6 w=true:=by simpa using ab
  have a':(1 <= (cs w).length/\(cs w).length <= 3)/\(cs w).all mj=true:=by
   have:=f5;unfold j6 at this;simp only [iE,decide_eq_true_eq] at this;exact this.1
  have aA:=KU w;have fu:intText? w=some (val w):=intText_digits (akO a'.2) (fun z=>by have hv:cs w=[]:=z;rw [hv] at a';exact absurd a'.1.1 (by decide)) (by omega);nofun;refine ⟨val w,fu,by omega,?_⟩;refine dW (decide (val w < lo) || decide (ah < val w)) (fun Q a8=>?_) (fun av=>?_) (fun av=>?_)
  .nofun;by_cases c:val w < lo
   .rw [if_pos (decide_eq_true c)];rw [decide_eq_true c,su] at a8;exact a8
   .rw [if_neg (by simpa using c)];rw [decide_eq_false c,lN] at a8;exact a8
  .nofun;have e:iP w lo ah=.bO:=by unfold iP;rw [f5,av];rfl
   rw [e] at q;exact q
  .nofun;have e:iP w lo ah=.int (val w):=by unfold iP;rw [f5,av];rfl
   rw [e] at q;exact q
theorem LM (h:n < 1000):n.log2 < 1920:=by
 by_cases h0:n=0
 .subst h0;decide
 .rw [aeZ h0];exact hp h (cP (show 1000 <= 2 ^ 10 by decide) (Nat.pow_le_pow_right (by decide) (by decide)))
theorem ajW:∀ n,n < 1000->(tc 10 n).length <= 3:=by ac_nf
theorem yr {n:Int} (h0:0 <= n) (af:n <= 999):(ae (toString n)).length <= 3:=by
 have e:=aff n.toNat;rw [pT h0] at e;have l:(ae (toString n)).length=(ae (toString n)).cps.toList.length:=by simp [tD]
 rw [l,e,a0];exact ajW _ (by omega)
noncomputable abbrev jJ:Str:=ae "abcdefghijklmnopqrstuvwxyz"
def amb:bP:=fun vs H Q _=>∃ w,vs=[.str w]/\w.length <= 1000/\aP H/\Q (.bo (made w jJ 8)) H
theorem agQ:cu P base T 2 t.K4 t.H5 ["word"] amb:=by
 refine cy (Tx T) fun Kz=>?_;exists T.IE.ok KF,9
 obtain ⟨w,rfl,aJ,bN,q⟩:=h;refine ⟨_,(a6 (cg (cn Kz ak T.UE T.As.bH T.S2 (ai (U 0) (ai (lQ rfl T.abu T.ab') (ai (lQ rfl T.acE T.abH) aE)))))),?_⟩;(nofun; repeat (dsimp only [Hx];nofun));exact ⟨aJ,bN,q⟩
noncomputable abbrev nl:Str:=ae "\n"
noncomputable abbrev cA:Str:=ae " "
theorem ahm:nl=⟨#[10]⟩:=by ac_nf
theorem dL:cA=⟨#[32]⟩:=by ac_nf
noncomputable def hj (x:Str):List (List Str):=(ij x nl).map fun r=>ij r cA
theorem Sq:∀ {ys:List Str} {y:Str},y ∈ ys->y.length <= (ys.map (·.length)).sum
 | [],_,h=>nomatch h
 | a :: r,y,h=>by
  rw [eN,UT];rcases fi.mp h with rfl | h
  .omega
  .have:=Sq h;omega
theorem ahO {x y r:Str} (bh:1 <= y.length) (h:r ∈ ij x y):r.length <= x.length + 1:=by
 have af:=X2 x y bh;have aj:=Sq h;omega
theorem Lj {x y:Str} (bh:1 <= y.length):(ij x y).length <= x.length + 1:=by
 have af:=X2 x y bh;omega
theorem ZR (x y:Str):ij x y ≠ []:=by
 unfold ij;split
 .simp
 .split
  .simp
  .rw [StrLaws.partsBetween_eq];obtain ⟨p,r,e⟩:=StrLaws.partsFrom_ne x y.length 0 (sC x y 0 x.length (x.length + 1));rw [e];simp
def agd (cp H:au) (p:Addr) (rows:List (List Str)):Prop:=∃ qs:List Addr,H p=some (.lst (qs.map V.ref))/\cp p=none/\p ∉ qs/\qs.length=rows.length/\∀ (i:Nat) (q:Addr) (r:List Str),qs[i]? = some q->rows[i]? = some r->H q=some (.lst (aL r))/\cp q=none
def Oq:bP:=fun vs H Q _=>∃ x,vs=[.str x]/\x.length <= 20000/\aP H/\∀ p I,aS H I->aP I->agd H I p (hj x)->Q (.ref p) I
theorem xJ:nl.length=1:=by ac_nf
theorem qm:cA.length=1:=by ac_nf
theorem aab:cu P base T 1 t.z7 t.DN ["text"] Oq:=by
 exists T.H'.ok aiw,9
 obtain ⟨x,rfl,aJ,bN,q⟩:=h;have i8:∀ n:Nat,n <= 40000->n <= sizeLine:=fun n h=>cP h (by decide)
 refine ⟨_,(a6 (cg (hl rfl (eA (gm sH B4 abp P8 (U 0) (ai cX aE))) (gz (sc:=bz Jx) rfl (by ac_nf)) (N:=["row"]) (sel:=[none]) (gA (M:=["text"]) (by ac_nf)) (fA.of (fun _ _ _ _=>(Db (i:=0) (er (N:=["row"]) (by ac_nf) rfl))) (fun _ _ _ _=>⟨_,ix,by walk_at "B"⟩) (fun _ _ _ _=>⟨_,(gm sH B4 abp P8 (U 0) (ai cX aE)),by walk_at "B"⟩))))),?_⟩;nofun;have bh:1 <= nl.length:=by rw [xJ];exact bW _
 have Xo:1 <= cA.length:=by rw [qm];exact bW _
 have ay:=Lj (x:=x) bh;have j3:(aL (ij x nl)).length <= sizeLine:=by unfold aL;rw [a0];exact i8 _ (by omega)
 refine ⟨by rw [xJ];decide,i8 _ (by omega),i8 _ (show (ij x nl).length <= 40000 by omega),fun p ar=>⟨⟨_,aB.of aX⟩,?_⟩⟩;refine c6.akp (xs:=aL (ij x nl)) (fun v=>match v with | .str r=>.lst (aL (ij r cA)) | _=>.lst []) (aB.of aX) j3 (fun v=>by cases v <;> rfl) (fun i v H1 N ag bR jA bf=>?_) (fun qs H1 bR jA aA al eY gB=>?_)
 .unfold aL at ag;rw [da] at ag;cases ak:(ij x nl)[i]? with
  | none=>rw [ak] at ag;cases ag
  | some r=>
   rw [ak] at ag;have e:=dU ag;subst e;have hm:=ahO bh (cH ak);have jh:=Lj (x:=r) Xo;nofun;exact ⟨Sub.name,by rw [qm];decide,i8 _ (by omega),i8 _ (show (ij r cA).length <= 40000 by omega),bf⟩
 .have L1:aS H H1:=(bq ar).trans bR;refine q _ _ (L1.fY (L1.free gB)) ((jA (bN.upd)).upd) ⟨qs,aX,L1.free gB,fun hm=>?_,?_,fun i cW r af aj=>?_⟩
  .obtain ⟨j,aM,e⟩:=Ga hm;have alG:j < (aL (ij x nl)).length:=by omega
   have:=al j eY _ (by rw [bc aM,e]) (bc alG);rw [gB] at this;cases this.1
  .rw [aA];unfold hj aL;rw [a0,a0]
  .unfold hj at aj;rw [da] at aj;cases ak:(ij x nl)[i]? with
   | none=>rw [ak] at aj;cases aj
   | some xg=>
    rw [ak] at aj;have e:=dU aj;subst e;have z:=al i cW (.str xg) af (by unfold aL;rw [da,ak];rfl);refine ⟨by rw [aH (dj z.1 gB)];exact z.1,?_⟩;have:=z.2;by_cases aI:cW=p
    .rw [aI];exact ar
    .rwa [aH aI] at this
structure bj where
 k:Nat
 name:Str
 start:Int
 fin:Int
 off:Int
 near:Int
 least:Int
noncomputable def eD:Nat->Str
 | 0=>ae "car"
 | 1=>ae "foot"
 | _=>ae "tram"
noncomputable def bM.gu (t:bM):Nat->Addr
 | 0=>t.i5
 | 1=>t.i4
 | _=>t.iS
noncomputable def og (d:bj):List (Str × V):=[(ae "kind",.str (eD d.k)),(ae "name",.str d.name),(ae "start",.int d.start),(ae "end",.int d.fin),(ae "off",.int d.off),(ae "near",.int d.near),(ae "least",.int d.least)]
noncomputable abbrev oz:List Str:=[ae "kind",ae "name",ae "start",ae "end",ae "off",ae "near",ae "least"]
theorem MZ (d:bj):(og d).map (·.1)=oz:=rfl
def eB (t:bM) (H:au) (p:Addr) (d:bj):Prop:=d.k < 3/\∃ ao,H p=some (.ins (t.gu d.k) ao (og d))
theorem eB.same {t:bM} {p:Addr} (h:eB t H p d) (s:aS H I):eB t I p d:=⟨h.1,h.2.imp fun ao e=>s _ _ e⟩
def tG (t:bM) (C:Addr):Prop:=∃ k,k < 3/\C=t.gu k
noncomputable def mc (d:bj):Int:=match d.k with | 0=>1 | 1=>0 | _=>2
noncomputable def mb (d:bj):Int:=match d.k with | 0=>2 | 1=>d.off | _=>1
section
variable {w:World} {K:a_} {mg:Str->Option Value} {t:bM}
theorem Txt.p1 (T:Txt w K mg t):∀ k,gP K (t.gu k)
 | 0=>T.FT
 | 1=>T.Lf
 | _ + 2=>T.HK
theorem Txt.Sp (T:Txt w K mg t) (hf:f ∈ oz):∀ k,ac K (t.gu k) f:=by
 intro k;simp only [oz,fi,rt,or_false] at hf;rcases hf with rfl | rfl | rfl | rfl | rfl | rfl | rfl
 .match k with
  | 0=>exact T.aa0
  | 1=>exact T.ak1
  | _ + 2=>exact T.aeE
 .match k with
  | 0=>exact T.ajy
  | 1=>exact T.agj
  | _ + 2=>exact T.akK
 .match k with
  | 0=>exact T.aiM
  | 1=>exact T.ai_
  | _ + 2=>exact T.ahS
 .match k with
  | 0=>exact T.ajZ
  | 1=>exact T.W0
  | _ + 2=>exact T.X9
 .match k with
  | 0=>exact T.Ty
  | 1=>exact T.al9
  | _ + 2=>exact T.ww
 .match k with
  | 0=>exact T.afx
  | 1=>exact T.aeA
  | _ + 2=>exact T.acj
 .match k with
  | 0=>exact T.afU
  | 1=>exact T.YO
  | _ + 2=>exact T.Os
theorem Txt.cw_inj (T:Txt w K mg t) {j k:Nat} (aM:j < 3) (aC:k < 3) (e:t.gu j=t.gu k):j=k:=by
 match j,k,aM,aC with
 | 0,0,_,_=>rfl
 | 0,1,_,_=>exact absurd e T.T_
 | 0,2,_,_=>exact absurd e T.Tn
 | 1,0,_,_=>exact absurd e.symm T.T_
 | 1,1,_,_=>rfl
 | 1,2,_,_=>exact absurd e T.U6
 | 2,0,_,_=>exact absurd e.symm T.Tn
 | 2,1,_,_=>exact absurd e.symm T.U6
 | 2,2,_,_=>rfl
 | j + 3,_,h,_=>omega
 | _,k + 3,_,h=>omega
theorem eB.fld (T:Txt w K mg t) {p:Addr} (h:eB t H p d) (i:Nat) (ah:oz.findIdx? (· == f)=some i) (aF:(og d)[i]? = some (f,v)):fQ K H p f v:=by
 obtain ⟨_,ao,e⟩:=h;have hm:f ∈ oz:=by
  obtain ⟨dD,af,_⟩:=Ny.mp ah;have:oz[i]=f:=by simpa using af
  rw [<- this];exact jq dD
 exact ⟨_,ao,_,e,T.p1 _,T.Sp hm _,gr oz i (MZ d) ah aF⟩
theorem eB.Y2 (T:Txt w K mg t) {p:Addr} (h:eB t H p d):fQ K H p (ae "kind") (.str (eD d.k)):=h.fld T 0 (by ac_nf) rfl
theorem eB.Gi (T:Txt w K mg t) {p:Addr} (h:eB t H p d):fQ K H p (ae "name") (.str d.name):=h.fld T 1 (by ac_nf) rfl
theorem eB.tv (T:Txt w K mg t) {p:Addr} (h:eB t H p d):fQ K H p (ae "start") (.int d.start):=h.fld T 2 (by ac_nf) rfl
theorem eB.so (T:Txt w K mg t) {p:Addr} (h:eB t H p d):fQ K H p (ae "end") (.int d.fin):=h.fld T 3 (by ac_nf) rfl
theorem eB.Wz (T:Txt w K mg t) {p:Addr} (h:eB t H p d):fQ K H p (ae "off") (.int d.off):=h.fld T 4 (by ac_nf) rfl
theorem eB.afr (T:Txt w K mg t) {p:Addr} (h:eB t H p d):fQ K H p (ae "near") (.int d.near):=h.fld T 5 (by ac_nf) rfl
theorem eB.ahd (T:Txt w K mg t) {p:Addr} (h:eB t H p d):fQ K H p (ae "least") (.int d.least):=h.fld T 6 (by ac_nf) rfl
end
def amt (t:bM):bP:=fun vs H Q _=>∃ (p ao:Addr) (d:bj),vs=[.ref p,.str (eD d.k),.str d.name,.int d.start,.int d.fin,.int d.off,.int d.near,.int d.least]/\d.k < 3/\H p=some (.ins (t.gu d.k) ao [])/\Q .bO (upd H p (.ins (t.gu d.k) ao (og d)))
def tX (t:bM) (k:Nat):bP:=fun vs H Q _=>∃ (p ao:Addr) (d:bj),vs=[.ref p,.str d.name,.int d.start,.int d.fin,.int d.off,.int d.near,.int d.least]/\d.k=k/\H p=some (.ins (t.gu d.k) ao [])/\Q .bO (upd H p (.ins (t.gu d.k) ao (og d)))
theorem Le:cu P base T 1 t.BC t.GK A5 (amt t):=by
 exists T.SA.ok aj6,9
 obtain ⟨p,ao,d,rfl,aC,ar,q⟩:=h;refine ⟨_,(aW (e6 (U 0) (U 1) rfl)
   (aW (e6 (U 0) (U 2) rfl)
   (aW (e6 (U 0) (U 3) rfl)
   (aW (e6 (U 0) (U 4) rfl)
   (aW (e6 (U 0) (U 5) rfl)
   (aW (e6 (U 0) (U 6) rfl)
   (a6 (e6 (U 0) (U 7) rfl)))))))),?_⟩
 nofun;have na:∀ {f:Str},f ∈ oz->ac K (t.gu d.k) f:=fun hf=>T.Sp hf d.k
 refine ⟨_,_,_,ar,T.p1 _,na (by ac_nf),by decide,?_⟩;refine ⟨_,_,_,aX,T.p1 _,na (by ac_nf),g7 (n:=999) (by decide),?_⟩;refine ⟨_,_,_,aX,T.p1 _,na (by ac_nf),g7 (n:=999) (g7 (n:=998) (by decide)),?_⟩;refine ⟨_,_,_,aX,T.p1 _,na (by ac_nf),g7 (n:=999) (g7 (n:=998) (g7 (n:=997) (by decide))),?_⟩;refine ⟨_,_,_,aX,T.p1 _,na (by ac_nf),g7 (n:=999) (g7 (n:=998) (g7 (n:=997) (g7 (n:=996) (by decide)))),?_⟩;refine ⟨_,_,_,aX,T.p1 _,na (by ac_nf),g7 (n:=999) (g7 (n:=998) (g7 (n:=997) (g7 (n:=996) (g7 (n:=995) (by decide))))),?_⟩;refine ⟨_,_,_,aX,T.p1 _,na (by ac_nf),g7 (n:=999) (g7 (n:=998) (g7 (n:=997) (g7 (n:=996) (g7 (n:=995) (g7 (n:=994) (by decide)))))),?_⟩;simp only [No];rw [show c2 (ae "kind") (V.str (eD d.k)) ([]:List (Str × V))=[(ae "kind",V.str (eD d.k))] from gh [] rfl (by ac_nf),
  show c2 (ae "name") (V.str d.name) ([(ae "kind",V.str (eD d.k))]:List (Str × V))=[(ae "kind",V.str (eD d.k)),(ae "name",V.str d.name)] from gh [ae "kind"] rfl (by ac_nf),
  show c2 (ae "start") (V.int d.start) ([(ae "kind",V.str (eD d.k)),(ae "name",V.str d.name)]:List (Str × V))=[(ae "kind",V.str (eD d.k)),(ae "name",V.str d.name),(ae "start",V.int d.start)] from gh [ae "kind",ae "name"] rfl (by ac_nf),
  show c2 (ae "end") (V.int d.fin) ([(ae "kind",V.str (eD d.k)),(ae "name",V.str d.name),(ae "start",V.int d.start)]:List (Str × V))=[(ae "kind",V.str (eD d.k)),(ae "name",V.str d.name),(ae "start",V.int d.start),(ae "end",V.int d.fin)] from gh [ae "kind",ae "name",ae "start"] rfl (by ac_nf),
  show c2 (ae "off") (V.int d.off) ([(ae "kind",V.str (eD d.k)),(ae "name",V.str d.name),(ae "start",V.int d.start),(ae "end",V.int d.fin)]:List (Str × V))=[(ae "kind",V.str (eD d.k)),(ae "name",V.str d.name),(ae "start",V.int d.start),(ae "end",V.int d.fin),(ae "off",V.int d.off)] from gh [ae "kind",ae "name",ae "start",ae "end"] rfl (by ac_nf),
  show c2 (ae "near") (V.int d.near) ([(ae "kind",V.str (eD d.k)),(ae "name",V.str d.name),(ae "start",V.int d.start),(ae "end",V.int d.fin),(ae "off",V.int d.off)]:List (Str × V))=[(ae "kind",V.str (eD d.k)),(ae "name",V.str d.name),(ae "start",V.int d.start),(ae "end",V.int d.fin),(ae "off",V.int d.off),(ae "near",V.int d.near)] from gh [ae "kind",ae "name",ae "start",ae "end",ae "off"] rfl (by ac_nf),
  show c2 (ae "least") (V.int d.least) ([(ae "kind",V.str (eD d.k)),(ae "name",V.str d.name),(ae "start",V.int d.start),(ae "end",V.int d.fin),(ae "off",V.int d.off),(ae "near",V.int d.near)]:List (Str × V))=[(ae "kind",V.str (eD d.k)),(ae "name",V.str d.name),(ae "start",V.int d.start),(ae "end",V.int d.fin),(ae "off",V.int d.off),(ae "near",V.int d.near),(ae "least",V.int d.least)] from gh [ae "kind",ae "name",ae "start",ae "end",ae "off",ae "near"] rfl (by ac_nf)]
 exact q
theorem ab4:cu P base T 2 t.yp t.Ao ki (tX t 0):=by
 refine cy (Le T) fun vO=>?_;exists T.Vn.ok adF,9
 obtain ⟨p,ao,d,rfl,aC,ar,q⟩:=h;refine ⟨_,(a6 (dS (LP rfl T.Fp T.LN vO ak T.ir .nil cx (ai (U 0) (ai cX (ai (U 1) (ai (U 2) (ai (U 3) (ai (U 4) (ai (U 5) (ai (U 6) aE))))))))))),?_⟩;nofun;exact ⟨p,ao,d,by rw [aC];rfl,by omega,ar,q⟩
theorem aan:cu P base T 2 t.x1 t.CQ ki (tX t 1):=by
 refine cy (Le T) fun vO=>?_;exists T.OH.ok Yy,9
 obtain ⟨p,ao,d,rfl,aC,ar,q⟩:=h;refine ⟨_,(a6 (dS (LP rfl T.Fp T.LN vO ak T.ir .nil cx (ai (U 0) (ai cX (ai (U 1) (ai (U 2) (ai (U 3) (ai (U 4) (ai (U 5) (ai (U 6) aE))))))))))),?_⟩;nofun;exact ⟨p,ao,d,by rw [aC];rfl,by omega,ar,q⟩
theorem KK:cu P base T 2 t.xa t.z1 ki (tX t 2):=by
 refine cy (Le T) fun vO=>?_;exists T.P4.ok ahf,9
 obtain ⟨p,ao,d,rfl,aC,ar,q⟩:=h;refine ⟨_,(a6 (dS (LP rfl T.Fp T.LN vO ak T.ir .nil cx (ai (U 0) (ai cX (ai (U 1) (ai (U 2) (ai (U 3) (ai (U 4) (ai (U 5) (ai (U 6) aE))))))))))),?_⟩;nofun;exact ⟨p,ao,d,by rw [aC];rfl,by omega,ar,q⟩
def tK (t:bM) (C:Addr):bP:=fun vs H Q _=>∃ p d,vs=[.ref p]/\eB t H p d/\C=t.gu d.k/\Q (.int (mc d)) H
def u_ (t:bM) (C:Addr):bP:=fun vs H Q _=>∃ p d,vs=[.ref p]/\eB t H p d/\C=t.gu d.k/\Q (.int (mb d)) H
theorem amK:cu P base T 1 t.Ay t.KJ ["self"] (tK t (t.gu 0)):=by
 exists T.Rl.ok aaa,9
 obtain ⟨p,d,rfl,W,cj,q⟩:=h;have aC:=(T.cw_inj (by decide) W.1 cj).symm;refine ⟨_,(a6 (cg aR)),?_⟩;rw [show mc d=1 by unfold mc;simp only [aC]] at q;nofun;exact q
theorem Ps:cu P base T 1 t.A_ t.Hj ["self"] (tK t (t.gu 1)):=by
 exists T.T'.ok XA,9
 obtain ⟨p,d,rfl,W,cj,q⟩:=h;have aC:=(T.cw_inj (by decide) W.1 cj).symm;refine ⟨_,(a6 (cg aR)),?_⟩;rw [show mc d=0 by unfold mc;simp only [aC]] at q;nofun;exact q
theorem ahb:cu P base T 1 t.z0 t.LV ["self"] (tK t (t.gu 2)):=by
 exists T.OM.ok WM,9
 obtain ⟨p,d,rfl,W,cj,q⟩:=h;have aC:=(T.cw_inj (by decide) W.1 cj).symm;refine ⟨_,(a6 (cg aR)),?_⟩;rw [show mc d=2 by unfold mc;simp only [aC]] at q;nofun;exact q
theorem NT (T:Txt w K mg t):pk P w K mg base dr 1 (tG t) "ready" ["self"] (tK t):=by
 refine ⟨fun C cj=>?_⟩;obtain ⟨k,aC,rfl⟩:=cj
 match k,aC with
 | 0,_=>exact ⟨_,_,T.FT,T.alN,amK T,T.adO⟩
 | 1,_=>exact ⟨_,_,T.Lf,T.akV,Ps T,T.lv⟩
 | 2,_=>exact ⟨_,_,T.HK,T.aaE,ahb T,T.adk⟩
theorem aaR:cu P base T 1 t.ii t.JN ["self"] (u_ t (t.gu 0)):=by
 exists T.PX.ok acd,9
 obtain ⟨p,d,rfl,W,cj,q⟩:=h;have aC:=(T.cw_inj (by decide) W.1 cj).symm;refine ⟨_,(a6 (cg aR)),?_⟩;rw [show mb d=2 by unfold mb;simp only [aC]] at q;nofun;exact q
theorem aiu:cu P base T 1 t.Ba t.I_ ["self"] (u_ t (t.gu 1)):=by
 exists T.Qr.ok aj5,9
 obtain ⟨p,d,rfl,W,cj,q⟩:=h;have aC:=(T.cw_inj (by decide) W.1 cj).symm;refine ⟨_,(a6 (cg (bB (U 0) rfl))),?_⟩;rw [show mb d=d.off by unfold mb;simp only [aC]] at q;nofun;exact ⟨_,W.Wz T,q⟩
theorem Ys:cu P base T 1 t.zx t.LJ ["self"] (u_ t (t.gu 2)):=by
 exists T.V6.ok adW,9
 obtain ⟨p,d,rfl,W,cj,q⟩:=h;have aC:=(T.cw_inj (by decide) W.1 cj).symm;refine ⟨_,(a6 (cg aR)),?_⟩;rw [show mb d=1 by unfold mb;simp only [aC]] at q;nofun;exact q
theorem Qd (T:Txt w K mg t):pk P w K mg base dr 1 (tG t) "fade" ["self"] (u_ t):=by
 refine ⟨fun C cj=>?_⟩;obtain ⟨k,aC,rfl⟩:=cj
 match k,aC with
 | 0,_=>exact ⟨_,_,T.FT,T.abO,aaR T,T.ajo⟩
 | 1,_=>exact ⟨_,_,T.Lf,T.akL,aiu T,T.aeg⟩
 | 2,_=>exact ⟨_,_,T.HK,T.Xe,Ys T,T.ami⟩
noncomputable def kY (c:Nat):List (List Nat)->List Nat
 | []=>[]
 | [a]=>a
 | a :: b :: r=>a ++ c :: kY c (b :: r)
theorem Pw:∀ {a b X Y:List Nat},c ∉ a->c ∉ b->a ++ c :: X=b ++ c :: Y->a=b/\X=Y
 | [],[],X,Y,_,_,h=>⟨rfl,(wM h).2⟩
 | [],d :: b,X,Y,_,ab,h=>absurd (wM h).1 (fun z=>ab (by simp [<- z]))
 | d :: a,[],X,Y,aO,_,h=>absurd (wM h).1 (fun z=>aO (by simp [z]))
 | d :: a,e :: b,X,Y,aO,ab,h=>by
  obtain ⟨af,aj⟩:=wM h;obtain ⟨aq,aD⟩:=Pw (fun z=>aO (hS _ z)) (fun z=>ab (hS _ z)) aj;exact ⟨by rw [af,aq],aD⟩
theorem Sb:∀ {ps qs:List (List Nat)},(∀ p ∈ ps,c ∉ p)->(∀ q ∈ qs,c ∉ q)->ps ≠ []->qs ≠ []->kY c ps=kY c qs->ps=qs
 | [a],[b],_,_,_,_,h=>by rw [show a=b from h]
 | [a],b :: l4 :: r,aO,_,_,_,h=>absurd (show c ∈ a by rw [show a=b ++ c :: kY c (l4 :: r) from h];simp) (aO a (by simp))
 | a :: sm :: r,[b],_,ab,_,_,h=>absurd (show c ∈ b by rw [show b=a ++ c :: kY c (sm :: r) from h.symm];simp) (ab b (by simp))
 | a :: sm :: r,b :: l4 :: s,aO,ab,_,_,h=>by
  obtain ⟨aq,aD⟩:=Pw (aO a (by simp)) (ab b (by simp)) (show a ++ c :: kY c (sm :: r)=b ++ c :: kY c (l4 :: s) from h);rw [aq,Sb (fun p ar=>aO p (hS _ ar)) (fun q aI=>ab q (hS _ aI)) (by simp) (by simp) aD]
 | [],_,_,_,h,_,_=>absurd rfl h
 | _ :: _,[],_,_,_,h,_=>absurd rfl h
theorem M_:∀ {ps:List (List Nat)},d ∈ kY c ps->d=c\/∃ p ∈ ps,d ∈ p
 | [],h=>nomatch h
 | [a],h=>.inr ⟨a,by simp,h⟩
 | a :: b :: r,h=>by
  rcases hI.mp (show d ∈ a ++ c :: kY c (b :: r) from h) with h | h
  .exact .inr ⟨a,by simp,h⟩
  .rcases fi.mp h with h | h
   .exact .inl h
   .rcases M_ h with h | ⟨p,ar,h⟩
    .exact .inl h
    .exact .inr ⟨p,hS _ ar,h⟩
theorem qa (c:Nat):∀ ys:List Str,(d4 ⟨#[c]⟩ ys).cps.toList=kY c (ys.map (·.cps.toList))
 | []=>rfl
 | [a]=>rfl
 | a :: b :: r=>by
  show (a ++ ⟨#[c]⟩ ++ d4 ⟨#[c]⟩ (b :: r)).cps.toList=_;rw [k3,lX,k3,lX,qa c (b :: r)];simp [kY]
theorem BK {x y:Str} (h:x.cps.toList=y.cps.toList):x=y:=by
 cases x;cases y;exact congrArg Str.mk (RQ.mp h)
theorem Wh (aY:ys ≠ []) (hf:∀ y ∈ ys,c ∉ y.cps.toList):ij (d4 ⟨#[c]⟩ ys) ⟨#[c]⟩=ys:=by
 have e:=congrArg (·.cps.toList) (StrLaws.join_split (d4 ⟨#[c]⟩ ys) ⟨#[c]⟩);simp only [qa] at e;have aD:=Sb (c:=c) (ps:=(ij (d4 ⟨#[c]⟩ ys) ⟨#[c]⟩).map (·.cps.toList)) (qs:=ys.map (·.cps.toList)) (fun p ar=>by
  obtain ⟨y,bh,rfl⟩:=b1.mp ar;exact StrLaws.split_free _ c y bh) (fun p ar=>by
  obtain ⟨y,bh,rfl⟩:=b1.mp ar;exact hf y bh) (by simp [ZR]) (by simpa using aY) e
 exact (List.map_inj_right fun x y h=>BK h).mp aD
noncomputable abbrev num (v:Int):Str:=ae (toString v)
theorem acL:∀ n,n < 1000->(decide (1 <= ((tc 10 n).map yi).length) && decide (((tc 10 n).map yi).length <= 3) && ((tc 10 n).map yi).all mj && (decide (((tc 10 n).map yi).length <= 1) || decide (((tc 10 n).map yi).headD 0 ≠ 48)) &&
  decide (OQ ((tc 10 n).map yi)=n))=true:=by ac_nf
theorem BM (h0:0 <= v) (af:v < 1000):j6 (num v)=true/\val (num v)=v:=by
 have e:=aff v.toNat;rw [pT h0] at e;have a:=acL v.toNat (by omega);rw [<- e,iE,decide_eq_true_eq] at a;exact ⟨a.1,by show ((OQ (cs (num v)):Nat):Int)=v;rw [a.2];omega⟩
theorem Tm {v lo ah:Int} (h0:0 <= v) (af:v < 1000) (aA:lo <= v) (de:v <= ah):iP (num v) lo ah=.int v:=by
 obtain ⟨a,b⟩:=BM h0 af;unfold iP;rw [a,b,decide_eq_false (by omega:¬ v < lo),decide_eq_false (by omega:¬ ah < v)];rfl
theorem adK (h0:0 <= u) (af:u < 1000) (aj:0 <= v) (a':v < 1000) (e:num u=num v):u=v:=by
 rw [<- (BM h0 af).2,e,(BM aj a').2]
theorem M9 (h0:0 <= v) (af:v < 1000):∀ c ∈ (num v).cps.toList,48 <= c/\c <= 57:=fun c av=>by
 have:=nX.mp (ZQ (BM h0 af).1).2 c av;simpa [mj] using this
theorem agu:∀ c ∈ jJ.cps.toList,97 <= c/\c <= 122:=by ac_nf
theorem age:∀ k,k < 26->97 + k ∈ jJ.cps.toList:=by ac_nf
theorem nG {x:Str} (h:made x jJ 8=true):(1 <= x.length/\x.length <= 8)/\∀ c ∈ x.cps.toList,97 <= c/\c <= 122:=by
 unfold made at h;split at h
 .cases h
 .rename_i af;split at h
  .cases h
  .rename_i aj;have a':¬ x.length=0:=fun z=>af (Dz.mpr z)
   refine ⟨by omega,fun c av=>?_⟩;have:=nX.mp h c av;rw [D4] at this;exact agu c (of_decide_eq_true this)
theorem aa9 {x:Str} (h0:1 <= x.length) (af:x.length <= 8) (h:∀ c ∈ x.cps.toList,97 <= c/\c <= 122):made x jJ 8=true:=by
 unfold made;rw [if_neg (fun z=>by have:=Dz.mp z;omega),if_neg (by omega)];refine nX.mpr fun c av=>?_
 have:=h c av;rw [D4];have e:=age (c - 97) (by omega);rw [show 97 + (c - 97)=c by omega] at e;exact decide_eq_true e
structure jV (n:Int) (d:bj):Prop where
 k:d.k < 3
 nm:made d.name jJ 8=true
 st:0 <= d.start/\d.start < n
 fp:0 <= d.fin/\d.fin < n
 ne:d.start ≠ d.fin
 of:0 <= d.off/\d.off <= 30
 KL:0 <= d.near/\d.near <= 30
 le:1 <= d.least/\d.least <= 60
structure rZ (n:Int) (ds:List bj):Prop where
 nn:2 <= n/\n <= 99
 ln:1 <= ds.length/\ds.length <= 12
 al:∀ d ∈ ds,jV n d
 aG:(ds.map (·.name)).Nodup
noncomputable def m2 (d:bj):List Str:=[eD d.k,d.name,num d.start,num d.fin,num d.off,num d.near,num d.least]
noncomputable def h5 (n:Int) (ds:List bj):List (List Str):=[ae "ring",num n] :: ds.map m2
noncomputable def pb (n:Int) (ds:List bj):Str:=d4 nl ((h5 n ds).map (d4 cA))
def pS (x:Str):Prop:=x.length <= 8/\(32:Nat) ∉ x.cps.toList/\(10:Nat) ∉ x.cps.toList
theorem Uj (k:Nat):pS (eD k):=by
 match k with
 | 0=>exact ⟨by ac_nf,by ac_nf,by ac_nf⟩
 | 1=>exact ⟨by ac_nf,by ac_nf,by ac_nf⟩
 | _ + 2=>exact ⟨show (ae "tram").length <= 8 by ac_nf,show (32:Nat) ∉ (ae "tram").cps.toList by ac_nf,show (10:Nat) ∉ (ae "tram").cps.toList by ac_nf⟩
theorem kR (h0:0 <= v) (af:v < 1000):pS (num v):=
 ⟨cP (yr h0 (by omega)) (by decide),fun z=>by have:=M9 h0 af _ z;omega,fun z=>by have:=M9 h0 af _ z;omega⟩
theorem He {x:Str} (h:made x jJ 8=true):pS x:=
 ⟨(nG h).1.2,fun z=>by have:=(nG h).2 _ z;omega,fun z=>by have:=(nG h).2 _ z;omega⟩
theorem jV.plain (h:jV n d) (aY:n <= 99):∀ x ∈ m2 d,pS x:=fun x ag=>by
 have af:=h.st;have aj:=h.fp;have a':=h.of;have c7:=h.KL;have eM:=h.le;simp only [m2,fi,rt,or_false] at ag;rcases ag with rfl | rfl | rfl | rfl | rfl | rfl | rfl
 .exact Uj _
 .exact He h.nm
 .exact kR (by omega) (by omega)
 .exact kR (by omega) (by omega)
 .exact kR (by omega) (by omega)
 .exact kR (by omega) (by omega)
 .exact kR (by omega) (by omega)
theorem rZ.plain (h:rZ n ds):∀ r ∈ h5 n ds,∀ x ∈ r,pS x:=fun r ak x ag=>by
 have aY:=h.nn;rcases fi.mp ak with rfl | ak
 .simp only [fi,rt,or_false] at ag;rcases ag with rfl | rfl
  .exact ⟨by ac_nf,by ac_nf,by ac_nf⟩
  .exact kR (by omega) (by omega)
 .obtain ⟨d,hd,rfl⟩:=b1.mp ak;exact (h.al d hd).plain aY.2 x ag
theorem Rw (h0:rs ≠ []) (af:∀ r ∈ rs,r ≠ []) (aj:∀ r ∈ rs,∀ x ∈ r,pS x):hj (d4 nl (rs.map (d4 cA)))=rs:=by
 unfold hj;rw [ahm,dL];rw [Wh (by simpa using h0) (fun y bh=>by
  obtain ⟨r,ak,rfl⟩:=b1.mp bh;rw [qa];intro z;rcases M_ z with z | ⟨p,ar,z⟩
  .cases z
  .obtain ⟨x,ag,rfl⟩:=b1.mp ar;exact (aj r ak x ag).2.2 z)]
 rw [k_];have:∀ r ∈ rs,((fun r=>ij r ⟨#[32]⟩) ∘ d4 ⟨#[32]⟩) r=r:=fun r ak=>Wh (af r ak) fun x ag=>(aj r ak x ag).2.1
 exact (SU this).trans (List.map_id rs)
theorem af3 (h:rZ n ds):hj (pb n ds)=h5 n ds:=Rw (by simp [h5]) (fun r ak=>by
 rcases fi.mp ak with rfl | ak
 .simp
 .obtain ⟨d,hd,rfl⟩:=b1.mp ak;simp [m2]) h.plain
theorem pw (sep:Str) (B:Nat):∀ ys:List Str,(∀ y ∈ ys,y.length <= B)->(d4 sep ys).length <= ys.length * (B + sep.length)
 | [],_=>by show (Str.empty).length <= _;exact fC _
 | [a],h=>by
  have:=h a (by simp);show a.length <= _;simp only [hi,x4];omega
 | a :: b :: r,h=>by
  have af:=h a (by simp);have aj:=pw sep B (b :: r) fun y bh=>h y (hS _ bh)
  show (a ++ sep ++ d4 sep (b :: r)).length <= _;rw [oe,oe,hi,Xt];omega
theorem afB (h:rZ n ds):(pb n ds).length <= 1000:=by
 have af:∀ y ∈ (h5 n ds).map (d4 cA),y.length <= 63:=fun y bh=>by
  obtain ⟨r,ak,rfl⟩:=b1.mp bh;have:=pw cA 8 r fun x ag=>(h.plain r ak x ag).1
  rw [qm] at this;have aA:r.length <= 7:=by
   rcases fi.mp ak with rfl | ak
   .simp
   .obtain ⟨d,hd,rfl⟩:=b1.mp ak;simp [m2]
  omega
 have aj:=pw nl 63 _ af;rw [xJ] at aj;have a':((h5 n ds).map (d4 cA)).length <= 13:=by
  have:=h.ln;simp [h5];omega
 unfold pb;omega
noncomputable abbrev pD:List Str:=[ae "row",ae "told",ae "place"]
noncomputable def mw (row:Int) (a7:Addr) (pl:Int):List (Str × V):=[(ae "row",.int row),(ae "told",.ref a7),(ae "place",.int pl)]
theorem xN (row:Int) (a7:Addr) (pl:Int):(mw row a7 pl).map (·.1)=pD:=rfl
theorem adJ (row:Int) (a7:Addr) (pl v:Int):c2 (ae "place") (.int v) (mw row a7 pl)=mw row a7 v:=by
 unfold mw;simp only [c2];rw [if_neg (by ac_nf),if_neg (by ac_nf)];rfl
def c8 (t:bM) (H:au) (p:Addr) (row:Int) (ws:List Str) (pl:Nat):Prop:=
 (ws.length <= 1000/\∀ x ∈ ws,x.length <= 1000)/\∃ ao a7,H p=some (.ins t.g6 ao (mw row a7 pl))/\H a7=some (.lst (aL ws))
def ad (p:Addr) (H I:au):Prop:=∀ b u,b ≠ p->H b=some u->I b=some u
theorem ad.trans {p:Addr} (a:ad p H H1) (b:ad p H1 aw):ad p H aw:=fun c u n e=>b c u n (a c u n e)
theorem ad.of {p:Addr} (a:aS H H1):ad p H H1:=fun c u _ e=>a c u e
theorem ad.put {p:Addr}:ad p H (upd H p o):=fun c u n e=>by rw [aH n];exact e
theorem eF (ws:List Str):(aL ws).length=ws.length:=by unfold aL;rw [a0]
theorem q_ {ws:List Str} {i:Nat} {x:Str} (h:ws[i]? = some x):(aL ws)[i]? = some (.str x):=by unfold aL;rw [da,h];rfl
theorem zn (ws:List Str):(aL ws).all iT=true:=by unfold aL;simp [iT]
theorem BY (x:Str) (xs:List Str):tF (.str x) (aL xs)=decide (x ∈ xs):=by
 unfold tF aL;rw [ajr,j'];simp only [qV,Function.comp,iW,beq_iff_eq,decide_eq_true_eq];constructor
 .rintro ⟨y,bh,rfl⟩;exact bh
 .intro h;exact ⟨x,h,rfl⟩
section
variable {w:World} {K:a_} {mg:Str->Option Value} {t:bM} {H I:au} {p:Addr} {row:Int} {ws:List Str} {pl:Nat}
theorem c8.same (h:c8 t H p row ws pl) (s:aS H I):c8 t I p row ws pl:=by
 obtain ⟨aJ,ao,a7,aq,aD⟩:=h;exact ⟨aJ,ao,a7,s _ _ aq,s _ _ aD⟩
theorem c8.wK (h:c8 t H p row ws pl) (s:ad q H I) (n:p ≠ q) (k:∃ C ao aK,H q=some (.ins C ao aK)):c8 t I p row ws pl:=by
 obtain ⟨aJ,ao,a7,aq,aD⟩:=h;obtain ⟨C,AD,aK,bL⟩:=k;exact ⟨aJ,ao,a7,s _ _ n aq,s _ _ (b0 aD bL (by intro z;cases z)) aD⟩
theorem c8.ins (h:c8 t H p row ws pl):∃ C ao aK,H p=some (.ins C ao aK):=by
 obtain ⟨aJ,ao,a7,aq,aD⟩:=h;exact ⟨_,_,_,aq⟩
theorem c8.no (row:Int) (a7:Addr) (pl:Int) (h:pD.contains m=false):(mw row a7 pl).lookup m=none:=xO pD (xN ..) h
theorem Kj (T:Txt w K mg t) (e:H p=some (.ins t.g6 ao (mw row a7 pl))):fQ K H p (ae "place") (.int pl):=
 ⟨_,ao,_,e,T.fV,T.Ie,gr pD 2 (xN ..) (by ac_nf) rfl⟩
theorem I4 (T:Txt w K mg t) (e:H p=some (.ins t.g6 ao (mw row a7 pl))):fQ K H p (ae "told") (.ref a7):=
 ⟨_,ao,_,e,T.fV,T.SD,gr pD 1 (xN ..) (by ac_nf) rfl⟩
end
def Uy (t:bM):bP:=fun vs H Q _=>∃ (p ao a7:Addr) (row:Int),vs=[.ref p,.int row,.ref a7]/\H p=some (.ins t.g6 ao [])/\Q .bO (upd H p (.ins t.g6 ao (mw row a7 0)))
def alw (t:bM):bP:=fun vs H Q _=>∃ p row ws pl,vs=[.ref p]/\c8 t H p row ws pl/\pl <= ws.length/\Q (.str (ws.getD pl (ae ""))) H
def Zk (t:bM):bP:=fun vs H Q _=>∃ p row ws pl,vs=[.ref p]/\c8 t H p row ws pl/\Q (.bo (decide (pl < ws.length))) H
def II (t:bM) (H:au) (p:Addr) (row:Int) (ws:List Str) (pl:Nat) (R:au->Prop):Prop:=∀ I,ad p H I->(aP H->aP I)->c8 t I p row ws pl->R I
def aeQ (t:bM):bP:=fun vs H Q _=>∃ p row ws pl,vs=[.ref p,.bo true]/\c8 t H p row ws pl/\II t H p row ws (pl + 1) (Q .bO)
def ZL (K:a_) (t:bM):bP:=fun vs H Q _=>∃ p row ws pl x c xs,vs=[.ref p,.ref c]/\c8 t H p row ws pl/\ws[pl]? = some x/\aB K H c (aL xs)/\x ∈ xs/\II t H p row ws (pl + 1) (Q (.str x))
def ady (t:bM):bP:=fun vs H Q _=>∃ p row ws pl x lo ah v,vs=[.ref p,.int lo,.int ah]/\c8 t H p row ws pl/\ws[pl]? = some x/\iP x lo ah=.int v/\aP H/\II t H p row ws (pl + 1) (Q (.int v))
def adD (t:bM):bP:=fun vs H Q _=>∃ p row ws pl,vs=[.ref p]/\c8 t H p row ws pl/\pl=ws.length/\Q .bO H
theorem aev:cu P base T 1 t.x3 t.Uf yo (Uy t):=by
 exists T.PL.ok aea,9
 obtain ⟨p,ao,a7,row,rfl,ar,q⟩:=h;refine ⟨_,(aW (e6 (U 0) (U 1) rfl)
   (aW (e6 (U 0) (U 2) rfl)
   (a6 (e6 (U 0) aR rfl)))),?_⟩
 nofun;refine ⟨_,_,_,ar,T.fV,T.YH,by decide,?_⟩;refine ⟨_,_,_,aX,T.fV,T.SD,g7 (n:=999) (by decide),?_⟩;refine ⟨_,_,_,aX,T.fV,T.Ie,g7 (n:=999) (g7 (n:=998) (by decide)),?_⟩;simp only [No];rw [show c2 (ae "row") (V.int row) ([]:List (Str × V))=[(ae "row",V.int row)] from gh [] rfl (by ac_nf),
  show c2 (ae "told") (V.ref a7) ([(ae "row",V.int row)]:List (Str × V))=[(ae "row",V.int row),(ae "told",V.ref a7)] from gh [ae "row"] rfl (by ac_nf),
  show c2 (ae "place") (V.int 0) ([(ae "row",V.int row),(ae "told",V.ref a7)]:List (Str × V))=[(ae "row",V.int row),(ae "told",V.ref a7),(ae "place",V.int 0)] from gh [ae "row",ae "told"] rfl (by ac_nf)]
 exact q
theorem Cx:cu P base T 1 t.C4 t.E6 ["self"] (alw t):=by
 exists T.Q8.ok ahl,9
 obtain ⟨p,row,ws,pl,rfl,⟨aJ,ao,a7,aq,aD⟩,hle,q⟩:=h;refine ⟨_,(aW (dK (c_ e5 (bB (U 0) rfl) (gD h4 rfl T.hR hW (ai (bB (U 0) rfl) aE)) (cC _)) (a6 (cg cX)) eu)
   (a6 (cg (cq lc (bB (U 0) rfl) (bB (U 0) rfl))))),?_⟩
 nofun;refine dW (decide ((pl:Int)=(ws.length:Int))) (fun Q a8=>?_) (fun c=>?_) (fun c=>?_)
 .nofun;refine ⟨_,Kj T aq,_,I4 T aq,_,rfl,_,.inl (aB.of aD),rfl,?_⟩;rw [eF];nofun;exact a8
 .nofun;have c':pl=ws.length:=by have:=of_decide_eq_true c;omega
  rw [show ws.getD pl (ae "")=ae "" by rw [iF,VV (by omega)];rfl] at q;exact q
 .nofun;have c':pl < ws.length:=by have:=of_decide_eq_false c;omega
  have ag:ws[pl]? = some ws[pl]:=bc c';rw [iF,ag] at q;exact ⟨_,I4 T aq,_,Kj T aq,_,rfl,_,_,rfl,aB.of aD,_,cB (q_ ag),q⟩
theorem M0:cu P base T 1 t.AB t.Im ["self"] (Zk t):=by
 exists T.ci.ok al1,9
 obtain ⟨p,row,ws,pl,rfl,⟨aJ,ao,a7,aq,aD⟩,q⟩:=h;refine ⟨_,(a6 (cg (hO lu (bB (U 0) rfl) (gD h4 rfl T.hR hW (ai (bB (U 0) rfl) aE)) (cC _)))),?_⟩;nofun;have e:decide (pl < ws.length)=decide ((pl:Int) < (ws.length:Int)):=by rw [j'];simp
 rw [e] at q;refine ⟨_,Kj T aq,_,I4 T aq,_,rfl,_,.inl (aB.of aD),?_⟩;rw [eF];exact ⟨_,rfl,q⟩
theorem Ms:cu P base T 1 t.BL t.Mf BU (aeQ t):=by
 exists T.Uc.ok ae5,9
 obtain ⟨p,row,ws,pl,rfl,⟨aJ,ao,a7,aq,aD⟩,q⟩:=h;refine ⟨_,(aW (dK (tH (oJ (U 1))) (a6 n1) eu)
   (a6 (Jb (U 0) aR F_))),?_⟩
 nofun;refine dW false (fun Q a8=>?_) (fun av=>nomatch av) (fun _=>?_)
 .nofun;exact a8
 .nofun;refine ⟨_,_,_,aq,T.fV,T.Ie,_,gr pD 2 (xN ..) (by ac_nf) rfl,_,rfl,_,_,aq,by rw [<- a0 (f:=(·.1)),xN];decide,?_⟩;rw [adJ];exact q _ ad.put (fun n=>n.upd) ⟨aJ,ao,a7,aX,by rw [aH (b0 aD aq (by intro z;cases z))];exact aD⟩
theorem ut:cu P base T 2 t.B' t.L8 Eh (ZL K t):=by
 refine cy (Cx T) fun rC=>cy (Ms T) fun w'=>?_;exists T.Uq.ok TR,9
 obtain ⟨p,row,ws,pl,x,c,xs,rfl,R,ag,av,hm,q⟩:=h;refine ⟨_,(aW (b5 (i:=2) TR.aG (gc (U 0) T.fV T.zy rC ak T.BI .nil cx))
   (aW (dS (eX (U 0) T.fV T.Gv w' ak T.G8 .nil cx (ai (hO FY (U 2) (U 1) (by with_unfolding_all rfl)) aE)))
   (a6 (cg (U 2))))),?_⟩
 have dD:pl < ws.length:=(cv.mp ag).1;have a5:ws.getD pl (ae "")=x:=by rw [iF,ag];rfl
 obtain ⟨_,ao,a7,aq,aD⟩:=id R;nofun;refine ⟨_,_,aq,c8.no _ _ _ (by ac_nf),⟨p,row,ws,pl,rfl,R,by omega,?_⟩⟩;rw [a5];nofun;refine ⟨_,_,aq,c8.no _ _ _ (by ac_nf),_,.inl av,rfl,zn xs,?_⟩;rw [BY,decide_eq_true hm];refine ⟨p,row,ws,pl,rfl,R,fun I s1 s2 s3=>?_⟩;nofun;exact q I s1 s2 s3
theorem yP:cu P base T 4 t.AN t.La Hn (ady t):=by
 refine cy (Cx T) fun rC=>cy (Ms T) fun w'=>cy (adA T) fun akc=>?_;exists T.T1.ok Nd,9
 obtain ⟨p,row,ws,pl,x,lo,ah,v,rfl,R,ag,aF,bN,q⟩:=h;refine ⟨_,(aW (b5 (i:=3) Nd.aG (cn akc ak T.aat T.Hb.bH T.acy (ai (gc (U 0) T.fV T.zy rC ak T.BI .nil cx) (ai (U 1) (ai (U 2) aE)))))
   (aW (dS (eX (U 0) T.fV T.Gv w' ak T.G8 .nil cx (ai (hO TB (U 3) qb (cC _)) aE)))
   (a6 (cg (U 3))))),?_⟩
 have dD:pl < ws.length:=(cv.mp ag).1;have a5:ws.getD pl (ae "")=x:=by rw [iF,ag];rfl
 obtain ⟨aJ,ao,a7,aq,aD⟩:=id R;nofun;refine ⟨_,_,aq,c8.no _ _ _ (by ac_nf),⟨p,row,ws,pl,rfl,R,by omega,?_⟩⟩;rw [a5];nofun;refine ⟨x,lo,ah,rfl,aJ.2 x (cH ag),bN,?_⟩;rw [aF];nofun;refine ⟨_,_,aq,c8.no _ _ _ (by ac_nf),?_⟩;refine ⟨p,row,ws,pl,rfl,R,fun I s1 s2 s3=>?_⟩;nofun;exact q I s1 s2 s3
theorem Og:cu P base T 2 t.Aj t.ER ["self"] (adD t):=by
 refine cy (M0 T) fun JV=>?_;exists T.Q2.ok ahq,9
 obtain ⟨p,row,ws,pl,rfl,R,aA,q⟩:=h;obtain ⟨aJ,ao,a7,aq,aD⟩:=id R;refine ⟨_,(a6 (dK (oJ (gc (U 0) T.fV T.bi JV ak T.Vd .nil cx)) (a6 n1) eu)),?_⟩;nofun;refine dW false (fun Q a8=>?_) (fun av=>nomatch av) (fun _=>?_)
 .nofun;refine ⟨_,_,aq,c8.no _ _ _ (by ac_nf),⟨p,row,ws,pl,rfl,R,?_⟩⟩;rw [decide_eq_false (by omega)];exact ⟨_,rfl,a8⟩
 .nofun;exact q
noncomputable abbrev az (ws:List Str) (k:Nat):Str:=ws.getD k (ae "")
theorem Hw {k:Nat} (h:az ws k ≠ ae ""):k < ws.length:=by
 refine Classical.byContradiction fun z=>h ?_
 unfold az;rw [iF,VV (by omega)];rfl
theorem akg (w:Str) (lo ah:Int):(∃ v,iP w lo ah=.int v/\lo <= v/\v <= ah/\w ≠ ae "")\/iP w lo ah=.bO:=by
 unfold iP;split
 .rename_i h;rw [iE] at h;refine .inl ⟨val w,rfl,?_,?_,fun z=>?_⟩
  .have:=h.2;simp at this;omega
  .have:=h.2;simp at this;omega
  .have af:=h.1;rw [z] at af;exact absurd af (by ac_nf)
 .exact .inr rfl
def aaw (x:Str):Prop:=x.length <= 1000/\∀ c ∈ x.cps.toList,c < 16 ^ 8
noncomputable def iJ (ds:List bj) (x:Str):Option bj:=ds.find? fun d=>decide (d.name=x)
theorem yY {w:World} {K:a_} {mg:Str->Option Value} {base:Heap} {j k:Nat} (V:pk P w K mg base CX j oy m ps n8) (h:j <= k):pk P w K mg base CX k oy m ps n8:=⟨fun C cj=>by
 obtain ⟨f,fd,af,aj,a',c7⟩:=V.ok C cj;exact ⟨f,fd,af,aj,a'.mono h,c7⟩⟩
noncomputable def ke (x:Str) (lo ah:Int):Option Int:=if j6 x && !(decide (val x < lo) || decide (ah < val x)) then some (val x) else none
theorem LO (x:Str) (lo ah:Int):iP x lo ah=(ke x lo ah).elim .bO .int:=by
 unfold iP ke;split <;> rfl
theorem WI {x:Str} {lo ah v:Int} (h:iP x lo ah=.int v):ke x lo ah=some v:=by
 rw [LO] at h;cases e:ke x lo ah with
 | none=>rw [e] at h;cases h
 | some u=>rw [e] at h;injection h with h;rw [h]
theorem Kh {k:Nat} {lo ah v:Int} (h:iP (az ws k) lo ah=.int v):k + 1 <= ws.length/\lo <= v/\v <= ah:=by
 rcases akg (az ws k) lo ah with ⟨u,br,af,aj,a'⟩ | aY
 .rw [br] at h;injection h with h;subst h;exact ⟨Hw a',af,aj⟩
 .rw [aY] at h;cases h
theorem my {a x:α} (h:(l ++ [a])[i]? = some x):(i < l.length/\l[i]? = some x)\/(i=l.length/\x=a):=by
 by_cases ah:i < l.length
 .rw [tP ah] at h;exact .inl ⟨ah,h⟩
 .rw [sf (by omega)] at h;have h0:i - l.length=0:=by
   cases de:i - l.length with
   | zero=>rfl
   | succ m=>rw [de] at h;simp at h
  rw [h0] at h;exact .inr ⟨by omega,(by simpa using h:a=x).symm⟩
theorem wd {k:Nat} (h:k < ws.length):ws[k]? = some (az ws k):=by
 unfold az;rw [iF,bc h];rfl
theorem cf {α β:Type} {f:α->β} {l:List α} {i:Nat} {y:β} (h:(l.map f)[i]? = some y):∃ x,l[i]? = some x/\y=f x:=by
 rw [da] at h;cases e:l[i]? with
 | none=>rw [e] at h;cases h
 | some x=>rw [e] at h;exact ⟨x,rfl,(dU h).symm⟩
def agZ (t:bM) (cp H:au) (p:Addr) (rows:List (List Str)):Prop:=∃ qs:List Addr,H p=some (.lst (qs.map V.ref))/\cp p=none/\qs.length=rows.length/\∀ (i:Nat) (q:Addr) (r:List Str),qs[i]? = some q->rows[i]? = some r->c8 t H q i r 0/\cp q=none
def Ld (t:bM):bP:=fun vs H Q _=>∃ x,vs=[.str x]/\x.length <= 20000/\(∀ r ∈ hj x,r.length <= 1000/\∀ y ∈ r,y.length <= 1000)/\aP H/\∀ p I,aS H I->aP I->agZ t H I p (hj x)->Q (.ref p) I
theorem RO:cu P base T 3 t.w1 t.yj ["text"] (Ld t):=by
 have XG:b_ P w K mg base dr 2 t.z7 t.DN ["text"] Oq:=(aab T).mono (by decide);have XC:b_ P w K mg base dr 1 t.x3 t.Uf yo (Uy t):=aev T;exists T.zY.ok afo,9
 obtain ⟨x,rfl,aJ,uG,bN,q⟩:=h;refine ⟨_,(a6 (cg (hl rfl (CZ rfl T.AP (ai (cn XG ak T.WW T.H'.bH T.Y4 (ai (U 0) aE)) aE)) (gz (sc:=bz KP) rfl (by ac_nf)) (N:=["row","told"]) (sel:=[none,none]) (gA (M:=["text"]) (by ac_nf)) (fA.of (fun _ _ _ _=>(lC (K:=K) (n:=2) rfl rfl (ft (Db (i:=0) (er (N:=["row","told"]) (by ac_nf) rfl)) (ft (Db (i:=1) (er (N:=["row","told"]) (by ac_nf) rfl)) lS)))) (fun _ _ _ _=>⟨_,ix,by walk_at "B"⟩) (fun _ _ _ _=>⟨_,(rX T.Zn XC ak rfl T.Zd T.ajk .nil cx (ai (U 0) (ai (U 1) aE))),by walk_at "B"⟩))))),?_⟩;nofun;refine ⟨x,rfl,aJ,bN,fun p H1 uI jA ⟨ps,ar,hC,jQ,cO,pR⟩=>?_⟩;nofun;refine ⟨⟨_,aB.of ar⟩,?_⟩;have hlen:ps.length <= sizeLine:=by
  rw [cO];unfold hj;rw [a0];have:=Lj (x:=x) (y:=nl) (by rw [xJ];exact bW _);exact cP (show _ <= 40000 by omega) (by decide)
 refine c6.enum (xs:=ps.map V.ref) (fun i ys aw=>aS H1 aw/\aP aw/\∃ qs:List Addr,ys=qs.map V.ref/\qs.length=i/\∀ (j:Nat) (q:Addr) (r:List Str),qs[j]? = some q->(hj x)[j]? = some r->c8 t aw q j r 0/\H1 q=none)
  (by rw [a0];exact hlen) ⟨aS.refl H1,jA,[],rfl,rfl,fun j q r h _=>by simp at h⟩ ?_ ?_ ?_
 .rintro i ys aw ah bl;ac_rfl
  obtain ⟨s2,cI,qs,rfl,aI,_⟩:=bl;subst ba;exact ⟨aB.of (s2 _ _ ar),by rw [a0];omega⟩
 .rintro i v ys aw eY aF ⟨s2,cI,qs,rfl,aI,al⟩ gB N bf;rw [da] at aF;cases Df:ps[i]? with
  | none=>rw [Df] at aF;cases aF
  | some pi=>
   rw [Df] at aF;have e:=(dU aF).symm;subst e;refine Dq ?_;nofun;refine ⟨Sub.aa_,fun a ao aO hd bX=>?_⟩;refine ⟨a,ao,pi,i,rfl,aX,rfl,?_⟩;rw [No];have s3:aS aw (upd (upd (upd aw eY (.tup [.int i,.ref pi])) ao (.own a)) a (.ins t.g6 ao (mw i pi 0))):=by
    have s':aS aw (upd aw eY (.tup [.int i,.ref pi])):=bq gB;exact ((aS.trans s' (bq hd)).fY (s'.free aO))
   obtain ⟨r,ak⟩:∃ r,(hj x)[i]? = some r:=⟨(hj x)[i]'(by rw [<- cO];exact (cv.mp Df).1),bc _⟩;have aav:aw a=none:=(bq gB).free aO;refine bf _ _ ⟨s2.trans s3,((cI.upd).upd).upd,qs ++ [a],by rw [fS];rfl,by rw [ec,aI];rfl,fun j cW cV af aj=>?_⟩;by_cases aM:j < qs.length
   .rw [tP aM] at af;obtain ⟨ez,d9⟩:=al j cW cV af aj;exact ⟨ez.same s3,d9⟩
   .rw [sf (by omega)] at af;have o':j - qs.length=0:=by
     cases de:j - qs.length with
     | zero=>rfl
     | succ n=>rw [de] at af;simp at af
    rw [o'] at af;have bL:a=cW:=by simpa using af
    subst bL;have ek:j=i:=by omega
    subst ek;rw [ak] at aj;cases aj;refine ⟨⟨uG r (cH ak),ao,pi,aX,?_⟩,s2.free aav⟩;exact s3 _ _ (s2 _ _ (pR j pi r Df ak).1)
 .rintro ys aw ⟨s2,cI,qs,rfl,aI,al⟩ eY gB;refine q eY _ ((uI.trans s2).fY ((uI.trans s2).free gB)) (cI.upd) ⟨qs,aX,(uI.trans s2).free gB,by rw [aI,a0,cO],fun i cW r af aj=>?_⟩;obtain ⟨ez,d9⟩:=al i cW r af aj;exact ⟨ez.same (bq gB),uI.free d9⟩
def Xu (q:Addr) (H:au) (R:au->Prop):Prop:=∀ I,ad q H I->aP I->R I
def Ry (t:bM):bP:=fun vs H Q _=>∃ q row n,vs=[.ref q]/\c8 t H q row [ae "ring",num n] 0/\(2 <= n/\n <= 99)/\aP H/\Xu q H (Q (.int n))
def nI (t:bM) (H:au) (wl:Addr) (ds:List bj):Prop:=∃ as:List Addr,H wl=some (.lst (as.map V.ref))/\as.length=ds.length/\∀ (i:Nat) (a:Addr) (d:bj),as[i]? = some a->ds[i]? = some d->eB t H a d
def Y7 (t:bM):bP:=fun vs H Q _=>∃ q row ws pl wl ds x,vs=[.ref q,.ref wl]/\c8 t H q row ws pl/\ws[pl]? = some x/\made x jJ 8=true/\nI t H wl ds/\ds.length <= 12/\(∀ d ∈ ds,d.name ≠ x)/\aP H /\
 ∀ I,ad q H I->aP I->c8 t I q row ws (pl + 1)->Q (.str x) I
def W4 (t:bM):bP:=fun vs H Q _=>∃ q row ws pl n st fp,vs=[.ref q,.int n,.int st]/\c8 t H q row ws pl/\ws[pl]? = some (num fp)/\(0 <= st/\st < n)/\(0 <= fp/\fp < n)/\st ≠ fp/\n <= 99/\aP H /\
 ∀ I,ad q H I->aP I->c8 t I q row ws (pl + 1)->Q (.int fp) I
def Z2 (t:bM):bP:=fun vs H Q _=>∃ d:bj,vs=[.str (eD d.k),.str d.name,.int d.start,.int d.fin,.int d.off,.int d.near,.int d.least]/\d.k < 3/\∀ x I,aS H I->(aP H->aP I)->eB t I x d->H x=none->Q (.ref x) I
def Nk (t:bM):bP:=fun vs H Q _=>∃ q row n wl ds d,vs=[.ref q,.int n,.ref wl]/\c8 t H q row (m2 d) 0/\jV n d/\(2 <= n/\n <= 99)/\nI t H wl ds/\ds.length <= 12/\(∀ e ∈ ds,e.name ≠ d.name)/\aP H /\
 ∀ x I,ad q H I->aP I->eB t I x d->H x=none->Q (.ref x) I
theorem nI.wK {t:bM} (h:nI t H wl ds) (s:ad q H I) (r:c8 t H q row ws pl):nI t I wl ds:=by
 obtain ⟨as,aq,aD,al⟩:=h;obtain ⟨aJ,ao,a7,bL,ek⟩:=r;refine ⟨as,s _ _ (b0 aq bL (by intro z;cases z)) aq,aD,fun i a d af aj=>?_⟩;obtain ⟨aC,hk,fG⟩:=al i a d af aj;refine ⟨aC,hk,s _ _ (fun z=>?_) fG⟩;subst z;rw [fG] at bL;have es:=dU bL;injection es with _ _ j8;have kq:(7:Nat)=3:=congrArg qH j8;omega
theorem nI.same {t:bM} (h:nI t H wl ds) (s:aS H I):nI t I wl ds:=by
 obtain ⟨as,aq,aD,al⟩:=h;exact ⟨as,s _ _ aq,aD,fun i a d af aj=>(al i a d af aj).same s⟩
theorem acV:cu P base T 5 t.zz t.Cl ["reader"] (Ry t):=by
 refine cy (ut T) fun qo=>cy (yP T) fun m5=>cy (Og T) fun IC=>?_;exists T.KW.ok Sm,9
 obtain ⟨q,row,n,rfl,R,aY,bN,kD⟩:=h;refine ⟨_,(aW (dS (eX (U 0) T.fV T.vA qo ak T.w5 .nil cx (ai (ha (ai cX aE)) aE)))
   (aW (b5 (i:=1) Sm.aG (eX (U 0) T.fV T.qu m5 ak T.q0 .nil cx (ai (lQ rfl T.adC T.afs) (ai (lQ rfl T.adm T.XU) aE))))
   (aW (dS (gc (U 0) T.fV T.R0 IC ak T.QB .nil cx))
   (a6 (cg (U 1)))))),?_⟩
 obtain ⟨_,ao,a7,aq,aD⟩:=id R;nofun;refine ⟨_,_,aq,c8.no _ _ _ (by ac_nf),by decide,fun p ar=>?_⟩;have s0:aS H (upd H p (.lst [V.str (ae "ring")])):=bq ar;refine ⟨q,row,_,0,ae "ring",p,[ae "ring"],rfl,R.same s0,rfl,aB.of aX,by simp,fun H1 s1 b9 jW=>?_⟩;obtain ⟨_,N1,SV,f1,f2⟩:=id jW;nofun;refine ⟨_,_,f1,c8.no _ _ _ (by ac_nf),?_⟩;have jA:=b9 bN.upd;refine ⟨q,row,_,1,num n,2,99,n,rfl,jW,rfl,Tm (by omega) (by omega) aY.1 aY.2,jA,fun aw s2 cI eQ=>?_⟩;obtain ⟨_,vI,Ic,g1,g2⟩:=id eQ;nofun;refine ⟨_,_,g1,c8.no _ _ _ (by ac_nf),?_⟩;refine ⟨q,row,_,2,rfl,eQ,rfl,?_⟩;nofun;exact kD aw (((ad.of s0).trans s1).trans s2) (cI jA)
theorem aaS:cu P base T 3 t.GH t.Jw GL (Y7 t):=by
 refine cy (Cx T) fun rC=>cy (Ms T) fun w'=>cy (agQ T) fun amN=>?_;exists T.D8.ok UX,9
 obtain ⟨q,row,ws,pl,wl,ds,x,rfl,R,ag,hm,fw,fj,I3,bN,kD⟩:=h;refine ⟨_,(aW (b5 (i:=2) UX.aG (gc (U 0) T.fV T.zy rC ak T.BI .nil cx))
   (aW (dS (eX (U 0) T.fV T.Gv w' ak T.G8 .nil cx (ai (xB (cn amN ak T.aar T.IE.bH T.aax (ai (U 2) aE)) (u7 (hO E_ (U 2) (hl rfl (eA (U 1)) (gz (sc:=bz Pi) rfl (by ac_nf)) (N:=["way"]) (sel:=[none]) (gA (M:=["reader","ways","name"]) (by ac_nf)) (fA.of (fun _ _ _ _=>(Db (i:=0) (er (N:=["way"]) (by ac_nf) rfl))) (fun _ _ _ _=>⟨_,ix,by walk_at "B"⟩) (fun _ _ _ _=>⟨_,(bB (U 0) rfl),by walk_at "B"⟩))) (by with_unfolding_all rfl)))) aE)))
   (a6 (cg (U 2))))),?_⟩
 have dD:pl < ws.length:=(cv.mp ag).1;have a5:ws.getD pl (ae "")=x:=by rw [iF,ag];rfl
 obtain ⟨aJ,ao,a7,aq,aD⟩:=id R;nofun;refine ⟨_,_,aq,c8.no _ _ _ (by ac_nf),⟨q,row,ws,pl,rfl,R,by omega,?_⟩⟩;rw [a5];nofun;refine ⟨_,_,aq,c8.no _ _ _ (by ac_nf),?_⟩;refine ⟨x,rfl,aJ.2 x (cH ag),bN,?_⟩;rw [hm];nofun;obtain ⟨as,c9,dH,al⟩:=fw;refine ⟨⟨_,aB.of c9⟩,?_⟩;have hle:(as.map V.ref).length <= sizeLine:=by rw [a0,dH];exact cP fj (by decide)
 refine c6.lR (xs:=as.map V.ref) (zs:=ds.map fun d=>V.str d.name) (aB.of c9) hle (by rw [a0,a0,dH]) (fun i v z N aF gk bf=>?_) (fun p ar=>?_)
 .obtain ⟨a,aO,rfl⟩:=cf aF;obtain ⟨d,hd,rfl⟩:=cf gk;nofun;exact ⟨Sub.name,_,(al i a d aO hd).Gi T,bf⟩
 .nofun;have fD:(ds.map fun d=>V.str d.name)=aL (ds.map (·.name)):=by unfold aL;rw [k_];rfl
  rw [fD];refine ⟨_,.inl (aB.of aX),rfl,zn _,?_⟩;rw [BY,decide_eq_false (fun z=>by
   obtain ⟨d,hd,e⟩:=b1.mp z;exact I3 d hd e)]
  have s0:aS H (upd H p (.lst (aL (ds.map (·.name))))):=bq ar;exact ⟨q,row,ws,pl,rfl,R.same s0,fun I s1 b9 jW=>kD I ((ad.of s0).trans s1) (b9 bN.upd) jW⟩
theorem ZU:cu P base T 5 t.HT t.Mg Ai (W4 t):=by
 refine cy (Cx T) fun rC=>cy (yP T) fun m5=>?_;exists T.Kp.ok ag8,9
 obtain ⟨q,row,ws,pl,n,st,fp,rfl,R,ag,fO,Fy,bX,aY,bN,kD⟩:=h;refine ⟨_,(aW (dK (c_ e5 (gc (U 0) T.fV T.zy rC ak T.BI .nil cx) (lg x5 rfl T.wV vl (ai (U 2) aE)) (cC _)) (a6 n1) eu)
   (a6 (cg (eX (U 0) T.fV T.qu m5 ak T.q0 .nil cx (ai aR (ai (bF l_ (U 1) aR) aE)))))),?_⟩
 have dD:pl < ws.length:=(cv.mp ag).1;have a5:ws.getD pl (ae "")=num fp:=by rw [iF,ag];rfl
 obtain ⟨aJ,ao,a7,aq,aD⟩:=id R;nofun;refine dW false (fun Q a8=>?_) (fun av=>nomatch av) (fun _=>?_)
 .nofun;refine ⟨_,_,aq,c8.no _ _ _ (by ac_nf),⟨q,row,ws,pl,rfl,R,by omega,?_⟩⟩;rw [a5];nofun;refine ⟨LM (by omega),?_⟩;rw [decide_eq_false (fun z=>bX (adK (by omega) (by omega) (by omega) (by omega) z).symm)];exact a8
 .nofun;refine ⟨_,_,aq,c8.no _ _ _ (by ac_nf),⟨q,row,ws,pl,num fp,0,n - 1,fp,rfl,R,ag,Tm (by omega) (by omega) (by omega) (by omega),bN,fun H1 s1 b9 jW=>?_⟩⟩;exact kD H1 s1 (b9 bN) jW
theorem akQ {t:bM} {x ao:Addr} (ag:H x=none) (hd:H ao=none) (aC:d.k < 3) :
  aS H (upd (upd (upd H ao (.own x)) x (.ins (t.gu d.k) ao [])) x (.ins (t.gu d.k) ao (og d)))/\(aP H->aP (upd (upd (upd H ao (.own x)) x (.ins (t.gu d.k) ao [])) x (.ins (t.gu d.k) ao (og d)))) /\
   eB t (upd (upd (upd H ao (.own x)) x (.ins (t.gu d.k) ao [])) x (.ins (t.gu d.k) ao (og d))) x d:=
 ⟨(((aS.refl H).fY hd).fY ag).fY ag,fun n=>((n.upd).upd).upd,aC,ao,aX⟩
theorem amf:cu P base T 4 t.IU t.Jl Af (Z2 t):=by
 have aij:b_ P w K mg base dr 2 t.yp t.Ao ki (tX t 0):=ab4 T;have akC:b_ P w K mg base dr 2 t.x1 t.CQ ki (tX t 1):=aan T;have ajV:b_ P w K mg base dr 2 t.xa t.z1 ki (tX t 2):=KK T;exists T.Ei.ok aby,9
 obtain ⟨d,rfl,aC,q⟩:=h;refine ⟨_,(aW (dK (c_ e5 (U 0) cX (cC _)) (a6 (cg (rX T.aii aij ak rfl T.X0 T.adX .nil cx (ai (U 1) (ai (U 2) (ai (U 3) (ai (U 4) (ai (U 5) (ai (U 6) aE))))))))) eu)
   (aW (dK (c_ e5 (U 0) cX (cC _)) (a6 (cg (rX T.alK akC ak rfl T.air T.aj4 .nil cx (ai (U 1) (ai (U 2) (ai (U 3) (ai (U 4) (ai (U 5) (ai (U 6) aE))))))))) eu)
   (a6 (cg (rX T.Xz ajV ak rfl T.ae9 T.ajg .nil cx (ai (U 1) (ai (U 2) (ai (U 3) (ai (U 4) (ai (U 5) (ai (U 6) aE))))))))))),?_⟩
 have fin:∀ (x ao:Addr),H x=none->H ao=none->Q (.ref x) (upd (upd (upd H ao (.own x)) x (.ins (t.gu d.k) ao [])) x (.ins (t.gu d.k) ao (og d))):=fun x ao ag hd=>by
  obtain ⟨jD,iZ,qY⟩:=akQ (t:=t) (d:=d) ag hd aC;exact q x _ jD iZ qY ag
 obtain ⟨k,name,start,fp,off,near,least⟩:=d
 match k,aC with
 | 0,_=>
  (nofun; repeat (dsimp only [eD];nofun));refine dW true (fun Q a8=>?_) (fun _=>?_) (fun av=>nomatch av)
  .nofun;exact a8
  .nofun;exact fun x ao ag hd bX=>⟨x,ao,⟨0,name,start,fp,off,near,least⟩,rfl,rfl,aX,rfl,fin x ao ag hd⟩
 | 1,_=>
  (nofun; repeat (dsimp only [eD];nofun));refine dW false (fun Q a8=>?_) (fun av=>nomatch av) (fun _=>?_)
  .nofun;rw [decide_eq_false (by ac_nf)];exact a8
  .nofun;refine dW true (fun Q a8=>?_) (fun _=>?_) (fun av=>nomatch av)
   .nofun;exact a8
   .nofun;exact fun x ao ag hd bX=>⟨x,ao,⟨1,name,start,fp,off,near,least⟩,rfl,rfl,aX,rfl,fin x ao ag hd⟩
 | 2,_=>
  (nofun; repeat (dsimp only [eD];nofun));refine dW false (fun Q a8=>?_) (fun av=>nomatch av) (fun _=>?_)
  .nofun;rw [decide_eq_false (by ac_nf)];exact a8
  .nofun;refine dW false (fun Q a8=>?_) (fun av=>nomatch av) (fun _=>?_)
   .nofun;rw [decide_eq_false (by ac_nf)];exact a8
   .nofun;exact fun x ao ag hd bX=>⟨x,ao,⟨2,name,start,fp,off,near,least⟩,rfl,rfl,aX,rfl,fin x ao ag hd⟩
theorem abV:cu P base T 6 t.BV t.BD AZ (Nk t):=by
 refine cy (ut T) fun qo=>cy (yP T) fun m5=>cy (Og T) fun IC=>cy (aaS T) fun ahC=>cy (ZU T) fun ah7=>cy (amf T) fun ame=>?_;exists T.Jj.ok qd,9
 obtain ⟨q,row,n,wl,ds,d,rfl,R,hd,aY,fw,fj,I3,bN,kD⟩:=h;refine ⟨_,(aW (b5 (i:=3) qd.aG (eX (U 0) T.fV T.vA qo ak T.w5 .nil cx (ai (ha (ai cX (ai cX (ai cX aE)))) aE)))
   (aW (b5 (i:=4) qd.aG (cn ahC ak T.acT T.D8.bH T.ahB (ai (U 0) (ai (U 2) aE))))
   (aW (b5 (i:=5) qd.aG (eX (U 0) T.fV T.qu m5 ak T.q0 .nil cx (ai aR (ai (bF l_ (U 1) aR) aE))))
   (aW (b5 (i:=6) qd.aG (cn ah7 ak T.amn T.Kp.bH T.adv (ai (U 0) (ai (U 1) (ai (U 5) aE)))))
   (aW (b5 (i:=7) qd.aG (eX (U 0) T.fV T.qu m5 ak T.q0 .nil cx (ai aR (ai (lQ rfl T.adq T.adR) aE))))
   (aW (b5 (i:=8) qd.aG (eX (U 0) T.fV T.qu m5 ak T.q0 .nil cx (ai aR (ai (lQ rfl T.als T.akl) aE))))
   (aW (b5 (i:=9) qd.aG (eX (U 0) T.fV T.qu m5 ak T.q0 .nil cx (ai aR (ai (lQ rfl T.XE T.ac2) aE))))
   (aW (dS (gc (U 0) T.fV T.R0 IC ak T.QB .nil cx))
   (a6 (cg (cn ame ak T.YS T.Ei.bH T.Xy (ai (U 3) (ai (U 4) (ai (U 5) (ai (U 6) (ai (U 7) (ai (U 8) (ai (U 9) aE)))))))))))))))))),?_⟩
 have gY:=hd.st;have e9:=hd.fp;have lY:=hd.of;have wm:=hd.KL;have agA:=hd.le;obtain ⟨_,ao,a7,aq,aD⟩:=id R;nofun;refine ⟨_,_,aq,c8.no _ _ _ (by ac_nf),by decide,fun p ar=>?_⟩;have s0:aS H (upd H p (.lst [V.str (ae "car"),V.str (ae "foot"),V.str (ae "tram")])):=bq ar;have gR:eD d.k ∈ [ae "car",ae "foot",ae "tram"]:=by
  have:=hd.k
  match d.k,this with
  | 0,_=>simp [eD]
  | 1,_=>simp [eD]
  | 2,_=>simp [eD]
 refine ⟨q,row,_,0,eD d.k,p,[ae "car",ae "foot",ae "tram"],rfl,R.same s0,rfl,aB.of aX,gR,fun H1 s1 b9 jW=>?_⟩;have b3:ad q H H1:=(ad.of s0).trans s1;have jD:=b9 bN.upd;nofun;refine ⟨q,row,_,1,wl,ds,d.name,rfl,jW,rfl,hd.nm,fw.wK b3 R,fj,I3,jD,fun aw s2 iZ eQ=>?_⟩;obtain ⟨_,vI,Ic,f2,g2⟩:=id eQ;have fb:=b3.trans s2;nofun;refine ⟨_,_,f2,c8.no _ _ _ (by ac_nf),⟨q,row,_,2,num d.start,0,n - 1,d.start,rfl,eQ,rfl,Tm (by omega) (by omega) (by omega) (by omega),iZ,fun bw s3 dA l2=>?_⟩⟩;have gq:=fb.trans s3;have qY:=dA iZ;nofun;refine ⟨q,row,_,3,n,d.start,d.fin,rfl,l2,rfl,gY,e9,hd.ne,aY.2,qY,fun cS s4 C9 mE=>?_⟩;obtain ⟨_,BG,aov,f4,uM⟩:=id mE;have dB:=gq.trans s4;nofun;refine ⟨_,_,f4,c8.no _ _ _ (by ac_nf),⟨q,row,_,4,num d.off,0,30,d.off,rfl,mE,rfl,Tm (by omega) (by omega) (by omega) (by omega),C9,fun d1 s5 jC qq=>?_⟩⟩;obtain ⟨_,Uw,aoO,eW,UK⟩:=id qq;have eK:=dB.trans s5;have DE:=jC C9;nofun;refine ⟨_,_,eW,c8.no _ _ _ (by ac_nf),⟨q,row,_,5,num d.near,0,30,d.near,rfl,qq,rfl,Tm (by omega) (by omega) (by omega) (by omega),DE,fun fL h2 kk A4=>?_⟩⟩;obtain ⟨_,ae7,aoA,nk,O4⟩:=id A4;have eL:=eK.trans h2;have Cj:=kk DE;nofun;refine ⟨_,_,nk,c8.no _ _ _ (by ac_nf),⟨q,row,_,6,num d.least,1,60,d.least,rfl,A4,rfl,Tm (by omega) (by omega) (by omega) (by omega),Cj,fun g9 mP lL P6=>?_⟩⟩;obtain ⟨_,adt,aoT,lh,HQ⟩:=id P6;have d2:=eL.trans mP;have GB:=lL Cj;nofun;refine ⟨_,_,lh,c8.no _ _ _ (by ac_nf),⟨q,row,_,7,rfl,P6,rfl,?_⟩⟩;nofun;refine ⟨d,rfl,hd.k,fun x fM kG ry D5 BP=>?_⟩;refine kD x fM (d2.trans (ad.of kG)) (ry GB) D5 ?_;cases jB:H x with
 | none=>rfl
 | some u=>
  by_cases WA:x=q
  .subst WA;rw [lh] at BP;cases BP
  .rw [d2 x u WA jB] at BP;cases BP
noncomputable abbrev t6:List Str:=[ae "places",ae "ways",ae "numbers"]
noncomputable def ov (n:Int) (wl aG:Addr):List (Str × V):=[(ae "places",.int n),(ae "ways",.ref wl),(ae "numbers",.ref aG)]
theorem C1 (n:Int) (wl aG:Addr):(ov n wl aG).map (·.1)=t6:=rfl
noncomputable def nm (ds:List bj) (i:Nat):Str:=((ds[i]?).map (·.name)).getD (ae "")
noncomputable def jX (ds:List bj) (i:Nat):List (Key × V):=(fF i).map fun j=>(bT (nm ds j),V.int j)
theorem kL (h:ds[i]? = some d):nm ds i=d.name:=by unfold nm;rw [h];rfl
theorem ve (h:(ds.map (·.name)).Nodup) (ah:i < ds.length) (aM:j < ds.length) (e:nm ds i=nm ds j):i=j:=by
 rw [kL (bc ah),kL (bc aM)] at e;have:=(J' (xs:=ds.map (·.name)) (i:=i) (j:=j) (h₀:=by rw [a0];exact ah) (h₁:=by rw [a0];exact aM) h).mp (by rw [vQ,vQ];exact e);exact this
theorem Vi (h:(ds.map (·.name)).Nodup):∀ {n:Nat},i < n->n <= ds.length->cY (jX ds n) (bT (nm ds i))=some (.int i):=by
 intro n
 induction n with
 | zero=>intro ah _;omega
 | succ n b'=>
  intro ah aY;unfold jX cY;rw [xm,fS,List.find?_append];by_cases c:i < n
  .have:=b' c (by omega);unfold jX cY at this;cases e:ahW (fun cD=>decide (cD.fst=bT (nm ds i))) (qh (fun j=>((bT (nm ds j):Key),V.int j)) (fF n)) with
   | none=>rw [e] at this;cases this
   | some p=>rw [e] at this;exact this
  .have e:i=n:=by omega
   subst e;have no:ahW (fun cD=>decide (cD.fst=bT (nm ds i))) (qh (fun j=>((bT (nm ds j):Key),V.int j)) (fF i))=none:=by
    rw [Sr];intro p ar;obtain ⟨j,aM,rfl⟩:=b1.mp ar;have fN:=n_.mp aM;simp only [decide_eq_true_eq];intro z;have:=ve h (by omega) (by omega) (n2 z);omega
   rw [no];simp
theorem ak2 {x:Str} (h:∀ d ∈ ds,d.name ≠ x):∀ {n:Nat},n <= ds.length->cY (jX ds n) (bT x)=none:=by
 intro n aY;unfold cY jX;rw [Sr.mpr]
 .rfl
 intro p ar;obtain ⟨j,aM,rfl⟩:=b1.mp ar;have fN:=n_.mp aM;simp only [decide_eq_true_eq];intro z;have lG:j < ds.length:=by omega
 have e:=n2 z;rw [kL (bc lG)] at e;exact h _ (jq lG) e
theorem ak' (h:(ds.map (·.name)).Nodup) (aY:n < ds.length):eb (jX ds n) (bT (nm ds n)) (.int n)=jX ds (n + 1):=by
 unfold eb;have no:((jX ds n).any fun cD=>decide (cD.1=bT (nm ds n)))=false:=by
  rw [J0];intro p ar;obtain ⟨j,aM,rfl⟩:=b1.mp ar;have fN:=n_.mp aM;simp only [decide_eq_true_eq];intro z;have:=ve h (by omega) aY (n2 z);omega
 rw [no];unfold jX;rw [xm,fS];rfl
theorem vZ (a:aS H H1) (b:ad q H1 aw) (n:H q=none):aS H aw:=fun c u e=>b c u (dj e n) (a c u e)
theorem Fo {t:bM} {p q:Addr} {k l:Nat} (a:c8 t H p i ws k) (b:c8 t H q j vs l) (n:i ≠ j):p ≠ q:=fun z=>by
 subst z;obtain ⟨_,ao,a7,aq,_⟩:=a;obtain ⟨_,hk,ahs,aD,_⟩:=b;rw [aq] at aD;have bL:=dU aD;injection bL with _ _ ek;unfold mw at ek;injection ek with fG _;injection fG with _ es;injection es with gw;exact n gw
theorem OZ {t:bM} {p q:Addr} (a:eB t H p d) (b:c8 t H q j vs l):p ≠ q:=fun z=>by
 subst z;obtain ⟨_,ao,aq⟩:=a;obtain ⟨_,hk,ahs,aD,_⟩:=b;rw [aq] at aD;have bL:=dU aD;injection bL with _ _ ek;exact absurd (congrArg qH ek) (by show ¬ (7:Nat)=3;decide)
def fh (t:bM) (H:au) (c:Addr) (n:Int) (ds:List bj):Prop:=
 ((ds.map (·.name)).Nodup/\ds.length <= 12)/\∃ ao wl aG,H c=some (.ins t.hz ao (ov n wl aG))/\nI t H wl ds/\H aG=some (.bx (jX ds ds.length))
theorem fh.same {t:bM} (h:fh t H c n ds) (s:aS H I):fh t I c n ds:=by
 obtain ⟨h0,ao,wl,aG,aq,aD,bL⟩:=h;exact ⟨h0,ao,wl,aG,s _ _ aq,aD.same s,s _ _ bL⟩
theorem jk (n:Int) (wl aG:Addr) (h:t6.contains m=false):(ov n wl aG).lookup m=none:=xO t6 (C1 ..) h
section
variable {w:World} {K:a_} {mg:Str->Option Value} {t:bM} {H:au} {c ao wl aG:Addr} {n:Int}
theorem aja (T:Txt w K mg t) (e:H c=some (.ins t.hz ao (ov n wl aG))):fQ K H c (ae "places") (.int n):=⟨_,ao,_,e,T.hq,T.M8,gr t6 0 (C1 ..) (by ac_nf) rfl⟩
theorem E9 (T:Txt w K mg t) (e:H c=some (.ins t.hz ao (ov n wl aG))):fQ K H c (ae "ways") (.ref wl):=⟨_,ao,_,e,T.hq,T.Tl,gr t6 1 (C1 ..) (by ac_nf) rfl⟩
theorem u0 (T:Txt w K mg t) (e:H c=some (.ins t.hz ao (ov n wl aG))):fQ K H c (ae "numbers") (.ref aG):=⟨_,ao,_,e,T.hq,T.OR,gr t6 2 (C1 ..) (by ac_nf) rfl⟩
end
def VW (t:bM):bP:=fun vs H Q _=>∃ c ao n wl ds,vs=[.ref c,.int n,.ref wl]/\H c=some (.ins t.hz ao [])/\nI t H wl ds/\(ds.map (·.name)).Nodup/\ds.length <= 12/\aP H /\
 ∀ I,ad c H I->aP I->fh t I c n ds->Q .bO I
def NB (t:bM):bP:=fun vs H Q _=>∃ n ds,vs=[.str (pb n ds)]/\rZ n ds/\aP H/\∀ c I,aS H I->aP I->fh t I c n ds->Q (.ref c) I
def Uu (t:bM):bP:=fun vs H Q _=>∃ c n ds,vs=[.ref c]/\fh t H c n ds/\∀ p,H p=none->Q (.ref p) (upd H p (.lst (aL (ds.map (·.name)))))
def W5 (t:bM):bP:=fun vs H Q _=>∃ c n ds,∃ i:Nat,∃ d,vs=[.ref c,.str d.name]/\fh t H c n ds/\ds[i]? = some d/\Q (.int (i:Nat)) H
def QG (t:bM):bP:=fun vs H Q _=>∃ c n ds,∃ i:Nat,∃ d,vs=[.ref c,.str d.name]/\fh t H c n ds/\ds[i]? = some d/\∀ a,eB t H a d->Q (.ref a) H
theorem ada:cu P base T 1 t.vk t.DO B3 (VW t):=by
 exists T.Wa.ok J1,9
 obtain ⟨c,ao,n,wl,ds,rfl,av,fw,e7,fj,bN,q⟩:=h;have br:=hh ak;refine ⟨_,(aW (e6 (U 0) (U 1) rfl)
   (aW (e6 (U 0) (U 2) rfl)
   (aW (e6 (U 0) vM rfl)
   (a6 (fU gi rfl (CZ rfl T.AP (ai (U 2) aE)) (lC (K:=K) (n:=2) rfl rfl (ft (Db (i:=3) J1.aG) (ft (Db (i:=4) J1.aG) lS))) (a6 (p0 br (bB (U 0) rfl) (bB (U 4) rfl) (U 3) rfl))))))),?_⟩
 nofun;refine ⟨_,_,_,av,T.hq,T.M8,by decide,?_⟩;refine ⟨_,_,_,aX,T.hq,T.Tl,g7 (n:=999) (by decide),fun aG aY=>?_⟩;simp only [No] at aY ⊢;rw [show c2 (ae "places") (V.int n) ([]:List (Str × V))=[(ae "places",V.int n)] from rfl,show c2 (ae "ways") (V.ref wl) [(ae "places",V.int n)]=[(ae "places",V.int n),(ae "ways",V.ref wl)] from gh [ae "places"] rfl (by ac_nf)] at aY ⊢;have AI:c ≠ aG:=fun z=>by subst z;rw [aX] at aY;cases aY
 refine ⟨t.hz,ao,[(ae "places",V.int n),(ae "ways",V.ref wl)],by rw [aH AI];exact aX,T.hq,T.OR,show (2:Nat) < 1000 by decide,?_⟩;rw [show c2 (ae "numbers") (V.ref aG) [(ae "places",V.int n),(ae "ways",V.ref wl)]=ov n wl aG from gh [ae "places",ae "ways"] rfl (by ac_nf)];obtain ⟨as,c9,dH,al⟩:=fw;have QX:H aG=none:=by rw [aH (dg AI)] at aY;exact aY
 have jR:ad c H (upd (upd (upd H c (.ins t.hz ao [(ae "places",V.int n),(ae "ways",V.ref wl)])) aG (.bx [])) c (.ins t.hz ao (ov n wl aG))):=fun b u ab e=>by
  rw [aH ab,aH (dj e QX),aH ab];exact e
 have H3:wl ≠ c:=b0 c9 av (by intro z;cases z);refine ⟨⟨_,aB.of (jR _ _ H3 c9)⟩,?_⟩;refine d3.enum (xs:=as.map V.ref) (fun i σ I=>(∃ x y,σ=[some (V.ref c),some (V.int n),some (V.ref wl),x,y])/\I c=some (.ins t.hz ao (ov n wl aG))/\I aG=some (.bx (jX ds i))/\ad c H I/\aP I) ?_ ?_ ?_ ?_
 .exact ⟨⟨_,_,rfl⟩,aX,by rw [aH (dg AI),aX];rfl,jR,((bN.upd).upd).upd⟩
 .rintro i σ I ah bl;ac_rfl
  obtain ⟨_,_,_,p4,_⟩:=bl;subst ba;exact aB.of (p4 _ _ H3 c9)
 .rintro i v σ I p aF ⟨⟨x,y,rfl⟩,af,aj,p4,nf⟩ ar;obtain ⟨a,aO,rfl⟩:=cf aF;obtain ⟨ah,_⟩:=cv.mp aO;have lA:i < ds.length:=by omega
  have hd:ds[i]? = some ds[i]:=bc lA;have i_:eB t H a ds[i]:=al i a _ aO hd;have G0:a ≠ c:=by
   obtain ⟨_,hk,e⟩:=i_;intro z;subst z;rw [av] at e;have aD:=dU e;injection aD with _ _ bL;exact absurd (congrArg qH bL) (by show ¬ (0:Nat)=7;decide)
  have acS:eB t I a ds[i]:=⟨i_.1,i_.2.imp fun hk e=>p4 _ _ G0 e⟩;have sp:aS I (upd I p (.tup [.int i,.ref a])):=bq ar;refine Dq ?_;nofun;refine ⟨_,u0 T (sp _ _ af),_,(acS.same sp).Gi T,_,rfl,_,kf.k (k:=bT ds[i].name) (sp _ _ aj) (gQ (show (jX ds i).length <= 12 by unfold jX;rw [a0,tC];omega) (by decide)),?_⟩;rw [<- kL hd,ak' e7 lA];refine ⟨⟨_,rfl⟩,?_,aX,fun b u ab e=>?_,(nf.upd).upd⟩
  .rw [aH AI];exact sp _ _ af
  .rw [aH (dj e QX)];exact sp _ _ (p4 b u ab e)
 .rintro σ I bl;ac_rfl
  obtain ⟨⟨x,y,rfl⟩,af,aj,p4,nf⟩:=bl;subst ba;nofun;rw [a0,dH] at aj;refine q I p4 nf ⟨⟨e7,fj⟩,ao,wl,aG,af,⟨as,p4 _ _ H3 c9,dH,fun i a d a' c7=>?_⟩,aj⟩;have i_:=al i a d a' c7;have G0:a ≠ c:=by
   obtain ⟨_,hk,e⟩:=i_;intro z;subst z;rw [av] at e;have aD:=dU e;injection aD with _ _ bL;exact absurd (congrArg qH bL) (by show ¬ (0:Nat)=7;decide)
  exact ⟨i_.1,i_.2.imp fun hk e=>p4 _ _ G0 e⟩
theorem adP:cu P base T 1 t.sZ t.yA gL (W5 t):=by
 exists T.IT.ok WK,9
 obtain ⟨c,n,ds,i,d,rfl,⟨⟨e7,fj⟩,ao,wl,aG,aq,aD,bL⟩,hd,q⟩:=h;have br:=hh ak;have aF:cY (jX ds ds.length) (bT d.name)=some (.int i):=by
  rw [<- kL hd];exact Vi e7 (cv.mp hd).1 (bW _)
 have a5:fT H aG (.str d.name) (some (.int i)):=by rw [<- aF];exact fT.k (k:=bT d.name) bL
 refine ⟨_,(aW (dK (yC (Fg br (U 1) (bB (U 0) rfl))) (a6 n1) eu)
   (a6 (cg (ny br (bB (U 0) rfl) (U 1) (fun _ _=>rfl))))),?_⟩
 nofun;refine dW false (fun Q a8=>?_) (fun av=>nomatch av) (fun _=>?_)
 .nofun;refine ⟨_,u0 T aq,_,rfl,_,a5,?_⟩;exact a8
 .nofun;exact ⟨_,u0 T aq,_,rfl,_,a5,q⟩
theorem sv:cu P base T 2 t.r4 t.tm gL (QG t):=by
 refine cy (adP T) fun acZ=>?_;exists T.E8.ok R5,9
 obtain ⟨c,n,ds,i,d,rfl,C,hd,q⟩:=h;obtain ⟨⟨e7,fj⟩,ao,wl,aG,aq,⟨as,c9,dH,al⟩,bL⟩:=id C;refine ⟨_,(a6 (cg (cq lc (bB (U 0) rfl) (eX (U 0) T.hq T.RE acZ ak T.Pe .nil cx (ai (U 1) aE))))),?_⟩;nofun;refine ⟨_,E9 T aq,_,_,aq,jk _ _ _ (by ac_nf),⟨c,n,ds,i,d,rfl,C,hd,?_⟩⟩;have ah:i < as.length:=by rw [dH];exact (cv.mp hd).1
 have aO:as[i]? = some as[i]:=bc ah;nofun;refine ⟨_,aB.of c9,_,cB (show (as.map V.ref)[i]? = some (V.ref as[i]) by rw [da,aO];rfl),?_⟩;exact q as[i] (al i _ d aO hd)
theorem ZW:cu P base T 7 t.By t.A8 ["text"] (NB t):=by
 have Hg:b_ P w K mg base dr 6 t.w1 t.yj ["text"] (Ld t):=(RO T).mono (by decide);have Zh:b_ P w K mg base dr 6 t.zz t.Cl ["reader"] (Ry t):=(acV T).mono (by decide);have Zz:b_ P w K mg base dr 6 t.BV t.BD AZ (Nk t):=abV T;have ac':b_ P w K mg base dr 5 t.vk t.DO B3 (VW t):=(ada T).mono (by decide);exists T.JK.ok wF,9
 obtain ⟨n,ds,rfl,cj,bN,kD⟩:=h;refine ⟨_,(aW (b5 (i:=1) wF.aG (cn Hg ak T.SN T.zY.bH T.S8 (ai (U 0) aE)))
   (aW (b5 (i:=2) wF.aG (cn Zh ak T.adV T.KW.bH T.ak3 (ai (cq lc (U 1) aR) aE)))
   (aW (b5 (i:=3) wF.aG (ha aE))
   (aW (fU gi rfl (eA (sA Up (U 1) (rU aR) se)) (Db (i:=4) wF.aG) (aW (dK (c_ e5 (gD h4 rfl T.hR hW (ai (U 3) aE)) (lQ rfl T.KB T.aix) (cC _)) (a6 n1) eu)
   (a6 (dS (gm ie lE mK Re (U 3) (ai (cn Zz ak T.amk T.Jj.bH T.agU (ai (U 4) (ai (U 2) (ai (U 3) aE)))) aE))))))
   (aW (dK (tH (y' (U 3) (fun _=>rfl))) (a6 n1) eu)
   (a6 (cg (rX T.aae ac' ak rfl T.af' T.wv .nil cx (ai (U 2) (ai (U 3) aE)))))))))),?_⟩
 have uG:=af3 cj;have hlen:=afB cj;have So:=cj.nn;have afk:=cj.ln;nofun;refine ⟨pb n ds,rfl,by omega,?_,bN,fun p H1 uI jA R=>?_⟩
 .rw [uG];intro r ak;refine ⟨?_,fun x ag=>cP (cj.plain r ak x ag).1 (by decide)⟩;rcases fi.mp ak with rfl | ak
  .show (2:Nat) <= 1000;decide
  .obtain ⟨d,hd,rfl⟩:=b1.mp ak;show (7:Nat) <= 1000;decide
 rw [uG] at R;obtain ⟨qs,ar,hC,od,r'⟩:=R;have Nv:qs.length=ds.length + 1:=by rw [od];simp [h5]
 obtain ⟨oD,kK,rfl⟩:∃ oD kK,qs=oD :: kK:=by
  cases qs with
  | nil=>simp at Nv
  | cons a b=>exact ⟨a,b,rfl⟩
 obtain ⟨Cz,afP⟩:=r' 0 oD _ rfl rfl;nofun;refine ⟨_,aB.of ar,_,cB (j:=0) rfl,⟨oD,_,n,rfl,Cz,So,jA,fun aw s2 pU=>⟨fC _,fun wl gs=>?_⟩⟩⟩;obtain ⟨amW,anA,aoD,abR⟩:=Cz.ins;have aac:p ≠ oD:=b0 ar abR (by intro z;cases z);have gB:aw p=some (.lst ((oD :: kK).map V.ref)):=s2 _ _ aac ar;have Ge:aS aw (upd aw wl (.lst [])):=bq gs;have Ff:mm ((oD :: kK).map V.ref) (some 1) none=kK.map V.ref:=by
  unfold mm;simp [fZ.dc];exact Jy (by rw [a0];exact bW _)
 refine ⟨_,aB.of (Ge _ _ gB),fun pc J9=>?_⟩;rw [Ff];have iw:pc ≠ wl:=fun z=>by subst z;rw [aX] at J9;cases J9
 have Jp:aS (upd aw wl (.lst [])) (upd (upd aw wl (.lst [])) pc (.lst (kK.map V.ref))):=bq J9;refine ⟨⟨_,aB.of aX⟩,?_⟩;have Rm:aS H aw:=vZ uI s2 afP;have aaA:kK.length=ds.length:=by simpa using Nv
 refine d3.list (xs:=kK.map V.ref) (fun i σ I=>(∃ x,σ=[some (V.str (pb n ds)),some (V.ref p),some (V.int n),some (V.ref wl),x])/\aP I/\aS H I/\I pc=some (.lst (kK.map V.ref))/\H wl=none/\nI t I wl (ds.take i) /\
  ∀ (j:Nat) (q:Addr) (d:bj),i <= j->kK[j]? = some q->ds[j]? = some d->c8 t I q ((j + 1:Nat):Int) (m2 d) 0/\H q=none) ?_ ?_ ?_ ?_
 .refine ⟨⟨_,rfl⟩,(pU.upd).upd,(Rm.trans Ge).trans Jp,aX,Rm.free gs,⟨[],Jp _ _ aX,rfl,fun j a d h=>by simp at h⟩,fun j q d _ af aj=>?_⟩;have ak:(h5 n ds)[j + 1]? = some (m2 d):=by
   unfold h5;rw [x',da,aj];rfl
  obtain ⟨ow,eI⟩:=r' (j + 1) q _ (by rw [x'];exact af) ak;refine ⟨((ow.wK s2 (Fo ow Cz (by omega)) Cz.ins).same Ge).same Jp,eI⟩
 .rintro i σ I ah bl;ac_rfl
  obtain ⟨_,_,_,h,_⟩:=bl;subst ba;exact aB.of h
 .rintro i v σ I aF bl;ac_rfl
  obtain ⟨⟨x,rfl⟩,nf,pI,Kg,JG,W,Rs⟩:=bl;obtain ⟨q,aI,rfl⟩:=cf aF;obtain ⟨ah,_⟩:=cv.mp aI;have lA:i < ds.length:=by omega
  have hd:ds[i]? = some ds[i]:=bc lA;obtain ⟨nd,iU⟩:=Rs i q _ (bW _) aI hd;have kr:(ds.take i).length=i:=by rw [hE];omega
  obtain ⟨as,c9,dH,al⟩:=id W;subst ba;nofun;refine dW false (fun Q a8=>?_) (fun av=>nomatch av) (fun _=>?_)
  .nofun;refine ⟨_,.inl (aB.of c9),?_⟩;rw [a0,dH,kr];rw [decide_eq_false (by omega)] <;> exact a8
  .nofun;refine ⟨.inl ⟨_,aB.of c9⟩,?_⟩;refine ⟨q,_,n,wl,ds.take i,ds[i],rfl,nd,cj.al _ (jq lA),So,W,by omega,fun e he z=>?_,nf,fun y bw s3 Li hx RH=>?_⟩
   .obtain ⟨j,aM,rfl⟩:=Ga he;rw [List.getElem_take] at z;have fN:j < i:=by omega
    have:=ve cj.aG (i:=j) (j:=i) (by omega) lA (by rw [kL (bc (by omega)),kL hd];exact z);omega
   .nofun;obtain ⟨apa,AD,anj,gW⟩:=nd.ins;have ai2:wl ≠ q:=b0 c9 gW (by intro z;cases z);have JS:bw wl=some (.lst (as.map V.ref)):=s3 _ _ ai2 c9;have akH:aS H bw:=vZ pI s3 iU;refine ⟨_,JS,gQ (show (as.map V.ref).length <= 12 by rw [a0];omega) (by decide),?_⟩;have alX:y ≠ wl:=fun z=>by
     subst z;rw [c9] at RH;cases RH
    refine ⟨⟨_,rfl⟩,Li.upd,fun b u e=>?_,?_,JG,⟨as ++ [y],by rw [aX,fS];rfl,?_,fun j a d af aj=>?_⟩,fun j cW d aM af aj=>?_⟩
    .rw [aH (dj e JG)];exact akH _ _ e
    .rw [aH iw];exact s3 _ _ (b0 Kg gW (by intro z;cases z)) Kg
    .rw [ec,dH,kr,hE];show i + 1=_;omega
    .by_cases aM:j < as.length
     .rw [tP aM] at af;have ajp:(ds.take i)[j]? = some d:=by
       rw [uS (by omega)];rw [uS (by omega)] at aj;exact aj
      obtain ⟨aC,hk,e⟩:=al j a d af ajp;have agv:a ≠ q:=OZ ⟨aC,hk,e⟩ nd;have afp:a ≠ wl:=b0 e c9 (by intro z;cases z);exact ⟨aC,hk,by rw [aH afp];exact s3 _ _ agv e⟩
     .rw [sf (by omega)] at af;have o':j - as.length=0:=by
       cases de:j - as.length with
       | zero=>rfl
       | succ m=>rw [de] at af;simp at af
      rw [o'] at af;have bL:y=a:=by simpa using af
      subst bL;have ek:j=i:=by omega
      subst ek;rw [uS (by omega),hd] at aj;cases aj;exact ⟨hx.1,hx.2.imp fun hk e=>by rw [aH alX];exact e⟩
    .obtain ⟨ow,eI⟩:=Rs j cW d (by omega) af aj;have l2:=ow.wK s3 (Fo ow nd (by omega)) nd.ins;refine ⟨?_,eI⟩;obtain ⟨aJ,hk,a7,aq,aD⟩:=l2;refine ⟨aJ,hk,a7,by rw [aH (b0 aq JS (by intro z;cases z))];exact aq,?_⟩;rw [aH (fun z=>by
      subst z;rw [JS] at aD;have fG:=dU aD;injection fG with es;cases as with
      | nil=>exact absurd (congrArg qH es) (by show ¬ (0:Nat)=7;decide)
      | cons a r=>injection es with gw _;cases gw)]
     exact aD
 .rintro σ I bl;ac_rfl
  obtain ⟨⟨x,rfl⟩,nf,pI,Kg,JG,W,Rs⟩:=bl;subst ba;rw [a0,aaA,ig] at W;obtain ⟨as,c9,dH,al⟩:=id W;nofun;refine dW false (fun Q a8=>?_) (fun av=>nomatch av) (fun _=>?_)
  .nofun;refine ⟨true,.inl ⟨_,aB.of c9,?_⟩,a8⟩;cases as with
   | nil=>simp at dH;omega
   | cons a r=>rfl
  .nofun;intro c ao av xp bX;have sc:aS I (upd (upd I ao (.own c)) c (.ins t.hz ao [])):=((aS.refl I).fY xp).fY av;refine ⟨c,ao,n,wl,ds,rfl,aX,W.same sc,cj.aG,afk.2,(nf.upd).upd,fun d1 s5 GU El=>⟨rfl,?_⟩⟩;exact kD c d1 (vZ (pI.trans sc) s5 (pI.free av)) GU El
theorem wu:cu P base T 1 t.xn t.Dm ["self"] (Uu t):=by
 exists T.WJ.ok afV,9
 obtain ⟨c,n,ds,rfl,⟨⟨e7,fj⟩,ao,wl,aG,aq,⟨as,c9,dH,al⟩,bL⟩,q⟩:=h;refine ⟨_,(a6 (cg (hl rfl (eA (bB (U 0) rfl)) (gz (sc:=bz D7) rfl (by ac_nf)) (N:=["way"]) (sel:=[none]) (gA (M:=["self"]) (by ac_nf)) (fA.of (fun _ _ _ _=>(Db (i:=0) (er (N:=["way"]) (by ac_nf) rfl))) (fun _ _ _ _=>⟨_,ix,by walk_at "B"⟩) (fun _ _ _ _=>⟨_,(bB (U 0) rfl),by walk_at "B"⟩))))),?_⟩;nofun;refine ⟨_,E9 T aq,_,rfl,⟨_,aB.of c9⟩,?_⟩;refine c6.lR (xs:=as.map V.ref) (zs:=aL (ds.map (·.name))) (aB.of c9) (by rw [a0,dH];exact cP fj (by decide)) (by rw [eF,a0,a0,dH]) (fun i v z N aF gk bf=>?_) (fun p ar=>q p ar);obtain ⟨a,aO,rfl⟩:=cf aF;obtain ⟨x,ag,rfl⟩:=cf gk;obtain ⟨d,hd,rfl⟩:=cf ag;nofun;exact ⟨Sub.name,_,(al i a d aO hd).Gi T,bf⟩
theorem CJ {n s p:Int} (h0:0 <= s) (af:s < n) (aj:0 <= p) (a':p < n):(p - s) % n=if s <= p then p - s else p - s + n:=by
 split
 .rename_i h;exact GI (by omega) (by omega)
 .rename_i h;have e:(p - s) % n=(p - s + n) % n:=(Int.add_emod_right ..).symm;rw [e];exact GI (by omega) (by omega)
noncomputable def kj (n s f p:Int):Bool:=decide (0 < (p - s) % n) && decide ((p - s) % n < (f - s) % n)
noncomputable def rq (n s f s2 f2:Int):Bool:=decide (f=f2) || (if (s2=s\/s2=f)\/(f2=s\/f2=f) then false else (kj n s f s2 != kj n s f f2))
theorem Bi {s f p:Int} (af:p ≠ s) (aj:p ≠ f) (a':s ≠ f):((decide (s < f) && decide (f < p) && !decide (s < p)) || (!decide (s < f) && !decide (f < p) && decide (s < p)))=false:=by
 by_cases a:s < f <;> by_cases b:f < p
 .rw [decide_eq_true a,decide_eq_true b,decide_eq_true (show s < p by omega)];rfl
 .rw [decide_eq_true a,decide_eq_false b];rfl
 .rw [decide_eq_false a,decide_eq_true b];rfl
 .rw [decide_eq_false a,decide_eq_false b,decide_eq_false (show ¬ s < p by omega)];rfl
theorem tn {s p:Int} (h:s ≠ p):decide (p < s) = !decide (s < p):=by
 by_cases a:s < p
 .rw [decide_eq_true a,decide_eq_false (by omega)];rfl
 .rw [decide_eq_false a,decide_eq_true (by omega)];rfl
theorem Ci {n s f p:Int} (ay:0 <= s/\s < n) (hf:0 <= f/\f < n) (ar:0 <= p/\p < n) (af:p ≠ s) (aj:p ≠ f) (a':s ≠ f):kj n s f p=((decide (s < p) && decide (p < f)) || (decide (p < f) && decide (f < s)) || (decide (f < s) && decide (s < p))):=by
 unfold kj;rw [CJ ay.1 ay.2 ar.1 ar.2,CJ ay.1 ay.2 hf.1 hf.2,decide_eq_true (show 0 < (if s <= p then p - s else p - s + n) by split <;> omega),lK,tn a'];by_cases a:s < p <;> by_cases b:s < f
 .rw [if_pos (by omega),if_pos (by omega),decide_eq_true a,decide_eq_true b,show decide (p - s < f - s)=decide (p < f) from decide_eq_decide.mpr (by omega)];cases decide (p < f) <;> rfl
 .rw [if_pos (by omega),if_neg (by omega),decide_eq_true a,decide_eq_false b,decide_eq_true (show p - s < f - s + n by omega)];cases decide (p < f) <;> rfl
 .rw [if_neg (by omega),if_pos (by omega),decide_eq_false a,decide_eq_true b,decide_eq_false (show ¬ p - s + n < f - s by omega)];cases decide (p < f) <;> rfl
 .rw [if_neg (by omega),if_neg (by omega),decide_eq_false a,decide_eq_false b,show decide (p - s + n < f - s + n)=decide (p < f) from decide_eq_decide.mpr (by omega)];cases decide (p < f) <;> rfl
theorem ako:∀ a b c d e g:Bool,((a && d && !b) || (!a && !d && b))=false->((a && e && !c) || (!a && !e && c))=false->((b && g && !c) || (!b && !g && c))=false->((d && g && !e) || (!d && !g && e))=false ->
  (((b && !d) || (!d && !a) || (!a && b)) != ((c && !e) || (!e && !a) || (!a && c)))=(((!b && c) || (c && !g) || (!g && !b)) != ((!d && e) || (e && !g) || (!g && !d))):=by ac_nf
theorem alR (ay:0 <= s/\s < n) (hf:0 <= f/\f < n) (jh:0 <= s2/\s2 < n) (D3:0 <= f2/\f2 < n) (bX:s ≠ f) (vX:s2 ≠ f2):rq n s f s2 f2=rq n s2 f2 s f:=by
 unfold rq;by_cases e:f=f2
 .rw [decide_eq_true e,decide_eq_true e.symm];rfl
 .rw [decide_eq_false e,decide_eq_false (dg e)];by_cases c:(s2=s\/s2=f)\/(f2=s\/f2=f)
  .have c':(s=s2\/s=f2)\/(f=s2\/f=f2):=by omega
   rw [if_pos c,if_pos c']
  .have c':¬ ((s=s2\/s=f2)\/(f=s2\/f=f2)):=by omega
   rw [if_neg c,if_neg c'];have b9:s2 ≠ s:=by omega
   have cI:s2 ≠ f:=by omega
   have dA:f2 ≠ s:=by omega
   have d5:f2 ≠ f:=by omega
   rw [lN,lN,Ci ay hf jh b9 cI bX,Ci ay hf D3 dA d5 bX,Ci jh D3 ay b9.symm dA.symm vX,Ci jh D3 hf cI.symm d5.symm vX,tn b9.symm,tn cI.symm,tn d5.symm,tn bX,tn vX];exact ako _ _ _ _ _ _ (Bi b9 cI bX) (Bi dA d5 bX) (Bi dA vX.symm b9.symm) (Bi d5 vX.symm cI.symm)
noncomputable abbrev mt (n:Int) (d e:bj):Bool:=rq n d.start d.fin e.start e.fin
def NQ (t:bM):bP:=fun vs H Q _=>∃ a d n p,vs=[.int n,.ref a,.int p]/\eB t H a d/\0 < n/\Q (.bo (kj n d.start d.fin p)) H
noncomputable def yf (n:Int) (d e:bj):Bool:=if (e.start=d.start\/e.start=d.fin)\/(e.fin=d.start\/e.fin=d.fin) then false else (kj n d.start d.fin e.start != kj n d.start d.fin e.fin)
def aeq (t:bM):bP:=fun vs H Q _=>∃ a b d e n,vs=[.int n,.ref a,.ref b]/\eB t H a d/\eB t H b e/\0 < n/\aP H/\Q (.bo (yf n d e)) H
def aco (t:bM):bP:=fun vs H Q _=>∃ a b d e n,vs=[.int n,.ref a,.ref b]/\eB t H a d/\eB t H b e/\0 < n/\∀ I,aS H I->Q (.bo (yf n d e)) I
def QK (t:bM):bP:=fun vs H Q _=>∃ c n ds,∃ i j:Nat,∃ d e,vs=[.ref c,.str d.name,.str e.name]/\fh t H c n ds/\0 < n/\ds[i]? = some d/\ds[j]? = some e/\aP H/\Q (.bo (mt n d e)) H
theorem ahn:cu P base T 1 t.z5 t.B7 Aa (NQ t):=by
 exists T.C7.ok RC,9
 obtain ⟨a,d,n,p,rfl,W,aY,q⟩:=h;refine ⟨_,(aW (b5 (i:=3) RC.aG (bF jn (bF l_ (U 2) (bB (U 1) rfl)) (U 0)))
   (a6 (cg (xB (hO lu aR (U 3) (cC _)) (u7 (hO lu (U 3) (bF jn (bF l_ (bB (U 1) rfl) (bB (U 1) rfl)) (U 0)) (cC _))))))),?_⟩
 nofun;refine ⟨_,W.tv T,_,rfl,aY,?_⟩;unfold kj at q;by_cases c:0 < (p - d.start) % n
 .rw [if_pos (decide_eq_true c)];rw [decide_eq_true c,lK] at q;exact ⟨_,W.so T,_,W.tv T,_,rfl,_,rfl,aY,q⟩
 .rw [if_neg (by simpa using c)];rw [decide_eq_false c,mu] at q;exact q
theorem Pg (x a b:Int):tF (.int x) [.int a,.int b]=decide (x=a\/x=b):=by
 unfold tF;simp only [xC,List.any_nil,iW,OX];rw [j'];simp only [w3,beq_iff_eq,decide_eq_true_eq];omega
theorem Yx:cu P base T 2 t.JD t.HO Ck (aeq t):=by
 refine b_.forget (sp:=aco t) ?_ fun vs H Q E h=>?_
 .have TV:b_ P w K mg base dr 1 t.z5 t.B7 Aa (NQ t):=ahn T;exists T.H8.ok ad8,9
  obtain ⟨a,b,d,e,n,rfl,i_,pg,aY,q⟩:=h;refine ⟨_,(aW (dK (hH.pt (qw (c_ FY (bB (U 2) rfl) (ha (ai (bB (U 1) rfl) (ai (bB (U 1) rfl) aE))) (by with_unfolding_all rfl)) (tg (c_ FY (bB (U 2) rfl) (ha (ai (bB (U 1) rfl) (ai (bB (U 1) rfl) aE))) (by with_unfolding_all rfl))))) (a6 (cg am)) eu)
   (a6 (cg (hO qO (cn TV ak T.O6 T.C7.bH T.Ro (ai (U 0) (ai (U 1) (ai (bB (U 2) rfl) aE)))) (cn TV ak T.O6 T.C7.bH T.Ro (ai (U 0) (ai (U 1) (ai (bB (U 2) rfl) aE)))) (cC _))))),?_⟩
  nofun;refine tI (fun b I=>aS H I/\b=decide ((e.start=d.start\/e.start=d.fin)\/(e.fin=d.start\/e.fin=d.fin))) (fun Q a8=>?_) (fun I ⟨bR,ab⟩=>?_) (fun I ⟨bR,ab⟩=>?_)
  .nofun;refine ⟨_,pg.tv T,_,i_.tv T,_,i_.so T,by decide,fun p ar=>⟨_,.inl (aB.of aX),rfl,rfl,?_⟩⟩;have s1:aS H (upd H p (.lst [.int d.start,.int d.fin])):=bq ar;rw [Pg];by_cases cc:e.start=d.start\/e.start=d.fin
   .rw [if_pos (decide_eq_true cc)];exact a8 _ _ ⟨s1,(decide_eq_true (.inl cc)).symm⟩
   .rw [if_neg (by simpa using cc)];refine ⟨_,(pg.same s1).so T,_,(i_.same s1).tv T,_,(i_.same s1).so T,by decide,fun eY gB=>⟨_,.inl (aB.of aX),rfl,rfl,?_⟩⟩;rw [Pg];refine a8 _ _ ⟨s1.trans (bq gB),?_⟩;rw [j',decide_eq_true_eq,decide_eq_true_eq];exact ⟨.inr,fun z=>z.resolve_left cc⟩
  .nofun;have f5:=of_decide_eq_true ab.symm;have:=q I bR;unfold yf at this;rw [if_pos f5] at this;exact this
  .nofun;have f5:=of_decide_eq_false ab.symm;refine ⟨_,(pg.same bR).tv T,⟨a,d,n,_,rfl,i_.same bR,aY,?_⟩⟩;refine ⟨_,(pg.same bR).so T,⟨a,d,n,_,rfl,i_.same bR,aY,?_⟩⟩;refine ⟨rfl,?_⟩;have:=q I bR;unfold yf at this;rw [if_neg f5] at this;rw [show (!decide (V.bo (kj n d.start d.fin e.start)=V.bo (kj n d.start d.fin e.fin)))=(kj n d.start d.fin e.start != kj n d.start d.fin e.fin) by
    cases kj n d.start d.fin e.start <;> cases kj n d.start d.fin e.fin <;> rfl]
   exact this
 .obtain ⟨a,b,d,e,n,af,aj,a',c7,bN,q⟩:=h;exact ⟨bN,a,b,d,e,n,af,aj,a',c7,fun I bR=>⟨bR,q⟩⟩
theorem akh (n:Int) (d e:bj):mt n d e=(decide (d.fin=e.fin) || yf n d e):=rfl
theorem Qn:cu P base T 3 t.DM t.zV p_ (QK t):=by
 refine cy (sv T) fun jS=>cy (Yx T) fun Yd=>?_;exists T.yX.ok E3,9
 obtain ⟨c,n,ds,i,j,d,e,rfl,C,aY,hd,he,bN,q⟩:=h;obtain ⟨_,ao,wl,aG,aq,aD,bL⟩:=id C;refine ⟨_,(aW (b5 (i:=3) E3.aG (eX (U 0) T.hq T.mW jS ak T.mM .nil cx (ai (U 1) aE)))
   (aW (b5 (i:=4) E3.aG (eX (U 0) T.hq T.mW jS ak T.mM .nil cx (ai (U 2) aE)))
   (a6 (cg (Nn (hO e5 (bB (U 3) rfl) (bB (U 4) rfl) (cC _)) (u7 (cn Yd ak T.aeM T.H8.bH T.al8 (ai (bB (U 0) rfl) (ai (U 3) (ai (U 4) aE)))))))))),?_⟩
 rw [akh] at q;nofun;refine ⟨_,_,aq,jk _ _ _ (by ac_nf),⟨c,n,ds,i,d,rfl,C,hd,fun a i_=>?_⟩⟩;nofun;refine ⟨_,_,aq,jk _ _ _ (by ac_nf),⟨c,n,ds,j,e,rfl,C,he,fun b pg=>?_⟩⟩;nofun;refine ⟨_,i_.so T,_,pg.so T,rfl,?_⟩;nofun;by_cases cc:d.fin=e.fin
 .rw [if_pos (decide_eq_true cc)];rw [decide_eq_true cc,su] at q;exact q
 .rw [if_neg (by simpa using cc)];rw [decide_eq_false cc,lN] at q;exact ⟨_,aja T aq,⟨a,b,d,e,n,rfl,i_,pg,aY,bN,q⟩⟩
def P9 (t:bM):bP:=fun vs H Q _=>∃ c n ds,∃ i j:Nat,∃ d e,vs=[.ref c,.str d.name,.str e.name]/\fh t H c n ds/\ds[i]? = some d/\ds[j]? = some e/\Q (.int (if d.off - e.near > 0 then d.off - e.near else 0)) H
theorem af7:cu P base T 3 t.B5 t.CW p_ (P9 t):=by
 refine cy (sv T) fun jS=>?_;exists T.IN.ok Fc,9
 obtain ⟨c,n,ds,i,j,d,e,rfl,C,hd,he,q⟩:=h;obtain ⟨_,ao,wl,aG,aq,aD,bL⟩:=id C;refine ⟨_,(aW (b5 (i:=3) Fc.aG (eX (U 0) T.hq T.mW jS ak T.mM .nil cx (ai (U 1) aE)))
   (aW (b5 (i:=4) Fc.aG (eX (U 0) T.hq T.mW jS ak T.mM .nil cx (ai (U 2) aE)))
   (a6 (cg (gD (Y6 rfl) rfl T.Mc Lu (ai aR (ai (bF l_ (bB (U 3) rfl) (bB (U 4) rfl)) aE))))))),?_⟩
 nofun;refine ⟨_,_,aq,jk _ _ _ (by ac_nf),⟨c,n,ds,i,d,rfl,C,hd,fun a i_=>?_⟩⟩;nofun;refine ⟨_,_,aq,jk _ _ _ (by ac_nf),⟨c,n,ds,j,e,rfl,C,he,fun b pg=>?_⟩⟩;nofun;refine ⟨_,i_.Wz T,_,pg.afr T,?_⟩;nofun;exact q
theorem j_ {α:Type} {xs:List α} {i:Nat} {x:α} (h:xs[i]? = some x):xs.take (i + 1)=xs.take i ++ [x]:=by
 rw [pz,h];rfl
structure ST where
 lo:Int
 ah:Int
 mem:List Str
noncomputable def LB (r:ST) (m:Addr):e2:=.tup [.int r.lo,.int r.ah,.ref m]
structure iG (H:au) (p:Addr) (qs ms:List Addr) (rows:List ST):Prop where
 at_:H p=some (.lst (qs.map V.ref))
 cw:qs.length=rows.length
 cN:ms.length=rows.length
 al:∀ (i:Nat) (q m:Addr) (r:ST),qs[i]? = some q->ms[i]? = some m->rows[i]? = some r->H q=some (LB r m)/\H m=some (.lst (aL r.mem))
theorem iG.same {p:Addr} {rows:List ST} (h:iG H p qs ms rows) (s:aS H I):iG I p qs ms rows:=
 ⟨s _ _ h.at_,h.cw,h.cN,fun i q m r a b c=>⟨s _ _ (h.al i q m r a b c).1,s _ _ (h.al i q m r a b c).2⟩⟩
structure lH (H:au) (p:Addr) (ms:List Addr) (di:List (List Str)):Prop where
 at_:H p=some (.lst (ms.map V.ref))
 ln:ms.length=di.length
 al:∀ (i:Nat) (m:Addr) (x:List Str),ms[i]? = some m->di[i]? = some x->H m=some (.lst (aL x))
theorem lH.same {p:Addr} (h:lH H p ms di) (s:aS H I):lH I p ms di:=
 ⟨s _ _ h.at_,h.ln,fun i m x a b=>s _ _ (h.al i m x a b)⟩
noncomputable def mJ (i:Nat) (kvs:List (Key × V)) (ms:List Str):List (Key × V):=ms.foldl (fun kvs x=>eb kvs (bT x) (.int i)) kvs
noncomputable def gZ (di:List (List Str)):List (Key × V):=di.zipIdx.foldl (fun kvs e=>mJ e.2 kvs e.1) []
theorem aeT (kvs:List (Key × V)) (k:Key) (v:V):(eb kvs k v).length <= kvs.length + 1:=by
 unfold eb;split
 .rw [a0];omega
 .rw [ec];exact bW _
theorem RU (i:Nat) (kvs:List (Key × V)) (ms:List Str) (x:Str):mJ i kvs (ms ++ [x])=eb (mJ i kvs ms) (bT x) (.int i):=by
 unfold mJ;rw [PR];rfl
theorem ajA (di:List (List Str)) (ms:List Str):gZ (di ++ [ms])=mJ di.length (gZ di) ms:=by
 unfold gZ;rw [List.zipIdx_append,PR];simp
theorem HU (i:Nat) (x:Str):∀ (ms:List Str) (kvs:List (Key × V)),cY (mJ i kvs ms) (bT x)=if x ∈ ms then some (.int i) else cY kvs (bT x)
 | [],kvs=>by simp [mJ]
 | y :: ms,kvs=>by
  show cY (mJ i (eb kvs (bT y) (.int i)) ms) (bT x)=_;rw [HU i x ms,VG];by_cases c:x ∈ ms
  .rw [if_pos c,if_pos (hS _ c)]
  .rw [if_neg c];by_cases d:x=y
   .subst d;rw [if_pos rfl,if_pos (lp ..)]
   .rw [if_neg (fun e=>d (n2 e)),if_neg (fun e=>by
     rcases fi.mp e with e | e
     .exact d e
     .exact c e)]
theorem FA {di:List (List Str)} {i:Nat} {ms:List Str} (h:di[i]? = some ms):gZ (di.take (i + 1))=mJ i (gZ (di.take i)) ms:=by
 rw [j_ h,ajA,hE,ahv (l3 (cv.mp h).1)]
theorem OK {x:Str}:∀ (n:Nat) (di:List (List Str)),n <= di.length->((cY (gZ (di.take n)) (bT x)).isSome=true↔∃ ms ∈ di.take n,x ∈ ms)
 | 0,di,_=>by simp [gZ,cY]
 | n + 1,di,aY=>by
  have h:di[n]? = some di[n]:=bc (by omega);rw [FA h,HU,j_ h];have b':=OK (x:=x) n di (by omega);by_cases c:x ∈ di[n]
  .rw [if_pos c];exact ⟨fun _=>⟨_,ko _ (gg.mpr rfl),c⟩,fun _=>rfl⟩
  .rw [if_neg c,b'];constructor
   .rintro ⟨ms,af,aj⟩;exact ⟨ms,yJ _ af,aj⟩
   .rintro ⟨ms,af,aj⟩;rcases hI.mp af with af | af
    .exact ⟨ms,af,aj⟩
    .rw [gg.mp af] at aj;exact absurd aj c
theorem tL (p:Str->Bool):∀ xs:List Str,((xs.map fun x=>if p x=true then some (V.str x) else none).flatMap zW)=aL (xs.filter p)
 | []=>rfl
 | x :: xs=>by
  rw [eN,wb,tL p xs];by_cases c:p x=true
  .rw [if_pos c,Ym c];rfl
  .rw [if_neg c,abS c];rfl
noncomputable def told (rows:List ST) (x:Str):Bool:=rows.any fun r=>r.mem.contains x
noncomputable def gV (ds:List bj) (rows:List ST):List Str:=(ds.map (·.name)).filter fun x=>!told rows x
theorem TA (rows:List ST) (x:Str):(cY (gZ (rows.map (·.mem))) (bT x)).isSome=told rows x:=by
 rw [j'];have:=OK (x:=x) (rows.map (·.mem)).length (rows.map (·.mem)) (bW _);rw [ig] at this;rw [this];unfold told;rw [qV];constructor
 .rintro ⟨ms,af,aj⟩;obtain ⟨r,ak,rfl⟩:=b1.mp af;exact ⟨r,ak,by simpa using aj⟩
 .rintro ⟨r,ak,h⟩;exact ⟨_,b1.mpr ⟨r,ak,rfl⟩,by simpa using h⟩
noncomputable def h1 (d:bj):Str:=if d.k=2 then ae "trams" else ae "others"
def ag9 (t:bM):bP:=fun vs H Q _=>∃ c n ds,∃ i:Nat,∃ d,vs=[.ref c,.str d.name]/\fh t H c n ds/\ds[i]? = some d/\d.k < 3/\Q (.str (h1 d)) H
def Xv:bP:=fun vs H Q _=>∃ p ms di,vs=[.ref p]/\lH H p ms di/\di.length <= 6/\(∀ x ∈ di,x.length <= 12)/\∀ h I,aS H I->(aP H->aP I)->H h=none->I h=some (.bx (gZ di))->Q (.ref h) I
def adz (t:bM):bP:=fun vs H Q _=>∃ c n ds p qs ms rows,vs=[.ref c,.ref p]/\fh t H c n ds/\iG H p qs ms rows/\rows.length <= 6/\(∀ r ∈ rows,r.mem.length <= 12)/\∀ l I,aS H I->(aP H->aP I)->H l=none->I l=some (.lst (aL (gV ds rows)))->Q (.ref l) I
theorem Ti:cu P base T 3 t.Hu t.K8 Ab (ag9 t):=by
 refine cy (sv T) fun jS=>?_;exists T.xo.ok alo,9
 obtain ⟨c,n,ds,i,d,rfl,C,hd,aC,q⟩:=h;obtain ⟨_,ao,wl,aG,aq,_,_⟩:=id C;refine ⟨_,(a6 (cg (ud (c_ e5 (bB (eX (U 0) T.hq T.mW jS ak T.mM .nil cx (ai (U 1) aE)) rfl) cX (cC _)) cX cX))),?_⟩;nofun;refine ⟨_,_,aq,jk _ _ _ (by ac_nf),c,n,ds,i,d,rfl,C,hd,fun a W=>⟨a,rfl,_,W.Y2 T,rfl,?_⟩⟩;unfold h1 at q;have EH:∀ k,k < 3->decide (V.str (eD k)=V.str (ae "tram"))=decide (k=2):=by ac_nf
 rw [EH d.k aC];by_cases cU:d.k=2
 .rw [if_pos (decide_eq_true cU)];rw [if_pos cU] at q;exact q
 .rw [if_neg (by simpa using cU)];rw [if_neg cU] at q;exact q
theorem KX:cu P base T 1 t.JC t.Lc ["members"] Xv:=by
 exists T.Tk.ok xU,9
 obtain ⟨p,ms,di,rfl,M,ml,Bp,q⟩:=h;have br:=hh ak;refine ⟨_,(aW (b5 (i:=1) xU.aG vM)
   (aW (fU gi rfl (CZ rfl T.AP (ai (U 0) aE)) (lC (K:=K) (n:=2) rfl rfl (ft (Db (i:=2) xU.aG) (ft (Db (i:=3) xU.aG) lS))) (a6 (fU gi rfl (eA (U 3)) (Db (i:=4) xU.aG) (a6 (p0 br (U 1) (U 4) (U 2) rfl)))))
   (a6 (cg (U 1))))),?_⟩
 nofun;intro h de;have s0:aS H (upd H h (.bx [])):=bq de;refine ⟨⟨_,aB.of (s0 _ _ M.at_)⟩,?_⟩;refine d3.enum (xs:=ms.map V.ref) (fun i σ I=>(∃ x y z,σ=[~~~p,~~~h,x,y,z])/\aS H I/\(aP H->aP I)/\I h=some (.bx (gZ (di.take i)))/\(gZ (di.take i)).length <= 12 * i) ?_ ?_ ?_ ?_
 .exact ⟨⟨_,_,_,rfl⟩,s0,fun n=>n.upd,by rw [r5];exact aX,by rw [r5];simp [gZ]⟩
 .rintro i σ I ah ⟨_,s1,_⟩;exact aB.of (s1 _ _ M.at_)
 .rintro i v σ I ia aF ⟨⟨x,y,z,rfl⟩,s1,b9,af,Jr⟩ n9;obtain ⟨m,hm,rfl⟩:=cf aF;have A1:i < di.length:=by rw [<- M.ln];exact (cv.mp hm).1
  have vw:di[i]? = some di[i]:=bc A1;have em:=M.al i m _ hm vw;have hn:=Bp _ (cH vw);have s2:aS I (upd I ia (.tup [.int i,.ref m])):=bq n9;refine Dq ?_;nofun;have N2:=s2 _ _ (s1 _ _ em);have aj:=s2 _ _ af;have nb:aP H->aP (upd I ia (.tup [.int i,.ref m])):=fun n=>(b9 n).upd
  have Ra:=s1.trans s2;generalize upd I ia (.tup [.int i,.ref m])=eV at N2 aj nb Ra s2 ⊢;refine ⟨⟨_,aB.of N2⟩,?_⟩;refine d3.list (xs:=aL di[i]) (fun j σ aw=>(∃ z,σ=[~~~p,~~~h,some (.int (i:Nat)),~~~m,z])/\aS H aw/\(aP H->aP aw)/\aw h=some (.bx (mJ i (gZ (di.take i)) (di[i].take j)))/\(mJ i (gZ (di.take i)) (di[i].take j)).length <= 12 * i + j) ?_ ?_ ?_ ?_
  .exact ⟨⟨_,rfl⟩,Ra,nb,by rw [r5];exact aj,by rw [r5];exact Jr⟩
  .rintro j σ aw aM ⟨_,s3,_⟩;exact aB.of (s3 _ _ em)
  .rintro j v σ aw aF bl;ac_rfl
   obtain ⟨⟨z,rfl⟩,s3,dA,a',Wu⟩:=bl;subst ba;unfold aL at aF;obtain ⟨x,ag,rfl⟩:=cf aF;have aM:j < di[i].length:=(cv.mp ag).1;have cO:=aeT (mJ i (gZ (di.take i)) (di[i].take j)) (bT x) (.int i);nofun;refine ⟨_,kf.k (k:=bT x) a' (gQ (show _ <= 1000 by omega) (by decide)),⟨_,rfl⟩,s3.fY de,fun n=>(dA n).upd,?_,?_⟩
   .rw [aX,j_ ag,RU]
   .rw [j_ ag,RU];omega
  .rintro σ aw bl;ac_rfl
   obtain ⟨⟨z,rfl⟩,s3,dA,a',Wu⟩:=bl;subst ba;rw [eF,ig,<- FA vw] at a' Wu;exact ⟨⟨_,_,_,rfl⟩,s3,dA,a',by omega⟩
 .rintro σ I bl;ac_rfl
  obtain ⟨⟨x,y,z,rfl⟩,s1,b9,af,_⟩:=bl;subst ba;rw [a0,M.ln,ig] at af;nofun;exact q h I s1 b9 de af
theorem S':cu P base T 2 t.Ip t.K0 kx (adz t):=by
 refine cy (KX T) fun xY=>cy (wu T) fun pf=>?_;exists T.BR.ok OF,9
 obtain ⟨c,n,ds,p,qs,ms,rows,rfl,C,R,gS,u5,q⟩:=h;have br:=hh ak;obtain ⟨⟨_,fj⟩,ao,wl,aG,aq,_,_⟩:=id C;refine ⟨_,(aW (oT (i:=2) OF.aG rfl (m3 rfl) (cn xY ak T.L7 T.Tk.bH T.Hc (ai (hl rfl (eA (U 1)) (gz (sc:=bz B_) rfl (by ac_nf)) (N:=iD) (sel:=[none,none,none]) (gA (M:=Lh) (by ac_nf)) (fA.of (fun _ _ _ _=>(lC (K:=K) (n:=3) rfl rfl (ft (Db (i:=0) (er (N:=iD) (by ac_nf) rfl)) (ft (Db (i:=1) (er (N:=iD) (by ac_nf) rfl)) (ft (Db (i:=2) (er (N:=iD) (by ac_nf) rfl)) lS))))) (fun _ _ _ _=>⟨_,ix,by walk_at "B"⟩) (fun _ _ _ _=>⟨_,(U 2),by walk_at "B"⟩))) aE)))
   (a6 (cg (hl rfl (eA (gc (U 0) T.hq T.wG pf ak T.wW .nil cx)) (gz (sc:=bz B_) rfl (by ac_nf)) (N:=["name","told"]) (sel:=[none,some 2]) (gA (M:=Lh) (by ac_nf)) (fA.of (fun _ _ _ _=>(Db (i:=0) (er (N:=["name","told"]) (by ac_nf) rfl))) (fun _ _ _ _=>⟨_,(sG (yC (Fg br (U 0) (U 1)))),by walk_at "B"⟩) (fun _ _ _ _=>⟨_,(U 0),by walk_at "B"⟩)))))),?_⟩
 simp only [dG];nofun;have iU:(qs.map V.ref).length=rows.length:=by rw [a0,R.cw]
 refine ⟨⟨_,aB.of R.at_⟩,?_⟩;refine c6.lR (xs:=qs.map V.ref) (zs:=ms.map V.ref) (aB.of R.at_) (by rw [iU];exact cP gS (by decide)) (by rw [iU,a0,R.cN]) (fun j v z N aF aJ bf=>?_) (fun pm L3=>?_)
 .obtain ⟨j2,eI,rfl⟩:=cf aF;obtain ⟨IF,kH,rfl⟩:=cf aJ;have aM:j < rows.length:=by rw [<- R.cw];exact (cv.mp eI).1
  have e:=(R.al j j2 IF _ eI kH (bc aM)).1;nofun;exact ⟨_,c0.of e,rfl,_,_,rfl,_,_,rfl,_,_,rfl,rfl,Sub.uw,bf⟩
 .have sp:aS H (upd H pm (.lst (ms.map V.ref))):=bq L3;have np:aP H->aP (upd H pm (.lst (ms.map V.ref))):=fun n=>n.upd
  have ep:(upd H pm (.lst (ms.map V.ref))) pm=some (.lst (ms.map V.ref)):=aX;generalize upd H pm (.lst (ms.map V.ref))=eV at sp np ep ⊢;refine ⟨pm,ms,rows.map (·.mem),rfl,⟨ep,by rw [R.cN,a0],fun i m x hm ag=>?_⟩,by rw [a0];exact gS,fun x ag=>?_,fun h H1 s1 b9 de af=>?_⟩
  .obtain ⟨r,eg,rfl⟩:=cf ag;have gW:qs[i]? = some (qs[i]'(by rw [R.cw];exact (cv.mp eg).1)):=bc _;exact sp _ _ (R.al i _ m r gW hm eg).2
  .obtain ⟨r,eg,rfl⟩:=b1.mp ag;exact u5 r eg
  .have m9:=sp.trans s1;have vR:=C.same m9;refine ⟨_,_,m9 _ _ aq,jk _ _ _ (by ac_nf),c,n,ds,rfl,vR,fun dN jQ=>⟨dN,rfl,⟨_,aB.of aX⟩,?_⟩⟩;have sB:=m9.trans (bq (o:=.lst (aL (ds.map (·.name)))) jQ);have aj:=(bq (o:=.lst (aL (ds.map (·.name)))) jQ) _ _ af;have js:aP H->aP (upd H1 dN (.lst (aL (ds.map (·.name))))):=fun n=>(b9 (np n)).upd
   have mV:(upd H1 dN (.lst (aL (ds.map (·.name))))) dN=some (.lst (aL (ds.map (·.name)))):=aX;generalize upd H1 dN (.lst (aL (ds.map (·.name))))=kv at sB aj js mV ⊢;refine c6.sj (xs:=aL (ds.map (·.name))) (ss:=(ds.map (·.name)).map fun x=>if (!told rows x)=true then some (V.str x) else none) (aB.of mV) (by rw [eF,a0];exact cP fj (by decide)) (by rw [eF,a0]) (fun i v o ys N aF aQ bf=>?_) (fun l aA=>?_)
   .unfold aL at aF;obtain ⟨x,ag,rfl⟩:=cf aF;obtain ⟨fx,d7,rfl⟩:=cf aQ;rw [ag] at d7;cases d7;have a5:fT kv h (.str x) (cY (gZ (rows.map (·.mem))) (bT x)):=fT.k (k:=bT x) aj;have cK:=TA rows x;nofun;refine ⟨Sub.name,_,a5,?_⟩;rw [cK];by_cases bZ:(!told rows x)=true
    .rw [if_pos bZ];rw [if_pos bZ] at bf;exact bf
    .rw [if_neg bZ];rw [if_neg bZ] at bf;simpa using bf
   .rw [tL];exact q l _ (sB.trans (bq aA)) (fun n=>(js n).upd) (sB.free aA) aX
noncomputable def vJ (ds:List bj) (left:List Str) (f:Str):List Str:=left.filter fun x=>decide ((iJ ds x).map h1=(iJ ds f).map h1)
noncomputable def qP (alike:List Str):List Str->Nat->List Str->Except Nat (List Str)
 | [],_,ms=>.ok ms
 | x :: r,j,ms=>if x ∈ alike/\x ∉ ms then qP alike r (j + 1) (ms ++ [x]) else .error j
noncomputable def k9 (ds:List bj) (left ws:List Str):Except Nat (List Str):=if az ws 3 ∈ left then qP (vJ ds left (az ws 3)) (ws.drop 4) 4 [az ws 3] else .error 3
noncomputable def Op (ds:List bj) (rows:List ST) (ws:List Str):Except Nat ST:=if az ws 0 ∈ [ae "stage"] then
 (ke (az ws 1) 1 60).elim (.error 1) fun lo=>(ke (az ws 2) lo 60).elim (.error 2) fun ah=>match k9 ds (gV ds rows) ws with
  | .error k=>.error k
  | .ok ms=>.ok ⟨lo,ah,ms⟩ else .error 0
theorem Ww:∀ {r:List Str} {j:Nat} {ms oW:List Str},qP alike r j ms=.ok oW->ms.Nodup->oW.Nodup/\(∃ more,oW=ms ++ more)/\∀ x ∈ oW,x ∈ ms\/x ∈ alike
 | [],j,ms,oW,h,aG=>by
  have h:ql ms=ql (ε:=Nat) oW:=h;cases h;exact ⟨aG,⟨[],by simp⟩,fun x ag=>.inl ag⟩
 | y :: r,j,ms,oW,h,aG=>by
  unfold qP at h;split at h
  .rename_i c;obtain ⟨af,⟨more,aj⟩,a'⟩:=Ww h (DK.mpr ⟨aG,by simp,fun a aO b ab e=>by
    rw [gg.mp ab] at e;rw [e] at aO;exact c.2 aO⟩)
   refine ⟨af,⟨y :: more,by rw [aj,pG];rfl⟩,fun x ag=>?_⟩;rcases a' x ag with z | z
   .rcases hI.mp z with z | z
    .exact .inl z
    .rw [gg.mp z];exact .inr c.1
   .exact .inr z
  .cases h
def amB (t:bM):bP:=fun vs H Q _=>∃ q row ws c n ds l left ms,vs=[.ref q,.ref c,.ref l]/\c8 t H q row ws 3/\fh t H c n ds/\(∀ d ∈ ds,d.k < 3/\d.name ≠ ae "")/\H l=some (.lst (aL left))/\left.length <= 12/\(∀ x ∈ left,∃ d ∈ ds,d.name=x)/\aP H/\k9 ds left ws=.ok ms /\
 ∀ m I,ad q H I->aP I->(∃ u,I q=some u)->I m=some (.lst (aL ms))->H m=none->Q (.ref m) I
def SM (t:bM):bP:=fun vs H Q _=>∃ q row ws c n ds p qs ms rows s,vs=[.ref q,.ref c,.ref p]/\c8 t H q row ws 0/\fh t H c n ds/\(∀ d ∈ ds,d.k < 3/\d.name ≠ ae "")/\iG H p qs ms rows/\rows.length <= 6/\(∀ r ∈ rows,r.mem.length <= 12)/\aP H/\Op ds rows ws=.ok s /\
 ∀ x m I,ad q H I->aP I->I x=some (LB s m)->I m=some (.lst (aL s.mem))->H x=none->H m=none->Q (.ref x) I
theorem lI {ds:List bj} (aG:(ds.map (·.name)).Nodup) {i:Nat} {d:bj} (h:ds[i]? = some d):iJ ds d.name=some d:=by
 unfold iJ;cases e:ds.find? fun x=>decide (x.name=d.name) with
 | none=>
  have:=Sr.mp e d (cH h);simp at this
 | some x=>
  have af:x.name=d.name:=by simpa using List.find?_some e
  obtain ⟨j,aM⟩:=iN (List.mem_of_find?_eq_some e);have:=ve aG (cv.mp aM).1 (cv.mp h).1 (by rw [kL aM,kL h,af]);subst this;rw [aM] at h;exact h
theorem fh.yb {t:bM} {k:Nat} (h:fh t H c n ds) (s:ad q H I) (R:c8 t H q row ws k):fh t I c n ds:=by
 obtain ⟨h0,hk,wl,aG,aq,⟨as,c9,dH,al⟩,bL⟩:=h;obtain ⟨_,AD,a7,f1,f2⟩:=id R;refine ⟨h0,hk,wl,aG,s _ _ (fun z=>?_) aq,⟨as,s _ _ (b0 c9 f1 (by intro z;cases z)) c9,dH,fun i b d ab hd=>?_⟩,s _ _ (b0 bL f1 (by intro z;cases z)) bL⟩
 .subst z;rw [aq] at f1;have e:=dU f1;injection e with _ _ ek;unfold ov mw at ek;injection ek with fG _;injection fG with es _;exact absurd es (by ac_nf)
 .have W:=al i b d ab hd;have aY:=OZ W R;exact ⟨W.1,W.2.imp fun ao e=>s _ _ aY e⟩
theorem afd (h:j < ws.length):ws.drop j=az ws j :: ws.drop (j + 1):=by
 rw [rM h];unfold az;rw [iF,bc h];rfl
theorem iG.yb {t:bM} {q p:Addr} {rows:List ST} {k:Nat} (h:iG H p qs ms rows) (s:ad q H I) (R:c8 t H q row ws k):iG I p qs ms rows:=by
 obtain ⟨_,AD,a7,f1,f2⟩:=id R;refine ⟨s _ _ (b0 h.at_ f1 (by intro z;cases z)) h.at_,h.cw,h.cN,fun i q m r a b c=>?_⟩;obtain ⟨aq,aD⟩:=h.al i q m r a b c;exact ⟨s _ _ (b0 aq f1 (by intro z;cases z)) aq,s _ _ (b0 aD f1 (by intro z;cases z)) aD⟩
theorem aiH:cu P base T 4 t.E' t.Kq HM (amB t):=by
 refine cy (ut T) fun qo=>cy (M0 T) fun JV=>cy (Ti T) fun A0=>?_;exists T.Eb.ok AE,9
 obtain ⟨q,row,ws,c,n,ds,l,left,Qe,rfl,R,C,aC,aA,DC,Ta,bN,ct,kD⟩:=h;refine ⟨_,(aW (oT (i:=3) AE.aG rfl (m3 rfl) (eX (U 0) T.fV T.vA qo ak T.w5 .nil cx (ai (U 2) aE)))
   (aW (oT (i:=4) AE.aG rfl (m3 rfl) (ha (ai (U 3) aE)))
   (aW (Ln (i:=5) AE.aG rfl (oj rfl) rfl (eA (U 2)) (gz (sc:=bz zK) rfl (by ac_nf)) (N:=["name","crossing","first"]) (sel:=[none,some 1,some 3]) (gA (M:=EU) (by ac_nf)) (fA.of (fun _ _ _ _=>(Db (i:=0) (er (N:=["name","crossing","first"]) (by ac_nf) rfl))) (fun _ _ _ _=>⟨_,(sG (c_ e5 (cn A0 ak T.E4 T.xo.bH T.IX (ai (U 1) (ai (U 0) aE))) (cn A0 ak T.E4 T.xo.bH T.IX (ai (U 1) (ai (U 2) aE))) (cC _))),by walk_at "B"⟩) (fun _ _ _ _=>⟨_,(U 0),by walk_at "B"⟩)) rfl)
   (aW (akW gi (oJ (gc (U 0) T.fV T.bi JV ak T.Vd .nil cx)) (a6 (dS (gm ie lE mK Re (U 4) (ai (eX (U 0) T.fV T.vA qo ak T.w5 .nil cx (ai (hl rfl (eA (U 5)) (gz (sc:=bz zK) rfl (by ac_nf)) (N:=["name","members"]) (sel:=[none,some 4]) (gA (M:=EU) (by ac_nf)) (fA.of (fun _ _ _ _=>(Db (i:=0) (er (N:=["name","members"]) (by ac_nf) rfl))) (fun _ _ _ _=>⟨_,(sG (c_ E_ (U 0) (U 1) (by with_unfolding_all rfl))),by walk_at "B"⟩) (fun _ _ _ _=>⟨_,(U 0),by walk_at "B"⟩))) aE)) aE)))))
   (a6 (cg (U 4))))))),?_⟩
 obtain ⟨aJ,ao,a7,aq,aD⟩:=id R;unfold k9 at ct;split at ct
 case isFalse=>cases ct
 rename_i gR;obtain ⟨i7,j0,oZ⟩:=Ta _ gR;have aaP:4 <= ws.length:=Hw (k:=3) (by rw [<- oZ];exact (aC i7 j0).2);nofun;refine ⟨_,_,aq,c8.no _ _ _ (by ac_nf),⟨q,row,ws,3,_,l,left,rfl,R,wd (by omega),aB.of aA,gR,fun H1 s1 b9 jW=>?_⟩⟩;have jA:=b9 bN;have vR:=C.yb s1 R;have Jr:H1 l=some (.lst (aL left)):=s1 _ _ (b0 aA aq (by intro z;cases z)) aA;generalize hf:az ws 3=f0 at ct gR oZ ⊢;obtain ⟨C_,Sw⟩:=iN j0;nofun;refine ⟨by decide,fun gj ml=>?_⟩;obtain ⟨CE,N1,SV,f1,f2⟩:=id jW;have N4:H gj=none:=by
  cases e:H gj with
  | none=>rfl
  | some u=>
   by_cases z:gj=q
   .rw [z,f1] at ml;cases ml
   .rw [s1 _ _ z e] at ml;cases ml
 have sB:aS H1 (upd H1 gj (.lst [V.str f0])):=bq ml;have FU:(upd H1 gj (.lst [V.str f0])) gj=some (.lst [V.str f0]):=aX;have js:aP (upd H1 gj (.lst [V.str f0])):=jA.upd;generalize upd H1 gj (.lst [V.str f0])=kv at sB FU js ⊢;have Th:=vR.same sB;have Qy:=sB _ _ Jr;have e7:=C.1.1;refine ⟨⟨_,aB.of Qy⟩,?_⟩;refine c6.sj (xs:=aL left) (ss:=left.map fun x=>if decide ((iJ ds x).map h1=(iJ ds f0).map h1)=true then some (V.str x) else none) (aB.of Qy) (by rw [eF];exact cP DC (by decide)) (by rw [eF,a0]) (fun i v o ys N aF aQ bf=>?_) (fun al qS=>?_)
 .unfold aL at aF;obtain ⟨x,ag,rfl⟩:=cf aF;obtain ⟨fx,d7,rfl⟩:=cf aQ;rw [ag] at d7;cases d7;obtain ⟨ew,AJ,rfl⟩:=Ta x (cH ag);obtain ⟨j,aM⟩:=iN AJ;rw [<- oZ,lI e7 aM,lI e7 Sw] at bf;nofun;refine ⟨Sub.name,c,n,ds,j,ew,rfl,Th,aM,(aC ew AJ).1,c,n,ds,C_,i7,by rw [oZ],Th,Sw,(aC i7 j0).1,rfl,?_⟩;by_cases bZ:h1 ew=h1 i7
  .simp [bZ] at bf ⊢;exact bf
  .simp [bZ] at bf ⊢;exact bf
 rw [tL];rw [show left.filter (fun x=>decide ((iJ ds x).map h1=(iJ ds f0).map h1))=vJ ds left f0 from rfl];have pj:(vJ ds left f0).length <= 12:=by
  unfold vJ;exact cP (B8 ..) DC
 generalize vJ ds left f0=alike at ct pj ⊢;have jO:aS kv (upd kv al (.lst (aL alike))):=bq qS;have uT:(upd kv al (.lst (aL alike))) al=some (.lst (aL alike)):=aX;have N3:aP (upd kv al (.lst (aL alike))):=js.upd;have amd:al ≠ gj:=fun z=>by rw [z,FU] at qS;cases qS
 generalize upd kv al (.lst (aL alike))=Kn at jO uT N3 ⊢;have alz:ad q H Kn:=s1.trans (ad.of (sB.trans jO));refine adB (fun σ I=>∃ ms:List Str,σ=[~~~q,~~~c,~~~l,some (.str f0),~~~gj,~~~al]/\ad q H I/\aP I/\c8 t I q row ws (3 + ms.length)/\I gj=some (.lst (aL ms))/\I al=some (.lst (aL alike))/\3 + ms.length <= ws.length/\qP alike (ws.drop (3 + ms.length)) (3 + ms.length) ms=.ok Qe) (fun σ I=>match I gj with | some (.lst xs)=>ws.length - xs.length | _=>0) ?_ ?_
 .exact ⟨[f0],rfl,alz,N3,jW.same (sB.trans jO),jO _ _ FU,uT,aaP,ct⟩
 rintro σ I bl;ac_rfl
 obtain ⟨ms,rfl,fb,cI,eQ,iZ,a2,Ka,fw⟩:=bl;obtain ⟨Te,vI,Ic,g1,g2⟩:=id eQ;have RW:gj ≠ q:=b0 iZ g1 (by intro z;cases z);have Xw:al ≠ q:=b0 a2 g1 (by intro z;cases z);subst ba;refine ⟨decide (3 + ms.length < ws.length),fun jf a8=>?_,fun oQ=>?_,fun oQ=>?_⟩
 .nofun;exact ⟨_,_,g1,c8.no _ _ _ (by ac_nf),⟨q,row,ws,_,rfl,eQ,_,rfl,a8⟩⟩
 .have oQ:=of_decide_eq_true oQ;rw [afd oQ] at fw;unfold qP at fw;nofun;refine ⟨.inl ⟨_,aB.of iZ⟩,?_⟩;refine ⟨_,_,g1,c8.no _ _ _ (by ac_nf),⟨_,aB.of a2⟩,?_⟩;refine c6.sj (xs:=aL alike) (ss:=alike.map fun x=>if (!decide (x ∈ ms))=true then some (V.str x) else none) (aB.of a2) (by rw [eF];exact cP pj (by decide)) (by rw [eF,a0]) (fun i v o ys N aF aQ bf=>?_) (fun cl pM=>?_)
  .unfold aL at aF;obtain ⟨x,ag,rfl⟩:=cf aF;obtain ⟨fx,d7,rfl⟩:=cf aQ;rw [ag] at d7;cases d7;nofun;refine ⟨Sub.name,_,.inl (aB.of iZ),rfl,zn ms,?_⟩;rw [BY];by_cases bZ:x ∈ ms
   .simp [bZ] at bf ⊢;exact bf
   .simp [bZ] at bf ⊢;exact bf
  rw [tL];have sb:aS I (upd I cl (.lst (aL (alike.filter fun x=>!decide (x ∈ ms))))):=bq pM;have ON:(upd I cl (.lst (aL (alike.filter fun x=>!decide (x ∈ ms))))) cl=some (.lst (aL (alike.filter fun x=>!decide (x ∈ ms)))):=aX;have PC:aP (upd I cl (.lst (aL (alike.filter fun x=>!decide (x ∈ ms))))):=cI.upd;generalize upd I cl (.lst (aL (alike.filter fun x=>!decide (x ∈ ms))))=Pu at sb ON PC ⊢;split at fw
  case isFalse=>cases fw
  rename_i av;refine ⟨q,row,ws,3 + ms.length,_,cl,_,rfl,eQ.same sb,wd oQ,aB.of ON,kV.mpr ⟨av.1,by simpa using av.2⟩,fun aw s2 dA l2=>?_⟩
  .have qY:aw gj=some (.lst (aL ms)):=s2 _ _ RW (sb _ _ iZ);have fX:aw al=some (.lst (aL alike)):=s2 _ _ Xw (sb _ _ a2);obtain ⟨zd,DW,Of,bG,cT⟩:=id l2;have BO:Of ≠ gj:=fun z=>by
    rw [z,qY] at cT;have e:=dU cT;injection e with e;have:=congrArg qH e;rw [eF,eF] at this;omega
   refine ⟨_,qY,gQ (show (aL ms).length <= 1000 by rw [eF];have:=zd.1;omega) (by decide),fun b u ab e=>?_,(dA PC).upd,⟨ms ++ [az ws (3 + ms.length)],⟨zd,DW,Of,?_,?_⟩,?_,?_,?_,?_⟩,?_⟩
   .rw [aH (dj e N4)];exact s2 _ _ ab (sb _ _ (fb _ _ ab e))
   .rw [aH (dg RW),ec];exact bG
   .rw [aH BO];exact cT
   .rw [aX];unfold aL;rw [fS];rfl
   .rw [aH amd];exact fX
   .rw [ec];show 3 + (ms.length + 1) <= _;omega
   .rw [ec];exact fw
   .rw [aX,iZ];show ws.length - (aL ms ++ [V.str (az ws (3 + ms.length))]).length < ws.length - (aL ms).length;rw [ec,eF];show ws.length - (ms.length + 1) < _;omega
 .have oQ:=of_decide_eq_false oQ;rw [List.drop_of_length_le (by omega)] at fw;replace fw:(ql ms:Except Nat (List Str))=.ok Qe:=fw;cases fw;nofun;exact kD gj I fb cI ⟨_,g1⟩ iZ N4
theorem ahA:cu P base T 6 t.AY t.y8 Di (SM t):=by
 refine cy (ut T) fun qo=>cy (yP T) fun m5=>cy (aiH T) fun ZX=>cy (S' T) fun F2=>?_;exists T.bn.ok ul,9
 obtain ⟨q,row,ws,c,n,ds,p,qs,ms,rows,oK,rfl,R,C,aC,adH,gS,u5,bN,ct,kD⟩:=h;refine ⟨_,(aW (dS (eX (U 0) T.fV T.vA qo ak T.w5 .nil cx (ai (ha (ai cX aE)) aE)))
   (aW (b5 (i:=3) ul.aG (eX (U 0) T.fV T.qu m5 ak T.q0 .nil cx (ai aR (ai (lQ rfl T.VO T.Nx) aE))))
   (aW (b5 (i:=4) ul.aG (eX (U 0) T.fV T.qu m5 ak T.q0 .nil cx (ai (U 3) (ai (lQ rfl T.VO T.Nx) aE))))
   (a6 (cg (ls (ai (U 3) (ai (U 4) (ai (cn ZX ak T.aiF T.Eb.bH T.ag_ (ai (U 0) (ai (U 1) (ai (cn F2 ak T.TQ T.BR.bH T.M5 (ai (U 1) (ai (U 2) aE))) aE)))) aE))))))))),?_⟩
 obtain ⟨_,ao,a7,aq,aD⟩:=id R;unfold Op at ct;split at ct
 case isFalse=>cases ct
 rename_i gR;have cw:1 <= ws.length:=Hw (k:=0) (by rw [gg.mp gR];ac_nf);cases Au:ke (az ws 1) 1 60 with
 | none=>rw [Au] at ct;cases ct
 | some lo=>
 have vW:iP (az ws 1) 1 60=.int lo:=by rw [LO,Au];rfl
 rw [Au] at ct;replace ct:((ke (az ws 2) lo 60).elim (.error 2) fun ah=>match k9 ds (gV ds rows) ws with | .error k=>.error k | .ok ms=>.ok ⟨lo,ah,ms⟩:Except Nat ST)=.ok oK:=ct;cases JQ:ke (az ws 2) lo 60 with
 | none=>rw [JQ] at ct;cases ct
 | some ah=>
 have G9:iP (az ws 2) lo 60=.int ah:=by rw [LO,JQ];rfl
 rw [JQ] at ct;replace ct:(match k9 ds (gV ds rows) ws with | .error k=>.error k | .ok ms=>.ok (⟨lo,ah,ms⟩:ST):Except Nat ST)=.ok oK:=ct;cases hm:k9 ds (gV ds rows) ws with
 | error k=>rw [hm] at ct;cases ct
 | ok agB=>
 rw [hm] at ct;cases ct;have cN:=(Kh vW).1;nofun;refine ⟨_,_,aq,c8.no _ _ _ (by ac_nf),by decide,fun Bz hC=>?_⟩;have s0:aS H (upd H Bz (.lst [V.str (ae "stage")])):=bq hC;refine ⟨q,row,ws,0,_,Bz,[ae "stage"],rfl,R.same s0,wd cw,aB.of aX,gR,fun H1 s1 b9 jW=>?_⟩;obtain ⟨_,N1,SV,f1,f2⟩:=id jW;have jA:=b9 bN.upd;have b3:ad q H H1:=(ad.of s0).trans s1;nofun;refine ⟨_,_,f1,c8.no _ _ _ (by ac_nf),⟨q,row,ws,1,_,1,60,lo,rfl,jW,wd cN,vW,jA,fun aw s2 cI eQ=>?_⟩⟩;have pU:=cI jA;have fb:ad q H aw:=b3.trans s2;obtain ⟨_,vI,Ic,g1,g2⟩:=id eQ;nofun;refine ⟨_,_,g1,c8.no _ _ _ (by ac_nf),⟨q,row,ws,2,_,lo,60,ah,rfl,eQ,wd (Kh G9).1,G9,pU,fun bw s3 dA l2=>?_⟩⟩;have ajs:=(Kh G9).1;have Li:=dA pU;have gq:ad q H bw:=fb.trans s3;have sU:=C.yb gq R;have adS:=adH.yb gq R;nofun;refine ⟨c,n,ds,p,qs,ms,rows,rfl,sU,adS,gS,u5,fun l cS s4 d5 aA Bh=>?_⟩;have dB:ad q H cS:=gq.trans (ad.of s4);have IQ:=d5 Li;have rn:(gV ds rows).length <= 12:=by
  unfold gV;exact cP (B8 ..) (by rw [a0];exact C.1.2)
 refine ⟨q,row,ws,c,n,ds,l,gV ds rows,agB,rfl,l2.same s4,sU.same s4,aC,Bh,rn,fun x ag=>?_,IQ,hm,fun m d1 s5 GU XF aiI Lx=>?_⟩
 .obtain ⟨d,hd,e⟩:=b1.mp (kV.mp ag).1;exact ⟨d,hd,e⟩
 obtain ⟨_,_,_,aha,_⟩:=l2.same s4;nofun;refine ⟨by decide,fun x ag=>?_⟩;have back:∀ {y:Addr} {G:au},ad q H G->G y=none->(∃ u,G q=some u)->H y=none:=fun {y G} jR bh ⟨u,br⟩=>by
  cases e:H y with
  | none=>rfl
  | some v=>
   by_cases c:y=q
   .subst c;rw [br] at bh;cases bh
   .rw [jR _ _ c e] at bh;cases bh
 exact kD x m _ (dB.trans (s5.trans (ad.of (bq ag)))) GU.upd aX ((bq ag) _ _ aiI) (back (dB.trans s5) ag XF) (back dB Lx ⟨_,aha⟩)
theorem Pb [DecidableEq α]:∀ {l l':List α},l.Nodup->(∀ x ∈ l,x ∈ l')->l.length <= l'.length
 | [],_,_,_=>fC _
 | a :: l,l',h,ay=>by
  have aO:=ay a (lp ..);have aj:=qj.mp h;have:=Pb (l':=l'.erase a) aj.2 (fun x ag=>(List.mem_erase_of_ne (fun e=>aj.1 (by rw [<- e];exact ag))).mpr (ay x (hS _ ag)));rw [List.length_erase_of_mem aO] at this;have ar:=ajt aO;rw [hi];omega
noncomputable def ip (rows:List ST) (x:Str):Option Nat:=match cY (gZ (rows.map (·.mem))) (bT x) with
 | some (.int k)=>some k.toNat
 | _=>none
theorem V3 {x:Str}:∀ (n:Nat) (di:List (List Str)),n <= di.length->(∃ ms ∈ di.take n,x ∈ ms)->∃ (k:Nat) (ms:List Str),cY (gZ (di.take n)) (bT x)=some (.int (k:Int))/\di[k]? = some ms/\x ∈ ms
 | 0,di,_,h=>by
  obtain ⟨ms,af,_⟩:=h;simp at af
 | n + 1,di,aY,h=>by
  have a5:di[n]? = some di[n]:=bc (by omega);rw [FA a5,HU];by_cases c:x ∈ di[n]
  .rw [if_pos c];exact ⟨n,_,rfl,a5,c⟩
  .rw [if_neg c];refine V3 n di (by omega) ?_;obtain ⟨ms,af,aj⟩:=h;rw [j_ a5] at af;rcases hI.mp af with af | af
   .exact ⟨ms,af,aj⟩
   .rw [gg.mp af] at aj;exact absurd aj c
theorem ox {rows:List ST} {x:Str} (h:told rows x=true):∃ (k:Nat) (r:ST),cY (gZ (rows.map (·.mem))) (bT x)=some (.int (k:Int))/\ip rows x=some k/\rows[k]? = some r/\x ∈ r.mem:=by
 unfold told at h;obtain ⟨r,ak,ag⟩:=qV.mp h;have:=V3 (x:=x) (rows.map (·.mem)).length (rows.map (·.mem)) (bW _) ⟨r.mem,by rw [ig];exact b1.mpr ⟨r,ak,rfl⟩,by simpa using ag⟩;rw [ig] at this;obtain ⟨k,ms,af,aj,a'⟩:=this;obtain ⟨cV,eg,rfl⟩:=cf aj;exact ⟨k,cV,af,by unfold ip;rw [af];rfl,eg,a'⟩
noncomputable def wN (rows:List ST) (d:bj):Option (bj × Nat):=(ip rows d.name).bind fun k=>(rows[k]?).bind fun r=>if r.lo < d.least then some (d,k) else none
noncomputable def sX (ds:List bj) (rows:List ST):Option (bj × Nat):=ds.findSome? (wN rows)
noncomputable def oO (n:Int) (ds:List bj) (x y:Str):Bool:=match iJ ds x,iJ ds y with
 | some d,some e=>mt n d e
 | _,_=>false
noncomputable def oq (n:Int) (ds:List bj) (k:Nat) (x y:Str):Option (Str × Str × Nat):=if x ≠ y/\oO n ds x y=true then some (x,y,k) else none
noncomputable def bv (n:Int) (ds:List bj) (e:ST × Nat):Option (Str × Str × Nat):=e.1.mem.findSome? fun x=>e.1.mem.findSome? fun y=>oq n ds e.2 x y
noncomputable def vi (n:Int) (ds:List bj) (rows:List ST):Option (Str × Str × Nat):=rows.zipIdx.findSome? (bv n ds)
def ya (ds:List bj):Prop:=∀ d ∈ ds,aaw d.name/\d.k < 3/\(0 <= d.off/\d.off <= 1000)
structure o6 (ds:List bj) (rows:List ST):Prop where
 ln:rows.length <= 6
 gj:∀ r ∈ rows,r.mem.length <= 12
 xw:∀ r ∈ rows,∀ x ∈ r.mem,∃ d ∈ ds,d.name=x
def Ob (t:bM):bP:=fun vs H Q _=>∃ c n ds p qs ms rows,vs=[.ref c,.ref p]/\fh t H c n ds/\iG H p qs ms rows/\o6 ds rows/\gV ds rows=[]/\∀ I,aS H I->(aP H->aP I)->Q .bO I
def QM (t:bM):bP:=fun vs H Q _=>∃ c n ds p qs ms rows,vs=[.ref c,.ref p]/\fh t H c n ds/\iG H p qs ms rows/\o6 ds rows/\gV ds rows=[]/\sX ds rows=none/\∀ I,aS H I->(aP H->aP I)->Q .bO I
def Vc (t:bM):bP:=fun vs H Q _=>∃ c n ds p qs ms rows,vs=[.ref c,.ref p]/\fh t H c n ds/\0 < n/\iG H p qs ms rows/\o6 ds rows/\aP H/\vi n ds rows=none/\∀ I,aS H I->(aP H->aP I)->Q .bO I
def sh (l:List Int) (v:Int):Prop:=v ∈ l/\∀ k ∈ l,k <= v
noncomputable def sz (ds:List bj) (x:Str):Int:=((iJ ds x).map mb).getD 0
noncomputable def tw (ds:List bj) (x:Str):Int:=((iJ ds x).map mc).getD 0
noncomputable def uK (ds:List bj) (x y:Str):Int:=match iJ ds x,iJ ds y with
 | some d,some e=>if d.off - e.near > 0 then d.off - e.near else 0
 | _,_=>0
noncomputable def qx (n:Int) (ds:List bj) (s:List Str) (x:Str):List Int:=if x ∈ s then [] else (s.filter fun y=>oO n ds x y).map (uK ds x)
noncomputable def lx (n:Int) (ds:List bj) (f s:List Str):List Int:=[0] ++ f.map (sz ds) ++ s.map (tw ds) ++ (ds.map (·.name)).flatMap (qx n ds s)
theorem Al (h:oz.contains m=false):(og d).lookup m=none:=xO oz (MZ _) h
theorem MX (p:Str->Bool) (g:Str->Int):∀ xs:List Str,((xs.map fun x=>if p x=true then some (V.int (g x)) else none).flatMap zW)=((xs.filter p).map g).map V.int
 | []=>rfl
 | x :: xs=>by
  rw [eN,wb,MX p g xs];by_cases c:p x=true
  .rw [if_pos c,Ym c];rfl
  .rw [if_neg c,abS c];rfl
theorem Hk:∀ cb:List Int,cb ≠ []->∃ m,m ∈ cb/\∀ k ∈ cb,k <= m
 | [],h=>absurd rfl h
 | [x],_=>⟨x,by simp,fun k aC=>by rw [gg.mp aC];exact aa3 _⟩
 | x :: y :: r,_=>by
  obtain ⟨m,hm,al⟩:=Hk (y :: r) (by simp);by_cases c:x <= m
  .refine ⟨m,hS _ hm,fun k aC=>?_⟩;rcases fi.mp aC with rfl | aC
   .exact c
   .exact al k aC
  .refine ⟨x,by simp,fun k aC=>?_⟩;rcases fi.mp aC with rfl | aC
   .exact aa3 _
   .exact Int.le_trans (al k aC) (by omega)
def acI (t:bM):bP:=fun vs H Q _=>∃ c n ds gd aU f s,vs=[.ref c,.ref gd,.ref aU]/\fh t H c n ds/\0 < n/\ya ds/\H gd=some (.lst (aL f))/\H aU=some (.lst (aL s))/\(∀ x ∈ f,∃ d ∈ ds,d.name=x)/\(∀ x ∈ s,∃ d ∈ ds,d.name=x)/\f.length <= 12/\s.length <= 12/\aP H/\∀ v,sh (lx n ds f s) v->Q (.int v) H
def aak (t:bM):bP:=fun vs H Q _=>∃ c n ds gd aU f s,vs=[.ref c,.ref gd,.ref aU]/\fh t H c n ds/\0 < n/\ya ds/\H gd=some (.lst (aL f))/\H aU=some (.lst (aL s))/\(∀ x ∈ f,∃ d ∈ ds,d.name=x)/\(∀ x ∈ s,∃ d ∈ ds,d.name=x)/\f.length <= 12/\s.length <= 12/\aP H/\∀ v I,aS H I->sh (lx n ds f s) v->Q (.int v) I
theorem aaL:cu P base T 3 t.De t.yI kx (Ob t):=by
 refine cy (S' T) fun F2=>?_;exists T.J5.ok NR,9
 obtain ⟨c,n,ds,p,qs,ms,rows,rfl,C,R,J,e4,q⟩:=h;refine ⟨_,(aW (b5 (i:=2) NR.aG (cn F2 ak T.TQ T.BR.bH T.M5 (ai (U 0) (ai (U 1) aE))))
   (a6 (dK (y' (U 2) (fun _=>rfl)) (a6 n1) eu))),?_⟩
 nofun;refine ⟨c,n,ds,p,qs,ms,rows,rfl,C,R,J.ln,J.gj,fun l H1 s1 b9 aA cw=>?_⟩;dsimp only;rw [e4] at cw;refine dW false (fun Q a8=>?_) (fun z=>nomatch z) (fun _=>?_)
 .exact ⟨_,rfl,_,.inl ⟨_,aB.of cw,rfl⟩,a8⟩
 .simp only [iy];exact q H1 s1 b9
theorem acJ:cu P base T 3 t.Be t.zX kx (QM t):=by
 refine cy (KX T) fun xY=>cy (wu T) fun pf=>cy (sv T) fun jS=>?_;exists T.Md.ok Br,9
 obtain ⟨c,n,ds,p,qs,ms,rows,rfl,C,R,J,ac0,xV,q⟩:=h;have br:=hh ak;obtain ⟨⟨e7,fj⟩,ao,wl,aG,aq,_,_⟩:=id C;refine ⟨_,(aW (b5 (i:=2) Br.aG (cn xY ak T.L7 T.Tk.bH T.Hc (ai (hl rfl (eA (U 1)) (gz (sc:=bz HL) rfl (by ac_nf)) (N:=iD) (sel:=[none,none,none]) (gA (M:=["crossing","rows","homes","name","number"]) (by ac_nf)) (fA.of (fun _ _ _ _=>(lC (K:=K) (n:=3) rfl rfl (ft (Db (i:=0) (er (N:=iD) (by ac_nf) rfl)) (ft (Db (i:=1) (er (N:=iD) (by ac_nf) rfl)) (ft (Db (i:=2) (er (N:=iD) (by ac_nf) rfl)) lS))))) (fun _ _ _ _=>⟨_,ix,by walk_at "B"⟩) (fun _ _ _ _=>⟨_,(U 2),by walk_at "B"⟩))) aE)))
   (a6 (fU gi rfl (eA (gc (U 0) T.hq T.wG pf ak T.wW .nil cx)) (Db (i:=3) Br.aG) (aW (b5 (i:=4) Br.aG (ny br (U 2) (U 3) (fun _ _=>rfl)))
   (a6 (dK (c_ lu (cq fP (cq lc (U 1) (U 4)) aR) (bB (eX (U 0) T.hq T.mW jS ak T.mM .nil cx (ai (U 3) aE)) rfl) (cC _)) (a6 n1) eu)))))),?_⟩
 nofun;have iU:(qs.map V.ref).length=rows.length:=by rw [a0,R.cw]
 refine ⟨⟨_,aB.of R.at_⟩,?_⟩;refine c6.lR (xs:=qs.map V.ref) (zs:=ms.map V.ref) (aB.of R.at_) (by rw [iU];exact cP J.ln (by decide)) (by rw [iU,a0,R.cN]) (fun j v z N aF aJ bf=>?_) (fun pm L3=>?_)
 .obtain ⟨j2,eI,rfl⟩:=cf aF;obtain ⟨IF,kH,rfl⟩:=cf aJ;have aM:j < rows.length:=by rw [<- R.cw];exact (cv.mp eI).1
  have e:=(R.al j j2 IF _ eI kH (bc aM)).1;nofun;exact ⟨_,c0.of e,rfl,_,_,rfl,_,_,rfl,_,_,rfl,rfl,Sub.uw,bf⟩
 .have sp:aS H (upd H pm (.lst (ms.map V.ref))):=bq L3;have np:aP H->aP (upd H pm (.lst (ms.map V.ref))):=fun n=>n.upd
  have ep:(upd H pm (.lst (ms.map V.ref))) pm=some (.lst (ms.map V.ref)):=aX;generalize upd H pm (.lst (ms.map V.ref))=eV at sp np ep ⊢;refine ⟨pm,ms,rows.map (·.mem),rfl,⟨ep,by rw [R.cN,a0],fun i m x hm ag=>?_⟩,by rw [a0];exact J.ln,fun x ag=>?_,fun h H1 s1 b9 de af=>?_⟩
  .obtain ⟨r,eg,rfl⟩:=cf ag;have gW:qs[i]? = some (qs[i]'(by rw [R.cw];exact (cv.mp eg).1)):=bc _;exact sp _ _ (R.al i _ m r gW hm eg).2
  .obtain ⟨r,eg,rfl⟩:=b1.mp ag;exact J.gj r eg
  .have m9:=sp.trans s1;have vR:=C.same m9;refine ⟨_,_,m9 _ _ aq,jk _ _ _ (by ac_nf),c,n,ds,rfl,vR,fun dN jQ=>⟨dN,rfl,⟨_,aB.of aX⟩,?_⟩⟩;have sB:=m9.trans (bq (o:=.lst (aL (ds.map (·.name)))) jQ);have aj:=(bq (o:=.lst (aL (ds.map (·.name)))) jQ) _ _ af;have js:aP H->aP (upd H1 dN (.lst (aL (ds.map (·.name))))):=fun n=>(b9 (np n)).upd
   have mV:(upd H1 dN (.lst (aL (ds.map (·.name))))) dN=some (.lst (aL (ds.map (·.name)))):=aX;generalize upd H1 dN (.lst (aL (ds.map (·.name))))=kv at sB aj js mV ⊢;refine d3.list (xs:=aL (ds.map (·.name))) (fun i σ I=>(∃ x y,σ=[~~~c,~~~p,~~~h,x,y])/\I=kv/\sX ds rows=(ds.drop i).findSome? (wN rows)) ?_ ?_ ?_ ?_
   .exact ⟨⟨_,_,rfl⟩,rfl,rfl⟩
   .rintro i σ I ah ⟨_,rfl,_⟩;exact aB.of mV
   .rintro i v σ I aF bl;ac_rfl
    obtain ⟨⟨x,y,rfl⟩,rfl,dM⟩:=bl;subst ba;unfold aL at aF;obtain ⟨nm,km,rfl⟩:=cf aF;obtain ⟨d,hd,rfl⟩:=cf km;obtain ⟨ah,sy⟩:=cv.mp hd;have s8:=cH hd;have cK:told rows d.name=true:=by
     have:=MK.mp ac0 d.name (b1.mpr ⟨d,s8,rfl⟩);simpa using this
    obtain ⟨k,r,ak6,vE,iX,pd⟩:=ox cK;have tB:k < rows.length:=(cv.mp iX).1;have aed:wN rows d=if r.lo < d.least then some (d,k) else none:=by
     unfold wN;rw [vE,rA,iX,rA]
    rw [rM ah,DR,sy,aed] at dM;have a5:fT I h (.str d.name) (some (.int (k:Int))):=by rw [<- ak6];exact fT.k (k:=bT d.name) aj
    have OU:qs[k]? = some (qs[k]'(by rw [R.cw];exact tB)):=bc _;have YN:ms[k]? = some (ms[k]'(by rw [R.cN];exact tB)):=bc _;have Za:=sB _ _ (R.al k _ _ r OU YN iX).1;simp only [ht,dG,ly,k'];exists (fun ax aw=>aw=I/\ax=[~~~c,~~~p,~~~h,some (.str d.name),some (.int (k:Int))]),2
    .nofun;exact ⟨_,a5,cQ _ _ ⟨rfl,rfl⟩⟩
    rintro cz aw ⟨rfl,rfl⟩;subst ba;dsimp only;refine dW (decide (r.lo < d.least)) (fun Q a8=>?_) (fun ab=>?_) (fun ab=>?_)
    .nofun;exact ⟨_,aB.of (sB _ _ R.at_),_,cB (by rw [da,OU];rfl),_,rfl,_,c0.of Za,_,cB (j:=0) rfl,_,_,sB _ _ aq,jk _ _ _ (by ac_nf),c,n,ds,i,d,rfl,C.same sB,hd,fun a W=>⟨a,rfl,_,W.ahd T,_,rfl,_,rfl,a8⟩⟩
    .have ab:=of_decide_eq_true ab;rw [if_pos ab] at dM;replace dM:sX ds rows=some (d,k):=dM;rw [dM] at xV;cases xV
    .have ab:=of_decide_eq_false ab;rw [if_neg ab] at dM;simp only [iy];exact ⟨⟨_,_,rfl⟩,trivial,dM⟩
   .rintro σ I bl;ac_rfl
    obtain ⟨⟨x,y,rfl⟩,rfl,dM⟩:=bl;subst ba;rw [eF,a0,xv] at dM;exact q _ sB js
theorem amC:cu P base T 4 t.Dt t.yU kx (Vc t):=by
 refine cy (Qn T) fun GV=>?_;exists T.LW.ok wf,9
 obtain ⟨c,n,ds,p,qs,ms,rows,rfl,C,aY,R,J,bN,xV,q⟩:=h;obtain ⟨⟨e7,fj⟩,ao,wl,aG,aq,_,_⟩:=id C;refine ⟨_,(a6 (fU gi rfl (CZ rfl T.AP (ai (U 1) aE)) (lC (K:=K) (n:=2) rfl rfl (ft (Db (i:=2) wf.aG) (ft (Db (i:=3) wf.aG) lS))) (a6 (fU gi rfl (eA (cq fP (U 3) aR)) (Db (i:=4) wf.aG) (a6 (fU gi rfl (eA (cq fP (U 3) aR)) (Db (i:=5) wf.aG) (a6 (dK (hH.pt (pO (c_ qO (U 4) (U 5) (cC _)) (pC (oJ (cn GV ak T.U8 T.yX.bH T.FM (ai (U 0) (ai (U 4) (ai (U 5) aE)))))))) (a6 n1) eu)))))))),?_⟩;nofun;have Oy:∀ {x:Str},(∃ d ∈ ds,d.name=x)->∃ (i:Nat) (d:bj),ds[i]? = some d/\d.name=x/\iJ ds x=some d:=fun ⟨d,hd,e⟩=>by
  obtain ⟨i,ah⟩:=iN hd;exact ⟨i,d,ah,e,by rw [<- e];exact lI e7 ah⟩
 refine ⟨⟨_,aB.of R.at_⟩,?_⟩;refine d3.enum (xs:=qs.map V.ref) (fun i σ I=>(∃ x y z u,σ=[~~~c,~~~p,x,y,z,u])/\aS H I/\aP I/\vi n ds rows=((rows.drop i).zipIdx i).findSome? (bv n ds)) ?_ ?_ ?_ ?_
 .exact ⟨⟨_,_,_,_,rfl⟩,aS.refl _,bN,rfl⟩
 .rintro i σ I ah ⟨_,bR,_⟩;exact aB.of (bR _ _ R.at_)
 .rintro i v σ I ia aF ⟨⟨x,y,z,u,rfl⟩,bR,b9,dM⟩ n9;obtain ⟨qM,gW,rfl⟩:=cf aF;have ah:i < rows.length:=by rw [<- R.cw];exact (cv.mp gW).1
  have jj:rows[i]? = some rows[i]:=bc ah;have qZ:ms[i]? = some (ms[i]'(by rw [R.cN];exact ah)):=bc _;obtain ⟨v8,em⟩:=R.al i qM _ _ gW qZ jj;generalize ms[i]'(by rw [R.cN];exact ah)=m at qZ v8 em;have u5:=cH jj;have gR:=J.xw _ u5;have ml:=J.gj _ u5;rw [rM ah,List.zipIdx_cons,DR] at dM;generalize aoy:rows[i]=r at v8 em gR ml dM;have s2:aS I (upd I ia (.tup [.int i,.ref qM])):=bq n9;have sB:=bR.trans s2;have js:aP (upd I ia (.tup [.int i,.ref qM])):=b9.upd;refine Dq ?_;generalize upd I ia (.tup [.int i,.ref qM])=kv at s2 sB js ⊢;have QO:=sB _ _ v8;have Bw:=sB _ _ em;nofun;refine ⟨_,c0.of QO,_,cB (j:=2) rfl,m,rfl,⟨_,aB.of Bw⟩,?_⟩;generalize anW:((rows.drop (i + 1)).zipIdx (i + 1)).findSome? (bv n ds)=rest at dM;refine d3.list (xs:=aL r.mem) (fun j σ aw=>(∃ z u,σ=[~~~c,~~~p,some (.int (i:Int)),~~~qM,z,u])/\aw=kv/\bv n ds (r,i)=(r.mem.drop j).findSome? (fun x=>r.mem.findSome? fun y=>oq n ds i x y)) ?_ ?_ ?_ ?_
  .exact ⟨⟨_,_,rfl⟩,rfl,rfl⟩
  .rintro j σ aw aM ⟨_,rfl,_⟩;exact aB.of Bw
  .rintro j v σ aw aF bl;ac_rfl
   obtain ⟨⟨z,u,rfl⟩,rfl,gy⟩:=bl;subst ba;unfold aL at aF;obtain ⟨b3,m6,rfl⟩:=cf aF;obtain ⟨aM,alU⟩:=cv.mp m6;rw [rM aM,DR,alU] at gy;obtain ⟨i1,ew,AJ,K2,xP⟩:=Oy (gR b3 (cH m6));generalize am5:(r.mem.drop (j + 1)).findSome? (fun x=>r.mem.findSome? fun y=>oq n ds i x y)=apJ at gy;nofun;refine ⟨_,c0.of QO,_,cB (j:=2) rfl,m,rfl,⟨_,aB.of Bw⟩,?_⟩;refine d3.list (xs:=aL r.mem) (fun l σ bw=>(∃ u,σ=[~~~c,~~~p,some (.int (i:Int)),~~~qM,some (.str b3),u])/\bw=aw/\(r.mem.findSome? fun y=>oq n ds i b3 y)=(r.mem.drop l).findSome? (fun y=>oq n ds i b3 y)) ?_ ?_ ?_ ?_
   .exact ⟨⟨_,rfl⟩,rfl,rfl⟩
   .rintro l σ bw aA ⟨_,rfl,_⟩;exact aB.of Bw
   .rintro l v σ bw aF bl;ac_rfl
    obtain ⟨⟨u,rfl⟩,rfl,e4⟩:=bl;subst ba;unfold aL at aF;obtain ⟨fb,rE,rfl⟩:=cf aF;obtain ⟨aA,hn⟩:=cv.mp rE;rw [rM aA,DR,hn] at e4;obtain ⟨i2,e',hd2,oo,ak0⟩:=Oy (gR fb (cH rE));have A6:oO n ds b3 fb=mt n ew e':=by unfold oO;rw [xP,ak0]
    have akR:oq n ds i b3 fb=if b3 ≠ fb/\mt n ew e'=true then some (b3,fb,i) else none:=by unfold oq;rw [A6]
    rw [akR] at e4;simp only [ht,ly,k'];refine dW (decide (b3 ≠ fb) && mt n ew e') (fun Q a8=>?_) (fun ab=>?_) (fun ab=>?_)
    .nofun;by_cases bZ:b3=fb
     .rw [if_neg (by simp [bZ])];rw [decide_eq_false (fun z=>z bZ),mu] at a8;exact a8
     .rw [if_pos (by simpa using bZ)];rw [decide_eq_true bZ,lK] at a8;exact ⟨c,n,ds,i1,i2,ew,e',by rw [K2,oo],C.same sB,aY,AJ,hd2,js,_,rfl,a8⟩
    .rw [iE,decide_eq_true_eq] at ab;rw [if_pos ab] at e4;replace e4:(r.mem.findSome? fun y=>oq n ds i b3 y)=some (b3,fb,i):=e4;rw [e4] at gy;replace gy:bv n ds (r,i)=some (b3,fb,i):=gy;rw [gy] at dM;replace dM:vi n ds rows=some (b3,fb,i):=dM;rw [dM] at xV;cases xV
    .have ab:¬ (b3 ≠ fb/\mt n ew e'=true):=fun z=>by
      rw [decide_eq_true z.1,z.2] at ab;exact nomatch ab
     rw [if_neg ab] at e4;simp only [iy];exact ⟨⟨_,rfl⟩,trivial,e4⟩
   .rintro σ bw bl;ac_rfl
    obtain ⟨⟨u,rfl⟩,rfl,e4⟩:=bl;subst ba;rw [eF,xv] at e4;replace e4:(r.mem.findSome? fun y=>oq n ds i b3 y)=none:=e4;rw [e4] at gy;exact ⟨⟨_,_,rfl⟩,rfl,gy⟩
  .rintro σ aw bl;ac_rfl
   obtain ⟨⟨z,u,rfl⟩,rfl,gy⟩:=bl;subst ba;rw [eF,xv] at gy;replace gy:bv n ds (r,i)=none:=gy;rw [gy] at dM;exact ⟨⟨_,_,_,_,rfl⟩,sB,js,dM⟩
 .rintro σ I bl;ac_rfl
  obtain ⟨⟨x,y,z,u,rfl⟩,bR,b9,dM⟩:=bl;subst ba;rw [a0,R.cw,xv] at dM;exact q _ bR (fun _=>b9)
theorem aaf:cu P base T 4 t.FQ t.Jk LL (acI t):=by
 refine b_.forget (sp:=aak t) ?_ fun vs H Q E h=>?_
 .have GV:b_ P w K mg base dr 3 t.DM t.zV p_ (QK t):=Qn T;have abW:b_ P w K mg base dr 3 t.B5 t.CW p_ (P9 t):=af7 T;have pf:b_ P w K mg base dr 3 t.xn t.Dm ["self"] (Uu t):=(wu T).mono (by decide);have jS:b_ P w K mg base dr 3 t.r4 t.tm gL (QG t):=(sv T).mono (by decide);have IH:pk P w K mg base dr 3 (tG t) "ready" ["self"] (tK t):=yY (NT T) (by decide);have Hf:pk P w K mg base dr 3 (tG t) "fade" ["self"] (u_ t):=yY (Qd T) (by decide);exists T.I'.ok Hi,9
  obtain ⟨c,n,ds,gd,aU,f,s,rfl,C,aY,cL,hf,ay,fin,sin,nJ,kl,bN,q⟩:=h;obtain ⟨⟨e7,fj⟩,ao,wl,aG,aq,_,_⟩:=id C;refine ⟨_,(aW (b5 (i:=3) Hi.aG (ha (ai aR aE)))
   (aW (dS (gm ie Gk Wl IS (U 3) (ai (hl rfl (eA (U 1)) (gz (sc:=bz wX) rfl (by ac_nf)) (N:=BX) (sel:=[none,some 0]) (gA (M:=yS) (by ac_nf)) (fA.of (fun _ _ _ _=>(Db (i:=0) (er (N:=BX) (by ac_nf) rfl))) (fun _ _ _ _=>⟨_,ix,by walk_at "B"⟩) (fun _ _ _ _=>⟨_,(z2 (eX (U 1) T.hq T.mW jS ak T.mM .nil cx (ai (U 0) aE)) Hf ak cx),by walk_at "B"⟩))) aE)))
   (aW (dS (gm ie Gk Wl IS (U 3) (ai (hl rfl (eA (U 2)) (gz (sc:=bz wX) rfl (by ac_nf)) (N:=BX) (sel:=[none,some 0]) (gA (M:=yS) (by ac_nf)) (fA.of (fun _ _ _ _=>(Db (i:=0) (er (N:=BX) (by ac_nf) rfl))) (fun _ _ _ _=>⟨_,ix,by walk_at "B"⟩) (fun _ _ _ _=>⟨_,(z2 (eX (U 1) T.hq T.mW jS ak T.mM .nil cx (ai (U 0) aE)) IH ak cx),by walk_at "B"⟩))) aE)))
   (aW (fU gi rfl (eA (gc (U 0) T.hq T.wG pf ak T.wW .nil cx)) (SH (i:=4) Hi.aG rfl (m3 rfl)) (a6 (dK (c_ E_ (U 4) (U 2) (by with_unfolding_all rfl)) (a6 (dS (gm ie Gk Wl IS (U 3) (ai (hl rfl (eA (U 2)) (gz (sc:=bz wX) rfl (by ac_nf)) (N:=["other","crossing","one"]) (sel:=[none,some 0,some 4]) (gA (M:=yS) (by ac_nf)) (fA.of (fun _ _ _ _=>(Db (i:=0) (er (N:=["other","crossing","one"]) (by ac_nf) rfl))) (fun _ _ _ _=>⟨_,(sG (oJ (cn GV ak T.U8 T.yX.bH T.FM (ai (U 1) (ai (U 2) (ai (U 0) aE)))))),by walk_at "B"⟩) (fun _ _ _ _=>⟨_,(cn abW ak T.ai7 T.IN.bH T.akt (ai (U 1) (ai (U 2) (ai (U 0) aE)))),by walk_at "B"⟩))) aE)))) eu)))
   (a6 (cg (gD (RV rfl) rfl T.Mc Lu (ai (U 3) aE)))))))),?_⟩
  exists (fun ax I=>aS H I/\aP I/\∃ cZ,H cZ=none/\I cZ=some (.lst ([(0:Int)].map V.int))/\ax=[~~~c,~~~gd,~~~aU,~~~cZ,none]),3
  .nofun;exact ⟨by decide,fun cZ kr=>cL _ _ ⟨bq kr,bN.upd,cZ,kr,aX,rfl⟩⟩
  rintro f_ H1 ⟨s1,b9,cZ,kr,c9,rfl⟩;subst ba;exists (fun ax I=>aS H I/\aP I/\I cZ=some (.lst (([0] ++ f.map (sz ds)).map V.int))/\ax=[~~~c,~~~gd,~~~aU,~~~cZ,none]),5
  .nofun;refine ⟨.inl ⟨_,aB.of c9⟩,⟨_,aB.of (s1 _ _ hf)⟩,?_⟩;refine c6.lR (xs:=aL f) (zs:=(f.map (sz ds)).map V.int) (aB.of (s1 _ _ hf)) (by rw [eF];exact cP nJ (by decide)) (by rw [eF,a0,a0]) (fun j v z N aF aJ bf=>?_) (fun pl cO=>?_)
   .unfold aL at aF;obtain ⟨x,ag,rfl⟩:=cf aF;obtain ⟨y,bh,rfl⟩:=cf aJ;obtain ⟨fx,d7,rfl⟩:=cf bh;rw [ag] at d7;cases d7;obtain ⟨d,hd,rfl⟩:=fin x (cH ag);obtain ⟨i,ah⟩:=iN hd;have EL:sz ds d.name=mb d:=by unfold sz;rw [lI e7 ah];rfl
    rw [EL] at bf;nofun;refine ⟨Sub.name,_,_,s1 _ _ aq,jk _ _ _ (by ac_nf),c,n,ds,i,d,rfl,C.same s1,ah,fun a W=>?_⟩;obtain ⟨tT,UO,qF⟩:=id W;exact ⟨a,rfl,_,_,_,qF,⟨_,tT,rfl⟩,Al (by ac_nf),a,d,rfl,W,rfl,bf⟩
   .refine ⟨pl,rfl,_,(bq cO) _ _ c9,_,aX,?_,cQ _ _ ⟨(s1.trans (bq cO)).fY kr,(b9.upd).upd,by rw [aX,fS],rfl⟩⟩;rw [a0,a0,a0];exact cP (show _ <= 13 by show 1 + f.length <= 13;omega) (by decide)
  rintro cz aw ⟨s2,cI,dH,rfl⟩;subst ba;exists (fun ax I=>aS H I/\aP I/\I cZ=some (.lst (([0] ++ f.map (sz ds) ++ s.map (tw ds)).map V.int))/\ax=[~~~c,~~~gd,~~~aU,~~~cZ,none]),5
  .nofun;refine ⟨.inl ⟨_,aB.of dH⟩,⟨_,aB.of (s2 _ _ ay)⟩,?_⟩;refine c6.lR (xs:=aL s) (zs:=(s.map (tw ds)).map V.int) (aB.of (s2 _ _ ay)) (by rw [eF];exact cP kl (by decide)) (by rw [eF,a0,a0]) (fun j v z N aF aJ bf=>?_) (fun pl cO=>?_)
   .unfold aL at aF;obtain ⟨x,ag,rfl⟩:=cf aF;obtain ⟨y,bh,rfl⟩:=cf aJ;obtain ⟨fx,d7,rfl⟩:=cf bh;rw [ag] at d7;cases d7;obtain ⟨d,hd,rfl⟩:=sin x (cH ag);obtain ⟨i,ah⟩:=iN hd;have EL:tw ds d.name=mc d:=by unfold tw;rw [lI e7 ah];rfl
    rw [EL] at bf;nofun;refine ⟨Sub.name,_,_,s2 _ _ aq,jk _ _ _ (by ac_nf),c,n,ds,i,d,rfl,C.same s2,ah,fun a W=>?_⟩;obtain ⟨tT,UO,qF⟩:=id W;exact ⟨a,rfl,_,_,_,qF,⟨_,tT,rfl⟩,Al (by ac_nf),a,d,rfl,W,rfl,bf⟩
   .refine ⟨pl,rfl,_,(bq cO) _ _ dH,_,aX,?_,cQ _ _ ⟨(s2.trans (bq cO)).fY kr,(cI.upd).upd,by rw [aX,<- fS],rfl⟩⟩;rw [a0,a0,a0,ec,a0];exact cP (show _ <= 25 by show 1 + f.length + s.length <= 25;omega) (by decide)
  rintro gb bw ⟨s3,dA,hx,rfl⟩;subst ba;exists (fun ax I=>aS H I/\aP I/\I cZ=some (.lst ((lx n ds f s).map V.int))/\∃ dB,ax=[~~~c,~~~gd,~~~aU,~~~cZ,dB]),5
  .nofun;have sU:=C.same s3;refine ⟨_,_,s3 _ _ aq,jk _ _ _ (by ac_nf),c,n,ds,rfl,sU,fun dN jQ=>⟨dN,rfl,⟨_,aB.of aX⟩,?_⟩⟩;have sB:=s3.trans (bq (o:=.lst (aL (ds.map (·.name)))) jQ);have js:aP (upd bw dN (.lst (aL (ds.map (·.name))))):=dA.upd;have mV:(upd bw dN (.lst (aL (ds.map (·.name))))) dN=some (.lst (aL (ds.map (·.name)))):=aX;have N8:=(bq (o:=.lst (aL (ds.map (·.name)))) jQ) _ _ hx;have ab7:dN ≠ cZ:=fun z=>by rw [z,hx] at jQ;cases jQ
   generalize upd bw dN (.lst (aL (ds.map (·.name))))=kv at sB js mV N8 ⊢;refine d3.list (xs:=aL (ds.map (·.name))) (fun i σ I=>(∃ x,σ=[~~~c,~~~gd,~~~aU,~~~cZ,x])/\aS H I/\aP I/\I dN=some (.lst (aL (ds.map (·.name))))/\I cZ=some (.lst (([(0:Int)] ++ f.map (sz ds) ++ s.map (tw ds) ++ ((ds.map fun d:bj=>d.name).take i).flatMap (qx n ds s)).map V.int))/\(((ds.map fun d:bj=>d.name).take i).flatMap (qx n ds s)).length <= 12 * i) ?_ ?_ ?_ ?_
   .exact ⟨⟨_,rfl⟩,sB,js,mV,by rw [r5,Yb,ur];exact N8,by simp⟩
   .rintro i σ I ah bl;ac_rfl
    obtain ⟨_,_,_,e,_⟩:=bl;subst ba;exact aB.of e
   .rintro i v σ I aF bl;ac_rfl
    obtain ⟨⟨dB,rfl⟩,bR,d5,O0,g0,Bh⟩:=bl;subst ba;unfold aL at aF;obtain ⟨nm,km,rfl⟩:=cf aF;have aeV:=km;obtain ⟨d,hd,rfl⟩:=cf aeV;have anZ:i < 12:=by have:=(cv.mp hd).1;omega
    have nW:=lI e7 hd;simp only [ht,ly,k'];refine dW (!decide (d.name ∈ s)) (fun Q a8=>?_) (fun ab=>?_) (fun ab=>?_)
    .nofun;refine ⟨_,.inl (aB.of (bR _ _ ay)),rfl,zn s,?_⟩;rw [BY];exact a8
    .have ab:d.name ∉ s:=by simpa using ab
     have r1:qx n ds s d.name=(s.filter fun y=>oO n ds d.name y).map (uK ds d.name):=by unfold qx;rw [if_neg ab]
     nofun;refine ⟨.inl ⟨_,aB.of g0⟩,⟨_,aB.of (bR _ _ ay)⟩,?_⟩;refine c6.sj (xs:=aL s) (ss:=s.map fun y=>if oO n ds d.name y=true then some (V.int (uK ds d.name y)) else none) (aB.of (bR _ _ ay)) (by rw [eF];exact cP kl (by decide)) (by rw [eF,a0]) (fun l v o ys N aF aQ bf=>?_) (fun pl cO=>?_)
     .unfold aL at aF;obtain ⟨fb,rE,rfl⟩:=cf aF;obtain ⟨fx,d7,rfl⟩:=cf aQ;rw [rE] at d7;cases d7;obtain ⟨e,he,rfl⟩:=sin fb (cH rE);obtain ⟨j,aM⟩:=iN he;have ye:=lI e7 aM;have Dg:oO n ds d.name e.name=mt n d e:=by unfold oO;rw [nW,ye]
      have yK:uK ds d.name e.name=if d.off - e.near > 0 then d.off - e.near else 0:=by unfold uK;rw [nW,ye]
      rw [Dg,yK] at bf;nofun;refine ⟨Sub.name,c,n,ds,i,j,d,e,rfl,C.same bR,aY,hd,aM,d5,_,rfl,?_⟩;cases A6:mt n d e with
      | true=>
       rw [if_pos rfl];rw [A6,if_pos rfl] at bf;exact ⟨c,n,ds,i,j,d,e,rfl,C.same bR,hd,aM,bf⟩
      | false=>
       rw [if_neg (by decide)];rw [A6,if_neg (by decide)] at bf;simpa using bf
     .rw [MX (fun y=>oO n ds d.name y) (uK ds d.name),<- r1];have pM:(qx n ds s d.name).length <= 12:=by rw [r1,a0];exact cP (B8 ..) kl
      refine ⟨pl,rfl,_,(bq cO) _ _ g0,_,aX,?_,⟨_,rfl⟩,(bR.trans (bq cO)).fY kr,(d5.upd).upd,by rw [aH ab7];exact (bq cO) _ _ O0,?_,?_⟩
      .rw [a0,a0,ec,ec,ec,a0,a0];exact cP (show _ <= 500 by show 1 + f.length + s.length + _ + _ <= 500;omega) (by decide)
      .rw [aX,j_ km,CG,<- fS];simp
      .rw [j_ km,CG,ec,wb,Yb,ur];omega
    .have ab:d.name ∈ s:=by simpa using ab
     have r1:qx n ds s d.name=[]:=by unfold qx;rw [if_pos ab]
     simp only [iy];refine ⟨⟨_,rfl⟩,bR,d5,O0,?_,?_⟩
     .rw [j_ km,CG,wb,r1];simpa using g0
     .rw [j_ km,CG,ec,wb,r1];show _ + 0 <= _;omega
   .rintro σ I bl;ac_rfl
    obtain ⟨⟨dB,rfl⟩,bR,d5,_,g0,_⟩:=bl;subst ba;rw [eF,ig] at g0;exact cQ _ _ ⟨bR,d5,g0,_,rfl⟩
  rintro kT cS ⟨s4,d5,g0,dB,rfl⟩;subst ba;nofun;obtain ⟨oS,af,aj⟩:=Hk (lx n ds f s) (by unfold lx;simp);exact ⟨_,aB.of g0,oS,af,aj,q oS cS s4 ⟨af,aj⟩⟩
 .obtain ⟨c,n,ds,gd,aU,f,s,rfl,C,aY,cL,hf,ay,fin,sin,nJ,kl,bN,q⟩:=h;exact ⟨bN,c,n,ds,gd,aU,f,s,rfl,C,aY,cL,hf,ay,fin,sin,nJ,kl,bN,fun v I bR aF=>⟨bR,q v aF⟩⟩
noncomputable abbrev pa:List Str:=[ae "crossing",ae "many",ae "leasts",ae "mosts",ae "members",ae "sorts",ae "homes",ae "changes"]
noncomputable def kN (c:Addr) (k:Nat) (le mo c4 c1 aQ ch:Addr):List (Str × V):=[(ae "crossing",V.ref c),(ae "many",V.int k),(ae "leasts",V.ref le),(ae "mosts",V.ref mo),(ae "members",V.ref c4),(ae "sorts",V.ref c1),(ae "homes",V.ref aQ),(ae "changes",V.ref ch)]
theorem qG (c:Addr) (k:Nat) (le mo c4 c1 aQ ch:Addr):(kN c k le mo c4 c1 aQ ch).map (·.1)=pa:=rfl
noncomputable def dO (ds:List bj) (r:ST):Str:=((r.mem.head?.bind (iJ ds)).map h1).getD (ae "")
noncomputable def stK (i j:Nat):List Key:=[qE (i:Int),qE (j:Int)]
def kb (n:Int) (ds:List bj) (rows:List ST) (i j:Nat) (kvs:List (List Key × V)):Prop:=kvs.length <= 6 * i + j/\∀ (a b:Nat) (r s:ST),rows[a]? = some r->rows[b]? = some s->a ≠ b->a < i\/(a=i/\b < j)->∃ v,cY kvs (stK a b)=some (.int v)/\sh (lx n ds r.mem s.mem) v
section
variable (P:Program) (w:World)
def gp (t:bM) (H:au) (a c:Addr) (n:Int) (ds:List bj) (rows:List ST):Prop:=∃ ao le mo c4 c1 aQ ch ms kvs,H a=some (.ins t.fq ao (kN c rows.length le mo c4 c1 aQ ch))/\fh t H c n ds/\H le=some (.lst (rows.map fun r=>V.int r.lo))/\H mo=some (.lst (rows.map fun r=>V.int r.ah))/\lH H c4 ms (rows.map (·.mem))/\H c1=some (.lst (aL (rows.map (dO ds))))/\H aQ=some (.bx (gZ (rows.map (·.mem))))/\iI P w H ch kvs/\kb n ds rows rows.length 0 kvs
def Ts (t:bM):bP:=fun vs H Q _=>∃ a ao c n ds p qs ms rows,vs=[.ref a,.ref c,.ref p]/\H a=some (.ins t.fq ao [])/\fh t H c n ds/\0 < n/\ya ds/\iG H p qs ms rows/\o6 ds rows/\(∀ r ∈ rows,r.mem ≠ [])/\aP H /\
 ∀ I,ad a H I->aP I->gp P w t I a c n ds rows->Q .bO I
end
theorem alq (h:stK a b=stK i j):a=i/\b=j:=by
 unfold stK at h;simp at h;omega
theorem kb.nil (n:Int) (ds:List bj) (rows:List ST):kb n ds rows 0 0 []:=⟨fC _,fun a b r s _ _ _ h=>by omega⟩
theorem kb.skip {rows:List ST} (h:kb n ds rows i i kvs):kb n ds rows i (i + 1) kvs:=⟨by have:=h.1;omega,fun a b r s ak ay nq av=>h.2 a b r s ak ay nq (by omega)⟩
theorem kb.next {rows:List ST} (aA:rows.length <= 6) (h:kb n ds rows i rows.length kvs):kb n ds rows (i + 1) 0 kvs:=⟨by have:=h.1;omega,fun a b r s ak ay nq av=>h.2 a b r s ak ay nq (by
 have:=(cv.mp ay).1
 omega)⟩
theorem Y5 (kvs:List (List Key × V)) (k:List Key) (v:V):(eb kvs k v).length <= kvs.length + 1:=by
 unfold eb;split
 .rw [a0];omega
 .rw [ec];exact bW _
theorem kb.put {rows:List ST} (h:kb n ds rows i j kvs) (ak:rows[i]? = some r) (ay:rows[j]? = some s) (aF:sh (lx n ds r.mem s.mem) v):kb n ds rows i (j + 1) (eb kvs (stK i j) (.int v)):=by
 refine ⟨by have:=h.1;have:=Y5 kvs (stK i j) (.int v);omega,fun a b cV s' eg j3 nq av=>?_⟩;rw [VG];by_cases c:stK a b=stK i j
 .rw [if_pos c];obtain ⟨rfl,rfl⟩:=alq c;rw [ak] at eg;rw [ay] at j3;cases eg;cases j3;exact ⟨v,rfl,aF⟩
 .rw [if_neg c];exact h.2 a b cV s' eg j3 nq (by
   rcases av with z | ⟨ez,d9⟩
   .exact .inl z
   .by_cases z:b=j
    .exact absurd (by rw [ez,z]) c
    .exact .inr ⟨ez,by omega⟩)
theorem iG.sN {a p C ao:Addr} {rows:List ST} (h:iG H p qs ms rows) (s:ad a H I) (aO:H a=some (.ins C ao [])):iG I p qs ms rows:=by
 refine ⟨s _ _ (b0 h.at_ aO (by intro z;cases z)) h.at_,h.cw,h.cN,fun i q m r x y z=>?_⟩;obtain ⟨aq,aD⟩:=h.al i q m r x y z;exact ⟨s _ _ (b0 aq aO (by intro z;cases z)) aq,s _ _ (b0 aD aO (by intro z;cases z)) aD⟩
theorem GA {H:au} {p b C D ao jN:Addr} {x:Str × V} {aK:List (Str × V)} (ar:H p=some (.ins C ao [])) (ab:H b=some (.ins D jN (x :: aK))):b ≠ p:=fun z=>by
 subst z;rw [ar] at ab;cases ab
theorem WX {t:bM} {H I:au} {p a C ao:Addr} {d:bj} (ar:H p=some (.ins C ao [])) (jR:ad p H I) (h:eB t H a d):eB t I a d:=by
 obtain ⟨af,jN,e⟩:=h;exact ⟨af,jN,jR _ _ (GA ar e) e⟩
theorem Gz {t:bM} {H I:au} {p c C ao:Addr} {n:Int} {ds:List bj} (ar:H p=some (.ins C ao [])) (jR:ad p H I) (h:fh t H c n ds):fh t I c n ds:=by
 obtain ⟨h0,jN,wl,aG,aq,⟨as,c9,dH,hx⟩,bL⟩:=h;exact ⟨h0,jN,wl,aG,jR _ _ (GA ar aq) aq,⟨as,jR _ _ (b0 c9 ar (by intro z;cases z)) c9,dH,fun i a d af aj=>WX ar jR (hx i a d af aj)⟩,jR _ _ (b0 bL ar (by intro z;cases z)) bL⟩
theorem lH.upd {b p:Addr} (h:lH H p ms di) (ab:H b=some u) (br:∀ xs,u ≠ .lst xs):lH (upd H b o) p ms di:=by
 refine ⟨by rw [aH (b0 h.at_ ab (fun z=>br _ z.symm))];exact h.at_,h.ln,fun i m x a c=>?_⟩;have e:=h.al i m x a c;rw [aH (b0 e ab (fun z=>br _ z.symm))];exact e
section
variable {w:World} {K:a_} {mg:Str->Option Value} {t:bM} {H:au} {a c ao le mo c4 c1 aQ ch:Addr} {k:Nat}
theorem Fj (T:Txt w K mg t) (e:H a=some (.ins t.fq ao (kN c k le mo c4 c1 aQ ch))):fQ K H a (ae "many") (.int k):=⟨_,ao,_,e,T.jK,T.V_,gr pa 1 (qG ..) (by ac_nf) rfl⟩
theorem Fb (T:Txt w K mg t) (e:H a=some (.ins t.fq ao (kN c k le mo c4 c1 aQ ch))):fQ K H a (ae "members") (.ref c4):=⟨_,ao,_,e,T.jK,T.EE,gr pa 4 (qG ..) (by ac_nf) rfl⟩
theorem S0 (T:Txt w K mg t) (e:H a=some (.ins t.fq ao (kN c k le mo c4 c1 aQ ch))):fQ K H a (ae "changes") (.ref ch):=⟨_,ao,_,e,T.jK,T.Fk,gr pa 7 (qG ..) (by ac_nf) rfl⟩
end
theorem aaU:cu P base T 5 t.vF t.BZ C6 (Ts P w t):=by
 refine cy (Ti T) fun A0=>cy (KX T) fun xY=>cy (aaf T) fun aaD=>?_;exists T.V2.ok HW,9
 obtain ⟨a,ao,c,n,ds,p,qs,ms,rows,rfl,aO,C,aY,cL,R,J,bX,bN,q⟩:=h;have br:=hh ak;have e7:=C.1.1;have iU:(qs.map V.ref).length=rows.length:=by rw [a0,R.cw]
 have od:(qs.map V.ref).length <= sizeLine:=by rw [iU];exact cP J.ln (by decide)
 refine ⟨_,(aW (e6 (U 0) (U 1) rfl)
   (aW (e6 (U 0) (gD h4 rfl T.hR hW (ai (U 2) aE)) rfl)
   (aW (e6 (U 0) (hl rfl (eA (U 2)) (gz (sc:=bz uH) rfl (by ac_nf)) (N:=iD) (sel:=[none,none,none]) (gA (M:=xh) (by ac_nf)) (fA.of (fun _ _ _ _=>(lC (K:=K) (n:=3) rfl rfl (ft (Db (i:=0) (er (N:=iD) (by ac_nf) rfl)) (ft (Db (i:=1) (er (N:=iD) (by ac_nf) rfl)) (ft (Db (i:=2) (er (N:=iD) (by ac_nf) rfl)) lS))))) (fun _ _ _ _=>⟨_,ix,by walk_at "B"⟩) (fun _ _ _ _=>⟨_,(U 0),by walk_at "B"⟩))) rfl)
   (aW (e6 (U 0) (hl rfl (eA (U 2)) (gz (sc:=bz uH) rfl (by ac_nf)) (N:=iD) (sel:=[none,none,none]) (gA (M:=xh) (by ac_nf)) (fA.of (fun _ _ _ _=>(lC (K:=K) (n:=3) rfl rfl (ft (Db (i:=0) (er (N:=iD) (by ac_nf) rfl)) (ft (Db (i:=1) (er (N:=iD) (by ac_nf) rfl)) (ft (Db (i:=2) (er (N:=iD) (by ac_nf) rfl)) lS))))) (fun _ _ _ _=>⟨_,ix,by walk_at "B"⟩) (fun _ _ _ _=>⟨_,(U 1),by walk_at "B"⟩))) rfl)
   (aW (e6 (U 0) (hl rfl (eA (U 2)) (gz (sc:=bz uH) rfl (by ac_nf)) (N:=iD) (sel:=[none,none,none]) (gA (M:=xh) (by ac_nf)) (fA.of (fun _ _ _ _=>(lC (K:=K) (n:=3) rfl rfl (ft (Db (i:=0) (er (N:=iD) (by ac_nf) rfl)) (ft (Db (i:=1) (er (N:=iD) (by ac_nf) rfl)) (ft (Db (i:=2) (er (N:=iD) (by ac_nf) rfl)) lS))))) (fun _ _ _ _=>⟨_,ix,by walk_at "B"⟩) (fun _ _ _ _=>⟨_,(U 2),by walk_at "B"⟩))) rfl)
   (aW (e6 (U 0) (hl rfl (eA (U 2)) (gz (sc:=bz uH) rfl (by ac_nf)) (N:=Bk) (sel:=[none,none,none,some 1]) (gA (M:=xh) (by ac_nf)) (fA.of (fun _ _ _ _=>(lC (K:=K) (n:=3) rfl rfl (ft (Db (i:=0) (er (N:=Bk) (by ac_nf) rfl)) (ft (Db (i:=1) (er (N:=Bk) (by ac_nf) rfl)) (ft (Db (i:=2) (er (N:=Bk) (by ac_nf) rfl)) lS))))) (fun _ _ _ _=>⟨_,ix,by walk_at "B"⟩) (fun _ _ _ _=>⟨_,(cn A0 ak T.E4 T.xo.bH T.IX (ai (U 3) (ai (cq lc (U 2) aR) aE))),by walk_at "B"⟩))) rfl)
   (aW (e6 (U 0) (cn xY ak T.L7 T.Tk.bH T.Hc (ai (bB (U 0) rfl) aE)) rfl)
   (aW (e6 (U 0) YV rfl)
   (a6 (fU gi rfl (nY rfl T.oB (ai (bB (U 0) rfl) aE)) (Db (i:=3) HW.aG) (a6 (fU gi rfl (nY rfl T.oB (ai (bB (U 0) rfl) aE)) (Db (i:=4) HW.aG) (a6 (dK (c_ qO (U 3) (U 4) (cC _)) (a6 (agl br (bB (U 0) rfl) (ls (ai (U 3) (ai (U 4) aE))) (cn aaD ak T.ZJ T.I'.bH T.ajc (ai (U 1) (ai (cq lc (bB (U 0) rfl) (U 3)) (ai (cq lc (bB (U 0) rfl) (U 4)) aE)))) rfl)) eu)))))))))))))),?_⟩
 exists (fun ax I=>ad a H I/\aP I/\I a=some (.ins t.fq ao [(ae "crossing",V.ref c)])/\ax=[~~~a,~~~c,~~~p,none,none]),5
 .nofun;exact ⟨_,_,_,aO,T.jK,T.P_,by decide,cQ _ _ ⟨fun b u ab e=>by rw [aH ab];exact e,bN.upd,aX,rfl⟩⟩
 rintro f_ H1 ⟨b3,b9,a1,rfl⟩;have jW:=R.sN b3 aO;subst ba;exists (fun ax I=>ad a H I/\aP I/\I a=some (.ins t.fq ao [(ae "crossing",V.ref c),(ae "many",V.int (rows.length:Int))])/\ax=[~~~a,~~~c,~~~p,none,none]),5
 .nofun;refine ⟨_,.inl (aB.of jW.at_),_,_,_,a1,T.jK,T.V_,(show (1:Nat) < 1000 by decide),?_⟩;rw [iU,show c2 (ae "many") (V.int (rows.length:Int)) [(ae "crossing",V.ref c)]=[(ae "crossing",V.ref c),(ae "many",V.int (rows.length:Int))] from gh [ae "crossing"] rfl (by ac_nf)];exact cQ _ _ ⟨fun b u ab e=>by rw [aH ab];exact b3 _ _ ab e,b9.upd,aX,rfl⟩
 rintro cz aw ⟨fb,cI,a2,rfl⟩;have eQ:=R.sN fb aO;subst ba;exists (fun ax I=>ad a H I/\aP I/\∃ le,I a=some (.ins t.fq ao [(ae "crossing",V.ref c),(ae "many",V.int (rows.length:Int)),(ae "leasts",V.ref le)])/\I le=some (.lst (rows.map fun r=>V.int r.lo))/\ax=[~~~a,~~~c,~~~p,none,none]),5
 .nofun;refine ⟨⟨_,aB.of eQ.at_⟩,?_⟩;refine c6.lR (xs:=qs.map V.ref) (zs:=rows.map fun r=>V.int r.lo) (aB.of eQ.at_) od (by rw [iU,a0]) (fun j v z N aF aJ bf=>?_) (fun pl cO=>?_)
  .obtain ⟨j2,eI,rfl⟩:=cf aF;have aM:j < rows.length:=by rw [<- R.cw];exact (cv.mp eI).1
   have kH:ms[j]? = some (ms[j]'(by rw [R.cN];exact aM)):=bc _;have hy:rows[j]? = some rows[j]:=bc aM;obtain ⟨e,em⟩:=eQ.al j j2 _ _ eI kH hy;obtain ⟨r,eg,rfl⟩:=cf aJ;rw [hy] at eg;cases eg;nofun;exact ⟨_,c0.of e,rfl,_,_,rfl,_,_,rfl,_,_,rfl,rfl,Sub.uw,bf⟩
  .have pR:pl ≠ a:=fun z=>by rw [z,a2] at cO;cases cO
   refine ⟨_,_,_,(bq cO) _ _ a2,T.jK,T.ML,(show (2:Nat) < 1000 by decide),?_⟩;rw [show c2 (ae "leasts") (V.ref pl) [(ae "crossing",V.ref c),(ae "many",V.int (rows.length:Int))]=[(ae "crossing",V.ref c),(ae "many",V.int (rows.length:Int)),(ae "leasts",V.ref pl)] from gh [ae "crossing",ae "many"] rfl (by ac_nf)];exact cQ _ _ ⟨fun b u ab e=>by rw [aH ab];exact (bq cO) _ _ (fb _ _ ab e),(cI.upd).upd,pl,aX,by rw [aH pR];exact aX,rfl⟩
 rintro gb bw ⟨gq,dA,le,fX,en,rfl⟩;have hle:le ≠ a:=b0 en fX (by intro z;cases z);have l2:=R.sN gq aO;subst ba;exists (fun ax I=>ad a H I/\aP I/\∃ mo,I a=some (.ins t.fq ao [(ae "crossing",V.ref c),(ae "many",V.int (rows.length:Int)),(ae "leasts",V.ref le),(ae "mosts",V.ref mo)])/\I le=some (.lst (rows.map fun r=>V.int r.lo))/\I mo=some (.lst (rows.map fun r=>V.int r.ah))/\ax=[~~~a,~~~c,~~~p,none,none]),5
 .nofun;refine ⟨⟨_,aB.of l2.at_⟩,?_⟩;refine c6.lR (xs:=qs.map V.ref) (zs:=rows.map fun r=>V.int r.ah) (aB.of l2.at_) od (by rw [iU,a0]) (fun j v z N aF aJ bf=>?_) (fun pl cO=>?_)
  .obtain ⟨j2,eI,rfl⟩:=cf aF;have aM:j < rows.length:=by rw [<- R.cw];exact (cv.mp eI).1
   have kH:ms[j]? = some (ms[j]'(by rw [R.cN];exact aM)):=bc _;have hy:rows[j]? = some rows[j]:=bc aM;obtain ⟨e,em⟩:=l2.al j j2 _ _ eI kH hy;obtain ⟨r,eg,rfl⟩:=cf aJ;rw [hy] at eg;cases eg;nofun;exact ⟨_,c0.of e,rfl,_,_,rfl,_,_,rfl,_,_,rfl,rfl,Sub.uw,bf⟩
  .have pR:pl ≠ a:=fun z=>by rw [z,fX] at cO;cases cO
   refine ⟨_,_,_,(bq cO) _ _ fX,T.jK,T.Um,(show (3:Nat) < 1000 by decide),?_⟩;rw [show c2 (ae "mosts") (V.ref pl) [(ae "crossing",V.ref c),(ae "many",V.int (rows.length:Int)),(ae "leasts",V.ref le)]=[(ae "crossing",V.ref c),(ae "many",V.int (rows.length:Int)),(ae "leasts",V.ref le),(ae "mosts",V.ref pl)] from gh [ae "crossing",ae "many",ae "leasts"] rfl (by ac_nf)];exact cQ _ _ ⟨fun b u ab e=>by rw [aH ab];exact (bq cO) _ _ (gq _ _ ab e),(dA.upd).upd,pl,aX,by rw [aH hle];exact (bq cO) _ _ en,by rw [aH pR];exact aX,rfl⟩
 rintro kT cS ⟨dB,d5,mo,oV,f4,uM,rfl⟩;have rF:mo ≠ a:=b0 uM oV (by intro z;cases z);have mE:=R.sN dB aO;subst ba;exists (fun ax I=>ad a H I/\aP I/\∃ c4,I a=some (.ins t.fq ao [(ae "crossing",V.ref c),(ae "many",V.int (rows.length:Int)),(ae "leasts",V.ref le),(ae "mosts",V.ref mo),(ae "members",V.ref c4)])/\I le=some (.lst (rows.map fun r=>V.int r.lo))/\I mo=some (.lst (rows.map fun r=>V.int r.ah))/\I c4=some (.lst (ms.map V.ref))/\ax=[~~~a,~~~c,~~~p,none,none]),5
 .nofun;refine ⟨⟨_,aB.of mE.at_⟩,?_⟩;refine c6.lR (xs:=qs.map V.ref) (zs:=ms.map V.ref) (aB.of mE.at_) od (by rw [iU,a0,R.cN]) (fun j v z N aF aJ bf=>?_) (fun pl cO=>?_)
  .obtain ⟨j2,eI,rfl⟩:=cf aF;have aM:j < rows.length:=by rw [<- R.cw];exact (cv.mp eI).1
   have kH:ms[j]? = some (ms[j]'(by rw [R.cN];exact aM)):=bc _;have hy:rows[j]? = some rows[j]:=bc aM;obtain ⟨e,em⟩:=mE.al j j2 _ _ eI kH hy;obtain ⟨dt,r9,rfl⟩:=cf aJ;rw [kH] at r9;cases r9;nofun;exact ⟨_,c0.of e,rfl,_,_,rfl,_,_,rfl,_,_,rfl,rfl,Sub.uw,bf⟩
  .have pR:pl ≠ a:=fun z=>by rw [z,oV] at cO;cases cO
   refine ⟨_,_,_,(bq cO) _ _ oV,T.jK,T.EE,(show (4:Nat) < 1000 by decide),?_⟩;rw [show c2 (ae "members") (V.ref pl) [(ae "crossing",V.ref c),(ae "many",V.int (rows.length:Int)),(ae "leasts",V.ref le),(ae "mosts",V.ref mo)]=[(ae "crossing",V.ref c),(ae "many",V.int (rows.length:Int)),(ae "leasts",V.ref le),(ae "mosts",V.ref mo),(ae "members",V.ref pl)] from gh [ae "crossing",ae "many",ae "leasts",ae "mosts"] rfl (by ac_nf)];exact cQ _ _ ⟨fun b u ab e=>by rw [aH ab];exact (bq cO) _ _ (dB _ _ ab e),(d5.upd).upd,pl,aX,by rw [aH hle];exact (bq cO) _ _ f4,by rw [aH rF];exact (bq cO) _ _ uM,by rw [aH pR];exact aX,rfl⟩
 rintro rO d1 ⟨eK,jC,c4,vy,eW,UK,eM,rfl⟩;have qv:c4 ≠ a:=b0 eM vy (by intro z;cases z);have El:=Gz aO eK C;have qq:=R.sN eK aO;subst ba;exists (fun ax I=>ad a H I/\aP I/\∃ c1,I a=some (.ins t.fq ao [(ae "crossing",V.ref c),(ae "many",V.int (rows.length:Int)),(ae "leasts",V.ref le),(ae "mosts",V.ref mo),(ae "members",V.ref c4),(ae "sorts",V.ref c1)])/\I le=some (.lst (rows.map fun r=>V.int r.lo))/\I mo=some (.lst (rows.map fun r=>V.int r.ah))/\I c4=some (.lst (ms.map V.ref))/\I c1=some (.lst (aL (rows.map (dO ds))))/\ax=[~~~a,~~~c,~~~p,none,none]),5
 .nofun;refine ⟨⟨_,aB.of qq.at_⟩,?_⟩;refine c6.lR (xs:=qs.map V.ref) (zs:=aL (rows.map (dO ds))) (aB.of qq.at_) od (by rw [iU,eF,a0]) (fun j v z N aF aJ bf=>?_) (fun pl cO=>?_)
  .obtain ⟨j2,eI,rfl⟩:=cf aF;have aM:j < rows.length:=by rw [<- R.cw];exact (cv.mp eI).1
   have kH:ms[j]? = some (ms[j]'(by rw [R.cN];exact aM)):=bc _;have hy:rows[j]? = some rows[j]:=bc aM;obtain ⟨e,em⟩:=qq.al j j2 _ _ eI kH hy;unfold aL at aJ;obtain ⟨y,bh,rfl⟩:=cf aJ;obtain ⟨r,eg,rfl⟩:=cf bh;rw [hy] at eg;cases eg;obtain ⟨nm,anL,kX⟩:=tO (bX _ (cH hy));obtain ⟨d,hd,Sf⟩:=J.xw _ (cH hy) nm (by rw [kX];exact lp ..);obtain ⟨i,ah⟩:=iN hd;have afO:dO ds rows[j]=h1 d:=by
    unfold dO;rw [kX];show ((iJ ds nm).map h1).getD _=_;rw [<- Sf,lI e7 ah];rfl
   rw [afO] at bf;rw [kX] at em;nofun;exact ⟨_,c0.of e,rfl,_,_,rfl,_,_,rfl,_,_,rfl,rfl,Sub.uw,_,rfl,_,aB.of em,_,cB (j:=0) rfl,c,n,ds,i,d,by rw [Sf],El,ah,(cL d hd).2.1,bf⟩
  .have pR:pl ≠ a:=fun z=>by rw [z,vy] at cO;cases cO
   refine ⟨_,_,_,(bq cO) _ _ vy,T.jK,T.U5,(show (5:Nat) < 1000 by decide),?_⟩;rw [show c2 (ae "sorts") (V.ref pl) [(ae "crossing",V.ref c),(ae "many",V.int (rows.length:Int)),(ae "leasts",V.ref le),(ae "mosts",V.ref mo),(ae "members",V.ref c4)]=[(ae "crossing",V.ref c),(ae "many",V.int (rows.length:Int)),(ae "leasts",V.ref le),(ae "mosts",V.ref mo),(ae "members",V.ref c4),(ae "sorts",V.ref pl)] from gh [ae "crossing",ae "many",ae "leasts",ae "mosts",ae "members"] rfl (by ac_nf)];exact cQ _ _ ⟨fun b u ab e=>by rw [aH ab];exact (bq cO) _ _ (eK _ _ ab e),(jC.upd).upd,pl,aX,by rw [aH hle];exact (bq cO) _ _ eW,by rw [aH rF];exact (bq cO) _ _ UK,by rw [aH qv];exact (bq cO) _ _ eM,by rw [aH pR];exact aX,rfl⟩
 rintro mX fL ⟨eL,kk,c1,p2,nk,O4,il,PF,rfl⟩;have qk:c1 ≠ a:=b0 PF p2 (by intro z;cases z);have A4:=R.sN eL aO;have Vz:lH fL c4 ms (rows.map (·.mem)):=⟨il,by rw [R.cN,a0],fun i m x hm ag=>by
  obtain ⟨r,eg,rfl⟩:=cf ag;have gW:qs[i]? = some (qs[i]'(by rw [R.cw];exact (cv.mp eg).1)):=bc _;exact (A4.al i _ m r gW hm eg).2⟩
 subst ba;exists (fun ax I=>ad a H I/\aP I/\∃ aQ,I a=some (.ins t.fq ao [(ae "crossing",V.ref c),(ae "many",V.int (rows.length:Int)),(ae "leasts",V.ref le),(ae "mosts",V.ref mo),(ae "members",V.ref c4),(ae "sorts",V.ref c1),(ae "homes",V.ref aQ)])/\I le=some (.lst (rows.map fun r=>V.int r.lo))/\I mo=some (.lst (rows.map fun r=>V.int r.ah))/\lH I c4 ms (rows.map (·.mem))/\I c1=some (.lst (aL (rows.map (dO ds))))/\I aQ=some (.bx (gZ (rows.map (·.mem))))/\ax=[~~~a,~~~c,~~~p,none,none]),5
 .nofun;refine ⟨_,⟨_,ao,_,p2,T.jK,T.EE,gr [ae "crossing",ae "many",ae "leasts",ae "mosts",ae "members",ae "sorts"] 4 rfl (by ac_nf) rfl⟩,c4,ms,rows.map (·.mem),rfl,Vz,by rw [a0];exact J.ln,fun x ag=>?_,fun h H1 s1 Zw de af=>?_⟩
  .obtain ⟨r,eg,rfl⟩:=b1.mp ag;exact J.gj r eg
  .have Fh:h ≠ a:=b0 af (s1 _ _ p2) (by intro z;cases z);refine ⟨_,_,_,s1 _ _ p2,T.jK,T.lm,(show (6:Nat) < 1000 by decide),?_⟩;rw [show c2 (ae "homes") (V.ref h) [(ae "crossing",V.ref c),(ae "many",V.int (rows.length:Int)),(ae "leasts",V.ref le),(ae "mosts",V.ref mo),(ae "members",V.ref c4),(ae "sorts",V.ref c1)]=[(ae "crossing",V.ref c),(ae "many",V.int (rows.length:Int)),(ae "leasts",V.ref le),(ae "mosts",V.ref mo),(ae "members",V.ref c4),(ae "sorts",V.ref c1),(ae "homes",V.ref h)] from gh [ae "crossing",ae "many",ae "leasts",ae "mosts",ae "members",ae "sorts"] rfl (by ac_nf)];exact cQ _ _ ⟨fun b u ab e=>by rw [aH ab];exact s1 _ _ (eL _ _ ab e),(Zw kk).upd,h,aX,by rw [aH hle];exact s1 _ _ nk,by rw [aH rF];exact s1 _ _ O4,(Vz.same s1).upd (s1 _ _ p2) (by intro xs z;cases z),by rw [aH qk];exact s1 _ _ PF,by rw [aH Fh];exact af,rfl⟩
 rintro kn g9 ⟨d2,lL,aQ,pn,lh,HQ,CM,sq,FW,rfl⟩;subst ba;exists (fun ax I=>ad a H I/\aP I/\∃ ch,H ch=none/\I a=some (.ins t.fq ao (kN c rows.length le mo c4 c1 aQ ch))/\I le=some (.lst (rows.map fun r=>V.int r.lo))/\I mo=some (.lst (rows.map fun r=>V.int r.ah))/\lH I c4 ms (rows.map (·.mem))/\I c1=some (.lst (aL (rows.map (dO ds))))/\I aQ=some (.bx (gZ (rows.map (·.mem))))/\iI P w I ch []/\(ch ≠ a/\ch ≠ le/\ch ≠ mo/\ch ≠ c4/\ch ≠ c1/\ch ≠ aQ/\ch ∉ ms)/\ax=[~~~a,~~~c,~~~p,none,none]),5
 .nofun;intro ch o hD akU;have xR:ch ≠ a:=fun z=>by rw [z,pn] at hD;cases hD
  have Z1:H ch=none:=by
   cases e:H ch with
   | none=>rfl
   | some u=>rw [d2 _ _ xR e] at hD;cases hD
  have tu:∀ {b:Addr} {u:e2},g9 b=some u->ch ≠ b:=fun e z=>by rw [<- z,hD] at e;cases e
  have aaY:ch ∉ ms:=fun z=>by
   obtain ⟨i,ah⟩:=iN z;have iQ:i < (rows.map (·.mem)).length:=by rw [<- CM.ln];exact (cv.mp ah).1
   exact tu (CM.al i ch _ ah (bc iQ)) rfl
  have jO:aS g9 (upd g9 ch (.ext (nZ ch o))):=bq hD;refine ⟨_,_,_,jO _ _ pn,T.jK,T.Fk,(show (7:Nat) < 1000 by decide),?_⟩;rw [show c2 (ae "changes") (V.ref ch) [(ae "crossing",V.ref c),(ae "many",V.int (rows.length:Int)),(ae "leasts",V.ref le),(ae "mosts",V.ref mo),(ae "members",V.ref c4),(ae "sorts",V.ref c1),(ae "homes",V.ref aQ)]=kN c rows.length le mo c4 c1 aQ ch from gh [ae "crossing",ae "many",ae "leasts",ae "mosts",ae "members",ae "sorts",ae "homes"] rfl (by ac_nf)];have Fh:aQ ≠ a:=b0 FW pn (by intro z;cases z);exact cQ _ _ ⟨fun b u ab e=>by rw [aH ab];exact jO _ _ (d2 _ _ ab e),(lL.upd).upd,ch,Z1,aX,by rw [aH hle];exact jO _ _ lh,by rw [aH rF];exact jO _ _ HQ,(CM.same jO).upd (jO _ _ pn) (by intro xs z;cases z),by rw [aH qk];exact jO _ _ sq,by rw [aH Fh];exact jO _ _ FW,Xs akU (dg xR) (fun xs z=>by rw [jO _ _ pn] at z;cases z),⟨xR,tu lh,tu HQ,tu CM.at_,tu sq,tu FW,aaY⟩,rfl⟩
 rintro t7 fM ⟨dp,ry,ch,hD,t8,f8,X',akv,nC,agW,afC,sr,rfl⟩;subst ba;nofun;have gS:=J.ln;refine ⟨_,Fj T t8,_,rfl,by omega,by omega,?_⟩;rw [qp];refine d3.range (fun i σ I=>(∃ x y,σ=[~~~a,~~~c,~~~p,x,y])/\ad a H I/\aP I/\I a=some (.ins t.fq ao (kN c rows.length le mo c4 c1 aQ ch))/\I le=some (.lst (rows.map fun r=>V.int r.lo))/\I mo=some (.lst (rows.map fun r=>V.int r.ah))/\lH I c4 ms (rows.map (·.mem))/\I c1=some (.lst (aL (rows.map (dO ds))))/\I aQ=some (.bx (gZ (rows.map (·.mem))))/\∃ kvs,iI P w I ch kvs/\kb n ds rows i 0 kvs) ⟨⟨_,_,rfl⟩,dp,ry,t8,f8,X',akv,nC,agW,[],afC,kb.nil n ds rows⟩ ?_ ?_
 .rintro i σ I ah bl;ac_rfl
  obtain ⟨⟨x,y,rfl⟩,mR,Gs,zS,Lp,IA,vS,jT,F4,kvs,HH,FF⟩:=bl;have jj:rows[i]? = some rows[i]:=bc ah;have qZ:ms[i]? = some (ms[i]'(by rw [R.cN];exact ah)):=bc _;subst ba;nofun;refine ⟨_,Fj T zS,_,rfl,by omega,by omega,?_⟩;rw [qp];refine d3.range (fun j σ aw=>(∃ y,σ=[~~~a,~~~c,~~~p,some (.int (i:Int)),y])/\ad a H aw/\aP aw/\aw a=some (.ins t.fq ao (kN c rows.length le mo c4 c1 aQ ch))/\aw le=some (.lst (rows.map fun r=>V.int r.lo))/\aw mo=some (.lst (rows.map fun r=>V.int r.ah))/\lH aw c4 ms (rows.map (·.mem))/\aw c1=some (.lst (aL (rows.map (dO ds))))/\aw aQ=some (.bx (gZ (rows.map (·.mem))))/\∃ kvs,iI P w aw ch kvs/\kb n ds rows i j kvs) ⟨⟨_,rfl⟩,mR,Gs,zS,Lp,IA,vS,jT,F4,kvs,HH,FF⟩ ?_ ?_
  .rintro j σ aw aM bl;ac_rfl
   obtain ⟨⟨y,rfl⟩,ik,v3,rV,tJ,zE,oc,Dp,zr,kvs,BE,wc⟩:=bl;have hy:rows[j]? = some rows[j]:=bc aM;have kH:ms[j]? = some (ms[j]'(by rw [R.cN];exact aM)):=bc _;have ahz:=oc.al i _ _ qZ (by rw [da,jj];rfl);have acv:=oc.al j _ _ kH (by rw [da,hy];rfl);have rf:=cB (xs:=ms.map V.ref) (j:=i) (by rw [da,qZ];rfl);have IL:=cB (xs:=ms.map V.ref) (j:=j) (by rw [da,kH];rfl);subst ba;simp only [ht,ly,k',ro];by_cases n6:i=j
   .refine dW false (fun Q a8=>?_) (fun z=>nomatch z) (fun _=>?_)
    .nofun;rw [decide_eq_true (by omega)];exact a8
    .simp only [iy];subst n6;exact ⟨⟨_,rfl⟩,ik,v3,rV,tJ,zE,oc,Dp,zr,kvs,BE,wc.skip⟩
   .refine dW true (fun Q a8=>?_) (fun _=>?_) (fun z=>nomatch z)
    .nofun;rw [decide_eq_false (by omega)];exact a8
    .nofun;obtain ⟨xR,abg,acQ,ahi,ZK,ZM,abL⟩:=sr;refine ⟨_,Fb T rV,_,rfl,_,aB.of oc.at_,_,rf,_,Fb T rV,_,rfl,_,aB.of oc.at_,_,IL,c,n,ds,_,_,_,_,rfl,Gz aO ik C,aY,cL,ahz,acv,J.xw _ (cH jj),J.xw _ (cH hy),J.gj _ (cH jj),J.gj _ (cH hy),v3,fun v aF=>?_⟩;refine ⟨_,S0 T rV,by decide,fun ia n9=>⟨ch,rfl,kvs,IZ BE (bq n9),stK i j,(show upd aw ia (.tup [V.int (i:Int),V.int (j:Int)]) ia=some (e2.tup [V.int (i:Int),V.int (j:Int)]) from aX),gQ (show kvs.length <= 100 by have:=wc.1;omega) (by decide),fun o En=>?_⟩⟩;have q1:aS aw (upd aw ia (.tup [V.int (i:Int),V.int (j:Int)])):=bq n9;refine ⟨⟨_,rfl⟩,fun b u ab e=>by rw [aH (dj e hD)];exact q1 _ _ (ik _ _ ab e),(v3.upd).upd,by rw [aH (dg xR)];exact q1 _ _ rV,by rw [aH (dg abg)];exact q1 _ _ tJ,by rw [aH (dg acQ)];exact q1 _ _ zE,⟨by rw [aH (dg ahi)];exact q1 _ _ oc.at_,oc.ln,fun k m x hm ag=>by rw [aH (fun z=>abL (by rw [<- z];exact cH hm))];exact q1 _ _ (oc.al k m x hm ag)⟩,by rw [aH (dg ZK)];exact q1 _ _ Dp,by rw [aH (dg ZM)];exact q1 _ _ zr,_,En,wc.put jj hy aF⟩
  .rintro σ aw bl;ac_rfl
   obtain ⟨⟨y,rfl⟩,ik,v3,rV,tJ,zE,oc,Dp,zr,kvs,BE,wc⟩:=bl;subst ba;exact ⟨⟨_,_,rfl⟩,ik,v3,rV,tJ,zE,oc,Dp,zr,kvs,BE,wc.next gS⟩
 .rintro σ I bl;ac_rfl
  obtain ⟨⟨x,y,rfl⟩,mR,Gs,zS,Lp,IA,vS,jT,F4,kvs,HH,FF⟩:=bl;subst ba;exact q _ mR Gs ⟨ao,le,mo,c4,c1,aQ,ch,ms,kvs,zS,Gz aO mR C,Lp,IA,vS,jT,F4,HH,FF⟩
noncomputable def pp (ds:List bj):List (List Str)->Nat->List ST->Except (Nat × Nat) (List ST)
 | [],_,rows=>.ok rows
 | ws :: r,i,rows=>if rows.length=6 then .error (i,0) else match Op ds rows ws with
  | .error k=>.error (i,k)
  | .ok s=>pp ds r (i + 1) (rows ++ [s])
def aci (P:Program) (w:World) (t:bM):bP:=fun vs H Q _=>∃ c n ds x rows,vs=[.ref c,.str x]/\fh t H c n ds/\0 < n/\ya ds/\(∀ d ∈ ds,d.name ≠ ae "")/\x.length <= 20000/\(hj x).length <= 100/\(∀ r ∈ hj x,r ≠ []/\r.length <= 1000/\∀ y ∈ r,y.length <= 1000)/\aP H /\
 pp ds (hj x) 0 []=.ok rows/\gV ds rows=[]/\sX ds rows=none/\vi n ds rows=none/\∀ a I,aS H I->aP I->gp P w t I a c n ds rows->Q (.ref a) I
theorem aaq {left ws ms:List Str} (h:k9 ds left ws=.ok ms):ms ≠ []/\ms.Nodup/\∀ x ∈ ms,x ∈ left:=by
 unfold k9 at h;split at h
 .rename_i gR;obtain ⟨af,⟨more,aj⟩,a'⟩:=Ww h (by simp);refine ⟨by rw [aj];simp,af,fun x ag=>?_⟩;rcases a' x ag with z | z
  .rw [gg.mp z];exact gR
  .exact (kV.mp z).1
 .cases h
theorem Vx {rows:List ST} (h:Op ds rows ws=.ok s):s.mem ≠ []/\s.mem.Nodup/\∀ x ∈ s.mem,x ∈ gV ds rows:=by
 unfold Op at h;split at h
 .cases aq:ke (az ws 1) 1 60 with
  | none=>rw [aq] at h;cases h
  | some lo=>
   rw [aq] at h;replace h:((ke (az ws 2) lo 60).elim (.error 2) fun ah=>match k9 ds (gV ds rows) ws with | .error k=>.error k | .ok ms=>.ok (⟨lo,ah,ms⟩:ST))=ql s:=h;cases aD:ke (az ws 2) lo 60 with
   | none=>rw [aD] at h;cases h
   | some ah=>
    rw [aD] at h;replace h:(match k9 ds (gV ds rows) ws with | .error k=>.error k | .ok ms=>.ok (⟨lo,ah,ms⟩:ST))=ql s:=h;cases bL:k9 ds (gV ds rows) ws with
    | error k=>rw [bL] at h;cases h
    | ok ms=>
     rw [bL] at h;replace h:ql (⟨lo,ah,ms⟩:ST)=ql (ε:=Nat) s:=h;cases h;exact aaq bL
 .cases h
theorem o6.snoc {rows:List ST} (J:o6 ds rows) (aA:ds.length <= 12) (il:rows.length ≠ 6) (h:Op ds rows ws=.ok s):o6 ds (rows ++ [s])/\s.mem.length <= 12:=by
 obtain ⟨af,aj,a'⟩:=Vx h;have Vt:s.mem.length <= 12:=by
  have:=Pb aj a';have c7:(gV ds rows).length <= ds.length:=by
   unfold gV;exact cP (B8 ..) (by rw [a0];exact bW _)
  omega
 refine ⟨⟨?_,fun r ak=>?_,fun r ak x ag=>?_⟩,Vt⟩
 .have:=J.ln;rw [ec];show rows.length + 1 <= 6;omega
 .rcases hI.mp ak with z | z
  .exact J.gj r z
  .rw [gg.mp z];exact Vt
 .rcases hI.mp ak with z | z
  .exact J.xw r z x ag
  .rw [gg.mp z] at ag;obtain ⟨d,hd,e⟩:=b1.mp (kV.mp (a' x ag)).1;exact ⟨d,hd,e⟩
theorem Tb {xs:List Str} {qs:List Addr} (h:xs ≠ []):aL xs ≠ qs.map V.ref:=fun e=>by
 obtain ⟨y,r,rfl⟩:=tO h;cases qs with
 | nil=>cases e
 | cons a b=>injection e with aq _;cases aq
theorem iG.snoc {p x m:Addr} {rows:List ST} (R:iG H p qs ms rows) (ag:H x=some (LB s m)) (hm:H m=some (.lst (aL s.mem))) (bX:∀ r ∈ rows,r.mem ≠ []) (ay:s.mem ≠ []):iG (upd H p (.lst (qs.map V.ref ++ [V.ref x]))) p (qs ++ [x]) (ms ++ [m]) (rows ++ [s]):=by
 have kt:∀ {b:Addr} {xs:List V},H b=some (.tup xs)->upd H p (.lst (qs.map V.ref ++ [V.ref x])) b=some (.tup xs):=fun e=>by rw [aH (b0 e R.at_ (by intro z;cases z))];exact e
 have Vf:∀ {b:Addr} {xs:List Str},H b=some (.lst (aL xs))->xs ≠ []->upd H p (.lst (qs.map V.ref ++ [V.ref x])) b=some (.lst (aL xs)):=fun e h=>by
  rw [aH (b0 e R.at_ (fun z=>by injection z with z;exact Tb h z))];exact e
 refine ⟨by rw [aX,fS];rfl,by rw [ec,ec,R.cw];rfl,by rw [ec,ec,R.cN];rfl,fun i q dt r a b c=>?_⟩;have cw:=R.cw;have cN:=R.cN;rcases my c with ⟨cc,cU⟩ | ⟨cc,rfl⟩
 .rcases my a with ⟨_,a2⟩ | ⟨a1,_⟩
  .rcases my b with ⟨_,e9⟩ | ⟨gY,_⟩
   .obtain ⟨aq,aD⟩:=R.al i q dt r a2 e9 cU;exact ⟨kt aq,Vf aD (bX r (cH cU))⟩
   .omega
  .omega
 .rcases my a with ⟨a1,_⟩ | ⟨_,rfl⟩
  .omega
  .rcases my b with ⟨gY,_⟩ | ⟨_,rfl⟩
   .omega
   .exact ⟨kt ag,Vf hm ay⟩
theorem aft:cu P base T 7 t.vn t.xf xQ (aci P w t):=by
 have Hg:b_ P w K mg base dr 6 t.w1 t.yj ["text"] (Ld t):=(RO T).mono (by decide);have af1:b_ P w K mg base dr 6 t.AY t.y8 Di (SM t):=ahA T;have XQ:b_ P w K mg base dr 6 t.De t.yI kx (Ob t):=(aaL T).mono (by decide);have aiW:b_ P w K mg base dr 6 t.Be t.zX kx (QM t):=(acJ T).mono (by decide);have YC:b_ P w K mg base dr 6 t.Dt t.yU kx (Vc t):=(amC T).mono (by decide);have aki:b_ P w K mg base dr 5 t.vF t.BZ C6 (Ts P w t):=aaU T;exists T.DV.ok KH,9
 obtain ⟨c,n,ds,x,Bo,rfl,C,aY,cL,bX,hn,gS,pj,bN,akG,hle,dM,cj,kD⟩:=h;have aem:∀ d ∈ ds,d.k < 3/\d.name ≠ ae "" := fun d hd=>⟨(cL d hd).2.1,bX d hd⟩
 refine ⟨_,(aW (b5 (i:=2) KH.aG (ha aE))
   (aW (fU gi rfl (eA (cn Hg ak T.SN T.zY.bH T.S8 (ai (U 1) aE))) (Db (i:=3) KH.aG) (aW (dK (c_ e5 (gD h4 rfl T.hR hW (ai (U 2) aE)) (lQ rfl T.WN T.Y9) (cC _)) (a6 n1) eu)
   (a6 (dS (gm ie lE mK Re (U 2) (ai (cn af1 ak T.alg T.bn.bH T.afz (ai (U 3) (ai (U 0) (ai (U 2) aE)))) aE))))))
   (aW (dS (cn XQ ak T.afT T.J5.bH T.Zm (ai (U 0) (ai (U 2) aE))))
   (aW (dS (cn aiW ak T.ahG T.Md.bH T.aeH (ai (U 0) (ai (U 2) aE))))
   (aW (dS (cn YC ak T.aaF T.LW.bH T.aeD (ai (U 0) (ai (U 2) aE))))
   (a6 (cg (rX T.aif aki ak rfl T.abC T.amE .nil cx (ai (U 0) (ai (U 2) aE)))))))))),?_⟩
 exists (fun ax I=>aS H I/\aP I/\∃ dw,H dw=none/\I dw=some (.lst [])/\ax=[~~~c,some (.str x),~~~dw,none]),5
 .nofun;exact ⟨fC _,fun dw gS=>cQ _ _ ⟨bq gS,bN.upd,dw,gS,aX,rfl⟩⟩
 rintro f_ H1 ⟨s1,b9,dw,y2,c9,rfl⟩;subst ba;simp only [dG];refine qK (fun ax I=>aS H I/\aP I/\(∃ qs ms rows,iG I dw qs ms rows/\o6 ds rows/\(∀ r ∈ rows,r.mem ≠ [])/\rows=Bo)/\∃ gq,ax=[~~~c,some (.str x),~~~dw,gq]) (fun fk cQ lW _ _=>?_) ?_
 .nofun;refine ⟨x,rfl,hn,fun r ak=>(pj r ak).2,b9,fun p aw w0 pU RR=>?_⟩;obtain ⟨kK,ar,hC,od,r'⟩:=RR;refine ⟨p,rfl,⟨_,aB.of ar⟩,?_⟩;have agS:p ≠ dw:=fun z=>by rw [z,c9] at hC;cases hC
  refine d3.list (xs:=kK.map V.ref) (fun i σ I=>(∃ y,σ=[~~~c,some (.str x),~~~dw,y])/\aP I/\aS H I/\I p=some (.lst (kK.map V.ref)) /\
   (∃ qs ms rows,iG I dw qs ms rows/\o6 ds rows/\(∀ r ∈ rows,r.mem ≠ [])/\pp ds ((hj x).drop i) i rows=.ok Bo) /\
   ∀ (j:Nat) (q:Addr) (r:List Str),i <= j->kK[j]? = some q->(hj x)[j]? = some r->c8 t I q ((j:Nat):Int) r 0/\H q=none) ?_ ?_ ?_ ?_
  .refine ⟨⟨_,rfl⟩,pU,s1.trans w0,ar,⟨[],[],[],⟨w0 _ _ c9,rfl,rfl,fun i q m r h=>by simp at h⟩,⟨fC _,fun r h=>by simp at h,fun r h=>by simp at h⟩,fun r h=>by simp at h,akG⟩,fun j q r _ af aj=>?_⟩;obtain ⟨ow,eI⟩:=r' j q r af aj;exact ⟨ow,s1.free eI⟩
  .rintro i σ I ah bl;ac_rfl
   obtain ⟨_,_,_,h,_⟩:=bl;subst ba;exact aB.of h
  .rintro i v σ I aF bl;ac_rfl
   obtain ⟨⟨y,rfl⟩,nf,pI,k2,⟨qs,ms,rows,rk,gT,qv,dP⟩,Rs⟩:=bl;obtain ⟨q,aI,rfl⟩:=cf aF;obtain ⟨ah,_⟩:=cv.mp aI;have lA:i < (hj x).length:=by omega
   have ak:(hj x)[i]? = some (hj x)[i]:=bc lA;obtain ⟨nd,iU⟩:=Rs i q _ (bW _) aI ak;obtain ⟨_,AD,am9,gW,yQ⟩:=id nd;subst ba;rw [rM lA] at dP;unfold pp at dP;simp only [ht,dG,ly,k'];refine EK (fun ax bw=>bw=I/\rows.length ≠ 6/\ax=[~~~c,some (.str x),~~~dw,~~~q]) (fun apG En=>?_) fun rN ba=>?_
   .refine dW (decide (rows.length=6)) (fun jf a8=>?_) (fun ab=>?_) (fun ab=>?_)
    .nofun;refine ⟨_,.inl (aB.of rk.at_),?_⟩;rw [a0,rk.cw];rw [show decide ((rows.length:Int)=6)=decide (rows.length=6) from decide_eq_decide.mpr (by omega)];exact a8
    .have ab:=of_decide_eq_true ab;rw [if_pos ab] at dP;cases dP
    .simp only [iy];exact En _ _ ⟨rfl,of_decide_eq_false ab,rfl⟩
   rintro gb bw ⟨rfl,il,rfl⟩;subst ba;rw [if_neg il] at dP;cases oi:Op ds rows (hj x)[i] with
   | error k=>rw [oi] at dP;cases dP
   | ok s=>
    rw [oi] at dP;replace dP:pp ds ((hj x).drop (i + 1)) (i + 1) (rows ++ [s])=.ok Bo:=dP;nofun;refine ⟨.inl ⟨_,aB.of rk.at_⟩,q,_,(hj x)[i],c,n,ds,dw,qs,ms,rows,s,rfl,nd,C.same pI,aem,rk,gT.ln,gT.gj,nf,oi,?_⟩;intro fx m cS s4 IQ afL Lx aoF apu;have N9:=(Vx oi).1;have mE:=rk.yb s4 nd;have aiy:aS H cS:=vZ pI s4 iU;have abI:=gT.snoc C.1.2 il oi;have Bh:=gT.ln;refine ⟨_,mE.at_,gQ (show (qs.map V.ref).length <= 6 by rw [a0,mE.cw];exact Bh) (by decide),⟨_,rfl⟩,IQ.upd,aiy.fY y2,by rw [aH agS];exact s4 _ _ (b0 k2 gW (by intro z;cases z)) k2,⟨qs ++ [fx],ms ++ [m],rows ++ [s],mE.snoc afL Lx qv N9,abI.1,fun r eg=>?_,dP⟩,fun j cW r aM af aj=>?_⟩
    .rcases hI.mp eg with z | z
     .exact qv r z
     .rw [gg.mp z];exact N9
    .obtain ⟨ow,eI⟩:=Rs j cW r (by omega) af aj;have qq:=ow.wK s4 (Fo ow nd (by omega)) nd.ins;refine ⟨?_,eI⟩;obtain ⟨aJ,hk,a7,aq,aD⟩:=qq;exact ⟨aJ,hk,a7,by rw [aH (b0 aq mE.at_ (by intro z;cases z))];exact aq,by rw [aH (b0 aD mE.at_ (fun z=>by injection z with z;exact Tb (pj r (cH aj)).1 z))];exact aD⟩
  .rintro σ I bl;ac_rfl
   obtain ⟨⟨y,rfl⟩,nf,pI,k2,⟨qs,ms,rows,rk,gT,qv,dP⟩,Rs⟩:=bl;subst ba;rw [a0,od,xv] at dP;replace dP:(ql rows:Except (Nat × Nat) (List ST))=.ok Bo:=dP;exact cQ _ _ ⟨pI,nf,⟨qs,ms,rows,rk,gT,qv,Except.ok.inj dP⟩,_,rfl⟩
 rintro cz aw bl;ac_rfl
 obtain ⟨s2,cI,⟨qs,ms,rows,eQ,bu,qv,fw⟩,gq,rfl⟩:=bl;subst ba;subst fw;have Ub:=C.same s2;nofun;refine ⟨c,n,ds,dw,qs,ms,rows,rfl,Ub,eQ,bu,hle,fun bw s3 YU=>?_⟩;have dA:=YU cI;have aeI:=s2.trans s3;refine ⟨c,n,ds,dw,qs,ms,rows,rfl,Ub.same s3,eQ.same s3,bu,hle,dM,fun cS s4 afY=>?_⟩;have d5:=afY dA;have M':=aeI.trans s4;refine ⟨c,n,ds,dw,qs,ms,rows,rfl,C.same M',aY,(eQ.same s3).same s4,bu,d5,cj,fun d1 s5 afv a ao aO xp ano=>?_⟩;have jC:=afv d5;have D0:=M'.trans s5;have sc:aS d1 (upd (upd d1 ao (.own a)) a (.ins t.fq ao [])):=((aS.refl d1).fY xp).fY aO;refine ⟨a,ao,c,n,ds,dw,qs,ms,rows,rfl,aX,(C.same D0).same sc,aY,cL,(((eQ.same s3).same s4).same s5).same sc,bu,qv,(jC.upd).upd,fun fL h2 kk dC=>⟨rfl,?_⟩⟩;exact kD a fL (vZ (D0.trans sc) h2 (D0.free aO)) kk dC
def aiS (P:Program) (w:World) (t:bM):bP:=fun vs H Q _=>∃ a c n ds rows,∃ i j:Nat,∃ r s,vs=[.ref a,.int i,.int j]/\gp P w t H a c n ds rows/\rows[i]? = some r/\rows[j]? = some s/\i ≠ j/\aP H/\∀ v,sh (lx n ds r.mem s.mem) v->Q (.int v) H
def aaB (P:Program) (w:World) (t:bM):bP:=fun vs H Q _=>∃ a c n ds rows,∃ i j:Nat,∃ r s,vs=[.ref a,.int i,.int j]/\gp P w t H a c n ds rows/\rows[i]? = some r/\rows[j]? = some s/\i ≠ j/\∀ v I,aS H I->sh (lx n ds r.mem s.mem) v->Q (.int v) I
theorem Ri:cu P base T 1 t.Jn t.LR Bq (aiS P w t):=by
 refine b_.forget (sp:=aaB P w t) ?_ fun vs H Q E h=>?_
 .exists T.B2.ok abx,9
  obtain ⟨a,c,n,ds,rows,i,j,r,s',rfl,⟨ao,le,mo,c4,c1,aQ,ch,ms,kvs,aq,_,_,_,_,_,_,ahP,acX⟩,ah,aM,n6,q⟩:=h;have br:=hh ak;obtain ⟨v,aF,Bp⟩:=acX.2 i j r s' ah aM n6 (.inl (cv.mp ah).1);refine ⟨_,(a6 (cg (ae0 br (bB (U 0) rfl) (ls (ai (U 1) (ai (U 2) aE))) (fun _ _=>rfl)))),?_⟩;nofun;exact ⟨_,S0 T aq,by decide,fun p ar=>⟨ch,rfl,kvs,IZ ahP (bq ar),stK i j,aX,_,aF,q v _ (bq ar) Bp⟩⟩
 .obtain ⟨a,c,n,ds,rows,i,j,r,s',rfl,dC,ah,aM,n6,bN,q⟩:=h;exact ⟨bN,a,c,n,ds,rows,i,j,r,s',rfl,dC,ah,aM,n6,fun v I bR aF=>⟨bR,q v aF⟩⟩
noncomputable abbrev lB:List Str:=[ae "stages",ae "showing",ae "lasted",ae "left",ae "sought",ae "gone",ae "waiting",ae "picked"]
noncomputable def fo (aU:Addr) (b6:V) (c5 lf bC dq:Int) (az aT:Addr):List (Str × V):=[(ae "stages",V.ref aU),(ae "showing",b6),(ae "lasted",V.int c5),(ae "left",V.int lf),(ae "sought",V.int bC),(ae "gone",V.int dq),(ae "waiting",V.ref az),(ae "picked",V.ref aT)]
theorem ce (aU:Addr) (b6:V) (c5 lf bC dq:Int) (az aT:Addr):(fo aU b6 c5 lf bC dq az aT).map (·.1)=lB:=rfl
theorem Q9 (aU:Addr) (b6:V) (c5 lf bC dq:Int) (az aT:Addr) (v:V):c2 (ae "showing") v (fo aU b6 c5 lf bC dq az aT)=fo aU v c5 lf bC dq az aT:=by
 unfold fo;simp only [c2];rw [if_neg (by ac_nf)];rfl
theorem M1 (aU:Addr) (b6:V) (c5 lf bC dq:Int) (az aT:Addr) (v:Int):c2 (ae "lasted") (.int v) (fo aU b6 c5 lf bC dq az aT)=fo aU b6 v lf bC dq az aT:=by
 unfold fo;simp only [c2];rw [if_neg (by ac_nf),if_neg (by ac_nf)];rfl
theorem al6 (aU:Addr) (b6:V) (c5 lf bC dq:Int) (az aT:Addr) (v:Int):c2 (ae "left") (.int v) (fo aU b6 c5 lf bC dq az aT)=fo aU b6 c5 v bC dq az aT:=by
 unfold fo;simp only [c2];rw [if_neg (by ac_nf),if_neg (by ac_nf),if_neg (by ac_nf)];rfl
theorem aiZ (aU:Addr) (b6:V) (c5 lf bC dq:Int) (az aT:Addr) (v:Int):c2 (ae "sought") (.int v) (fo aU b6 c5 lf bC dq az aT)=fo aU b6 c5 lf v dq az aT:=by
 unfold fo;simp only [c2];rw [if_neg (by ac_nf),if_neg (by ac_nf),if_neg (by ac_nf),if_neg (by ac_nf)];rfl
theorem T7 (aU:Addr) (b6:V) (c5 lf bC dq:Int) (az aT:Addr) (v:Int):c2 (ae "gone") (.int v) (fo aU b6 c5 lf bC dq az aT)=fo aU b6 c5 lf bC v az aT:=by
 unfold fo;simp only [c2];rw [if_neg (by ac_nf),if_neg (by ac_nf),if_neg (by ac_nf),if_neg (by ac_nf),if_neg (by ac_nf)];rfl
section
variable {w:World} {K:a_} {mg:Str->Option Value} {t:bM} {H:au} {a c ao le mo c4 c1 aQ ch:Addr} {k:Nat}
theorem vp (T:Txt w K mg t) (e:H a=some (.ins t.fq ao (kN c k le mo c4 c1 aQ ch))):fQ K H a (ae "crossing") (.ref c):=⟨_,ao,_,e,T.jK,T.P_,gr pa 0 (qG ..) (by ac_nf) rfl⟩
theorem uD (T:Txt w K mg t) (e:H a=some (.ins t.fq ao (kN c k le mo c4 c1 aQ ch))):fQ K H a (ae "sorts") (.ref c1):=⟨_,ao,_,e,T.jK,T.U5,gr pa 5 (qG ..) (by ac_nf) rfl⟩
theorem z8 (T:Txt w K mg t) (e:H a=some (.ins t.fq ao (kN c k le mo c4 c1 aQ ch))):fQ K H a (ae "homes") (.ref aQ):=⟨_,ao,_,e,T.jK,T.lm,gr pa 6 (qG ..) (by ac_nf) rfl⟩
end
theorem ib (aU:Addr) (b6:V) (c5 lf bC dq:Int) (az aT:Addr) (h:lB.contains m=false):(fo aU b6 c5 lf bC dq az aT).lookup m=none:=xO lB (ce ..) h
section
variable {w:World} {K:a_} {mg:Str->Option Value} {t:bM} {H:au} {k aU ao az aT:Addr} {b6:V} {c5 lf bC dq:Int}
theorem iq (T:Txt w K mg t) (e:H k=some (.ins t.c3 ao (fo aU b6 c5 lf bC dq az aT))):fQ K H k (ae "stages") (.ref aU):=⟨_,ao,_,e,T.dI,T.PY,gr lB 0 (ce ..) (by ac_nf) rfl⟩
theorem px (T:Txt w K mg t) (e:H k=some (.ins t.c3 ao (fo aU b6 c5 lf bC dq az aT))):fQ K H k (ae "showing") b6:=⟨_,ao,_,e,T.dI,T.BQ,gr lB 1 (ce ..) (by ac_nf) rfl⟩
theorem ti (T:Txt w K mg t) (e:H k=some (.ins t.c3 ao (fo aU b6 c5 lf bC dq az aT))):fQ K H k (ae "waiting") (.ref az):=⟨_,ao,_,e,T.dI,T.Ru,gr lB 6 (ce ..) (by ac_nf) rfl⟩
theorem Kr (T:Txt w K mg t) (e:H k=some (.ins t.c3 ao (fo aU b6 c5 lf bC dq az aT))):fQ K H k (ae "picked") (.ref aT):=⟨_,ao,_,e,T.dI,T.WH,gr lB 7 (ce ..) (by ac_nf) rfl⟩
theorem O2 (T:Txt w K mg t) (e:H k=some (.ins t.c3 ao (fo aU b6 c5 lf bC dq az aT))):fQ K H k (ae "lasted") (.int c5):=⟨_,ao,_,e,T.dI,T.y0,gr lB 2 (ce ..) (by ac_nf) rfl⟩
theorem G_ (T:Txt w K mg t) (e:H k=some (.ins t.c3 ao (fo aU b6 c5 lf bC dq az aT))):fQ K H k (ae "left") (.int lf):=⟨_,ao,_,e,T.dI,T.Jc,gr lB 3 (ce ..) (by ac_nf) rfl⟩
theorem xS (T:Txt w K mg t) (e:H k=some (.ins t.c3 ao (fo aU b6 c5 lf bC dq az aT))):fQ K H k (ae "sought") (.int bC):=⟨_,ao,_,e,T.dI,T.ID,gr lB 4 (ce ..) (by ac_nf) rfl⟩
theorem Ik (T:Txt w K mg t) (e:H k=some (.ins t.c3 ao (fo aU b6 c5 lf bC dq az aT))):fQ K H k (ae "gone") (.int dq):=⟨_,ao,_,e,T.dI,T.zI,gr lB 5 (ce ..) (by ac_nf) rfl⟩
end
section
variable {w:World} {K:a_} {mg:Str->Option Value} {t:bM} {H:au} {a c ao le mo c4 c1 aQ ch:Addr} {k:Nat}
theorem afw (T:Txt w K mg t) (e:H a=some (.ins t.fq ao (kN c k le mo c4 c1 aQ ch))):fQ K H a (ae "leasts") (.ref le):=⟨_,ao,_,e,T.jK,T.ML,gr pa 2 (qG ..) (by ac_nf) rfl⟩
theorem ac7 (T:Txt w K mg t) (e:H a=some (.ins t.fq ao (kN c k le mo c4 c1 aQ ch))):fQ K H a (ae "mosts") (.ref mo):=⟨_,ao,_,e,T.jK,T.Um,gr pa 3 (qG ..) (by ac_nf) rfl⟩
end
theorem gp.same {w:World} {t:bM} {rows:List ST} (h:gp P w t H a c n ds rows) (s:aS H I):gp P w t I a c n ds rows:=by
 obtain ⟨ao,le,mo,c4,c1,aQ,ch,ms,kvs,aq,aD,bL,ek,fG,es,gw,j8,kq⟩:=h;exact ⟨ao,le,mo,c4,c1,aQ,ch,ms,kvs,s _ _ aq,aD.same s,s _ _ bL,s _ _ ek,fG.same s,s _ _ es,s _ _ gw,IZ j8 s,kq⟩
noncomputable abbrev eC:Str:=ae "trams"
noncomputable abbrev k5:Str:=ae "others"
structure f' where
 b6:Option Nat
 c5:Int
 lf:Nat
 bC:Nat
 dq:Int
 wt:List Str
 pt:Int
 po:Int
noncomputable def jd:Option Nat->V
 | none=>.bO
 | some i=>.int (i:Nat)
noncomputable def ef (xs:List Str):List (Key × V):=xs.map fun x=>(bT x,V.bo true)
noncomputable def lq (a b:Int):List (Key × V):=[(bT eC,.int a),(bT k5,.int b)]
def d_ (t:bM) (H:au) (k aU az aT:Addr) (s:f'):Prop:=az ≠ aT/\∃ ao,H k=some (.ins t.c3 ao (fo aU (jd s.b6) s.c5 s.lf s.bC s.dq az aT))/\H az=some (.bx (ef s.wt))/\H aT=some (.bx (lq s.pt s.po))
theorem d_.same {t:bM} {k aU az aT:Addr} (h:d_ t H k aU az aT s) (e:aS H I):d_ t I k aU az aT s:=by
 obtain ⟨h0,ao,af,aj,a'⟩:=h;exact ⟨h0,ao,e _ _ af,e _ _ aj,e _ _ a'⟩
def g5 (k az aT:Addr) (H I:au):Prop:=∀ b u,b ≠ k->b ≠ az->b ≠ aT->H b=some u->I b=some u
theorem g5.trans {k az aT:Addr} (a:g5 k az aT H H1) (b:g5 k az aT H1 aw):g5 k az aT H aw:=fun c u x y z e=>b c u x y z (a c u x y z e)
theorem g5.of {k az aT:Addr} (a:aS H H1):g5 k az aT H H1:=fun c u _ _ _ e=>a c u e
theorem g5.wx {k az aT:Addr} (a:g5 k az aT H H1) (s:aS cp H) (af:cp k=none) (aj:cp az=none) (a':cp aT=none):aS cp H1:=fun c u e=>a c u (dj e af) (dj e aj) (dj e a') (s c u e)
theorem amg:r_ [] [(bT eC,V.int (-1)),(bT k5,V.int (-1))]=lq (-1) (-1):=by
 have h:(bT eC:Key) ≠ bT k5:=fun z=>absurd (n2 z) (by ac_nf)
 simp [r_,eb,lq,h]
theorem R4 (h:s=eC\/s=k5):eb (lq a b) (bT s) (.int v)=lq (if s=eC then v else a) (if s=eC then b else v):=by
 have af:eC ≠ k5:=by ac_nf
 rcases h with rfl | rfl
 .simp [eb,lq,af,af.symm]
 .simp [eb,lq,af,af.symm]
theorem adY (h:s=eC\/s=k5):cY (lq a b) (bT s)=some (.int (if s=eC then a else b)):=by
 have af:eC ≠ k5:=by ac_nf
 rcases h with rfl | rfl
 .simp [cY,lq,af,af.symm]
 .simp [cY,lq,af,af.symm]
theorem BN (xs:List Str) (x:Str):(cY (ef xs) (bT x)).isSome=decide (x ∈ xs):=by
 rw [j',decide_eq_true_eq]
 induction xs with
 | nil=>simp [ef,cY]
 | cons y ys b'=>
  by_cases c:y=x
  .simp [ef,cY,c]
  .have c':x ≠ y:=fun z=>c z.symm
   simp only [ef,cY,eN,qy] at b' ⊢;simp [c,c'] at b' ⊢
   try exact b'
noncomputable def Tw (ds:List bj) (r:ST):f':=⟨some 0,1,0,0,0,[],if dO ds r=eC then 0 else -1,if dO ds r=eC then -1 else 0⟩
noncomputable def tf (rows:List ST) (i:Nat) (x:Str):Str:=if ip rows x=some i then ae "free" else ae "stop"
section
variable (P:Program) (w:World)
def Q3 (t:bM):bP:=fun vs H Q _=>∃ k ao aU c n ds rows r,vs=[.ref k,.ref aU]/\H k=some (.ins t.c3 ao [])/\gp P w t H aU c n ds rows/\rows[0]? = some r/\(dO ds r=eC\/dO ds r=k5)/\aP H/\∀ az aT I,ad k H I->aP I->H az=none->H aT=none->d_ t I k aU az aT (Tw ds r)->Q .bO I
def agw (t:bM):bP:=fun vs H Q _=>∃ k aU az aT s,vs=[.ref k]/\d_ t H k aU az aT s/\Q (jd s.b6) H
def NL (t:bM):bP:=fun vs H Q _=>∃ k aU az aT s c n ds rows,vs=[.ref k]/\d_ t H k aU az aT s/\gp P w t H aU c n ds rows/\∀ p I,aS H I->(aP H->aP I)->H p=none->I p=some (.lst (aL ((ds.map (·.name)).filter fun x=>decide (x ∈ s.wt))))->Q (.ref p) I
def afK (t:bM):bP:=fun vs H Q _=>∃ k aU az aT s,∃ i:Nat,∃ c n ds rows,∃ d:bj,vs=[.ref k,.str d.name]/\d_ t H k aU az aT s/\s.b6=some i/\gp P w t H aU c n ds rows/\told rows d.name=true/\Q (.str (tf rows i d.name)) H
end
theorem afF:cu P base T 1 t.vV t.AU xI (Q3 P w t):=by
 exists T.Pp.ok amj,9
 obtain ⟨k,ao,aU,c,n,ds,rows,r,rfl,aC,dC,h0,qk,bN,q⟩:=h;obtain ⟨jN,le,mo,c4,c1,aQ,ch,ms,kvs,aq,C,bL,ek,fG,es,gw,j8,kq⟩:=dC;have br:=hh ak;refine ⟨_,(aW (e6 (U 0) (U 1) rfl)
   (aW (e6 (U 0) aR rfl)
   (aW (e6 (U 0) aR rfl)
   (aW (e6 (U 0) aR rfl)
   (aW (e6 (U 0) aR rfl)
   (aW (e6 (U 0) aR rfl)
   (aW (e6 (U 0) vM rfl)
   (aW (e6 (U 0) (ait (VF cX (Ko J3 aR) (VF cX (Ko J3 aR) agt)) rfl rfl (by simp) (by decide)) rfl)
   (a6 (p0 br (bB (U 0) rfl) (cq lc (bB (U 1) rfl) aR) aR rfl)))))))))),?_⟩
 exists (fun ax I=>ad k H I/\aP I/\I k=some (.ins t.c3 ao [(ae "stages",V.ref aU)])/\ax=[~~~k,~~~aU]),5
 .nofun;refine ⟨_,_,_,aC,T.dI,T.PY,(show (0:Nat) < 1000 by decide),?_⟩;rw [show c2 (ae "stages") (V.ref aU) ([]:List (Str × V))=[(ae "stages",V.ref aU)] from gh [] rfl (by ac_nf)];exact cQ _ _ ⟨fun b u ab e=>by rw [aH ab];exact e,bN.upd,aX,rfl⟩
 rintro f_ H1 ⟨b3,b9,a1,rfl⟩;subst ba;exists (fun ax I=>ad k H I/\aP I/\I k=some (.ins t.c3 ao [(ae "stages",V.ref aU),(ae "showing",V.int 0)])/\ax=[~~~k,~~~aU]),5
 .nofun;refine ⟨_,_,_,a1,T.dI,T.BQ,(show (1:Nat) < 1000 by decide),?_⟩;rw [show c2 (ae "showing") (V.int 0) ([(ae "stages",V.ref aU)]:List (Str × V))=[(ae "stages",V.ref aU),(ae "showing",V.int 0)] from gh [ae "stages"] rfl (by ac_nf)];exact cQ _ _ ⟨fun b u ab e=>by rw [aH ab];exact b3 _ _ ab e,b9.upd,aX,rfl⟩
 rintro cz aw ⟨fb,cI,a2,rfl⟩;subst ba;exists (fun ax I=>ad k H I/\aP I/\I k=some (.ins t.c3 ao [(ae "stages",V.ref aU),(ae "showing",V.int 0),(ae "lasted",V.int 1)])/\ax=[~~~k,~~~aU]),5
 .nofun;refine ⟨_,_,_,a2,T.dI,T.y0,(show (2:Nat) < 1000 by decide),?_⟩;rw [show c2 (ae "lasted") (V.int 1) ([(ae "stages",V.ref aU),(ae "showing",V.int 0)]:List (Str × V))=[(ae "stages",V.ref aU),(ae "showing",V.int 0),(ae "lasted",V.int 1)] from gh [ae "stages",ae "showing"] rfl (by ac_nf)];exact cQ _ _ ⟨fun b u ab e=>by rw [aH ab];exact fb _ _ ab e,cI.upd,aX,rfl⟩
 rintro gb bw ⟨gq,dA,fX,rfl⟩;subst ba;exists (fun ax I=>ad k H I/\aP I/\I k=some (.ins t.c3 ao [(ae "stages",V.ref aU),(ae "showing",V.int 0),(ae "lasted",V.int 1),(ae "left",V.int 0)])/\ax=[~~~k,~~~aU]),5
 .nofun;refine ⟨_,_,_,fX,T.dI,T.Jc,(show (3:Nat) < 1000 by decide),?_⟩;rw [show c2 (ae "left") (V.int 0) ([(ae "stages",V.ref aU),(ae "showing",V.int 0),(ae "lasted",V.int 1)]:List (Str × V))=[(ae "stages",V.ref aU),(ae "showing",V.int 0),(ae "lasted",V.int 1),(ae "left",V.int 0)] from gh [ae "stages",ae "showing",ae "lasted"] rfl (by ac_nf)];exact cQ _ _ ⟨fun b u ab e=>by rw [aH ab];exact gq _ _ ab e,dA.upd,aX,rfl⟩
 rintro kT cS ⟨dB,d5,oV,rfl⟩;subst ba;exists (fun ax I=>ad k H I/\aP I/\I k=some (.ins t.c3 ao [(ae "stages",V.ref aU),(ae "showing",V.int 0),(ae "lasted",V.int 1),(ae "left",V.int 0),(ae "sought",V.int 0)])/\ax=[~~~k,~~~aU]),5
 .nofun;refine ⟨_,_,_,oV,T.dI,T.ID,(show (4:Nat) < 1000 by decide),?_⟩;rw [show c2 (ae "sought") (V.int 0) ([(ae "stages",V.ref aU),(ae "showing",V.int 0),(ae "lasted",V.int 1),(ae "left",V.int 0)]:List (Str × V))=[(ae "stages",V.ref aU),(ae "showing",V.int 0),(ae "lasted",V.int 1),(ae "left",V.int 0),(ae "sought",V.int 0)] from gh [ae "stages",ae "showing",ae "lasted",ae "left"] rfl (by ac_nf)];exact cQ _ _ ⟨fun b u ab e=>by rw [aH ab];exact dB _ _ ab e,d5.upd,aX,rfl⟩
 rintro rO d1 ⟨eK,jC,vy,rfl⟩;subst ba;exists (fun ax I=>ad k H I/\aP I/\I k=some (.ins t.c3 ao [(ae "stages",V.ref aU),(ae "showing",V.int 0),(ae "lasted",V.int 1),(ae "left",V.int 0),(ae "sought",V.int 0),(ae "gone",V.int 0)])/\ax=[~~~k,~~~aU]),5
 .nofun;refine ⟨_,_,_,vy,T.dI,T.zI,(show (5:Nat) < 1000 by decide),?_⟩;rw [show c2 (ae "gone") (V.int 0) ([(ae "stages",V.ref aU),(ae "showing",V.int 0),(ae "lasted",V.int 1),(ae "left",V.int 0),(ae "sought",V.int 0)]:List (Str × V))=[(ae "stages",V.ref aU),(ae "showing",V.int 0),(ae "lasted",V.int 1),(ae "left",V.int 0),(ae "sought",V.int 0),(ae "gone",V.int 0)] from gh [ae "stages",ae "showing",ae "lasted",ae "left",ae "sought"] rfl (by ac_nf)];exact cQ _ _ ⟨fun b u ab e=>by rw [aH ab];exact eK _ _ ab e,jC.upd,aX,rfl⟩
 rintro mX fL ⟨eL,kk,p2,rfl⟩;subst ba;exists (fun ax I=>ad k H I/\aP I/\∃ az,H az=none/\I k=some (.ins t.c3 ao [(ae "stages",V.ref aU),(ae "showing",V.int 0),(ae "lasted",V.int 1),(ae "left",V.int 0),(ae "sought",V.int 0),(ae "gone",V.int 0),(ae "waiting",V.ref az)])/\I az=some (.bx [])/\ax=[~~~k,~~~aU]),5
 .nofun;intro az nW;have O5:az ≠ k:=fun z=>by rw [z,p2] at nW;cases nW
  have gG:H az=none:=by
   cases e:H az with
   | none=>rfl
   | some u=>have:=eL _ _ O5 e;rw [nW] at this;cases this
  refine ⟨_,_,_,(bq nW) _ _ p2,T.dI,T.Ru,(show (6:Nat) < 1000 by decide),?_⟩;rw [show c2 (ae "waiting") (V.ref az) ([(ae "stages",V.ref aU),(ae "showing",V.int 0),(ae "lasted",V.int 1),(ae "left",V.int 0),(ae "sought",V.int 0),(ae "gone",V.int 0)]:List (Str × V))=[(ae "stages",V.ref aU),(ae "showing",V.int 0),(ae "lasted",V.int 1),(ae "left",V.int 0),(ae "sought",V.int 0),(ae "gone",V.int 0),(ae "waiting",V.ref az)] from gh [ae "stages",ae "showing",ae "lasted",ae "left",ae "sought",ae "gone"] rfl (by ac_nf)];exact cQ _ _ ⟨fun b u ab e=>by rw [aH ab];exact (bq nW) _ _ (eL _ _ ab e),kk.upd.upd,az,gG,aX,by rw [aH O5];exact aX,rfl⟩
 rintro kn g9 ⟨d2,lL,az,gG,pn,Gp,rfl⟩;subst ba;exists (fun ax I=>ad k H I/\aP I/\∃ aT,I k=some (.ins t.c3 ao (fo aU (.int 0) 1 0 0 0 az aT))/\I az=some (.bx [])/\I aT=some (.bx (lq (-1) (-1)))/\aT ≠ az/\H aT=none/\ax=[~~~k,~~~aU]),5
 .nofun;simp only [zT];nofun;intro aT mA;have uR:aT ≠ k:=fun z=>by rw [z,pn] at mA;cases mA
  have iw:aT ≠ az:=fun z=>by rw [z,Gp] at mA;cases mA
  have hC:H aT=none:=by
   cases e:H aT with
   | none=>rfl
   | some u=>have:=d2 _ _ uR e;rw [mA] at this;cases this
  refine ⟨aX,[(bT (ae "trams"),.int (-1)),(bT (ae "others"),.int (-1))],rfl,by show 2 <= 15;decide,_,_,_,(aH uR.symm).trans ((aH uR.symm).trans pn),T.dI,T.WH,(show (7:Nat) < 1000 by decide),?_⟩;rw [show c2 (ae "picked") (V.ref aT) ([(ae "stages",V.ref aU),(ae "showing",V.int 0),(ae "lasted",V.int 1),(ae "left",V.int 0),(ae "sought",V.int 0),(ae "gone",V.int 0),(ae "waiting",V.ref az)]:List (Str × V))=fo aU (.int 0) 1 0 0 0 az aT from gh [ae "stages",ae "showing",ae "lasted",ae "left",ae "sought",ae "gone",ae "waiting"] rfl (by ac_nf)];refine cQ _ _ ⟨fun b u ab e=>?_,lL.upd.upd.upd,aT,aX,?_,(aH uR).trans (aX.trans (congrArg (fun x=>some (e2.bx x)) (amg))),iw,hC,rfl⟩
  .have:=d2 _ _ ab e;rw [aH ab,aH (dj this mA),aH (dj this mA)];exact this
  .rw [aH (b0 Gp pn (by intro z;cases z)),aH iw.symm,aH iw.symm];exact Gp
 rintro t7 fM ⟨dp,ry,aT,t8,akf,S4,iw,mA,rfl⟩;subst ba;nofun;refine ⟨_,Kr T t8,_,uD T (dp _ _ (GA aC aq) aq),_,rfl,_,aB.of (dp _ _ (b0 es aC (by intro z;cases z)) es),_,cB (j:=0) (q_ (by rw [da,h0];rfl)),_,rfl,_,kf.k (k:=bT (dO ds r)) S4 (gQ (show (lq (-1) (-1)).length <= 2 from bW 2) (by decide)),q az aT _ (fun b u ab e=>?_) ry.upd gG mA ⟨iw.symm,ao,?_,?_,?_⟩⟩
 .rw [aH (dj e mA)];exact dp _ _ ab e
 .rw [aH (b0 t8 S4 (by intro z;cases z))];exact t8
 .rw [aH iw.symm];exact akf
 .rw [aX,R4 qk];rfl
theorem akX:cu P base T 1 t.yZ t.Ly ["self"] (agw t):=by
 exists T.PW.ok aei,9
 obtain ⟨k,aU,az,aT,s',rfl,⟨_,ao,bG,cT,dY⟩,q⟩:=h;refine ⟨_,(a6 (cg (bB (U 0) rfl))),?_⟩;nofun;exact ⟨_,px T bG,q⟩
theorem UA:cu P base T 2 t.xu t.Cb ["self"] (NL P w t):=by
 refine cy (wu T) fun pf=>?_;exists T.Uz.ok agI,9
 obtain ⟨k,aU,az,aT,s',c,n,ds,rows,rfl,⟨_,ao,bG,cT,dY⟩,⟨jN,le,mo,c4,c1,aQ,ch,ms,kvs,aq,C,bL,ek,fG,es,gw,j8,kq⟩,q⟩:=h;have br:=hh ak;obtain ⟨⟨e7,fj⟩,CC,wl,aG,cc,_,_⟩:=id C;refine ⟨_,(a6 (cg (hl rfl (eA (gc (bB (bB (U 0) rfl) rfl) T.hq T.wG pf ak T.wW .nil cx)) (gz (sc:=bz KV) rfl (by ac_nf)) (N:=tY) (sel:=[none,some 0]) (gA (M:=["self"]) (by ac_nf)) (fA.of (fun _ _ _ _=>(Db (i:=0) (er (N:=tY) (by ac_nf) rfl))) (fun _ _ _ _=>⟨_,(sG (yC (KM br (U 0) (bB (U 1) rfl)))),by walk_at "B"⟩) (fun _ _ _ _=>⟨_,(U 0),by walk_at "B"⟩))))),?_⟩;nofun;refine ⟨_,iq T bG,_,rfl,_,vp T aq,_,rfl,_,_,cc,jk _ _ _ (by ac_nf),c,n,ds,rfl,C,fun p ar=>⟨p,rfl,⟨_,aB.of aX⟩,?_⟩⟩;have sB:aS H (upd H p (.lst (aL (ds.map (·.name))))):=bq ar;have mV:(upd H p (.lst (aL (ds.map (·.name))))) p=some (.lst (aL (ds.map (·.name)))):=aX;have js:aP H->aP (upd H p (.lst (aL (ds.map (·.name))))):=fun z=>z.upd
 generalize upd H p (.lst (aL (ds.map (·.name))))=kv at sB mV js ⊢;refine c6.sj (xs:=aL (ds.map (·.name))) (ss:=(ds.map (·.name)).map fun x=>if decide (x ∈ s'.wt)=true then some (V.str x) else none) (aB.of mV) (by rw [eF,a0];exact cP fj (by decide)) (by rw [eF,a0]) (fun i v o ys N aF aQ bf=>?_) (fun l aA=>?_)
 .unfold aL at aF;obtain ⟨x,ag,rfl⟩:=cf aF;obtain ⟨fx,d7,rfl⟩:=cf aQ;rw [ag] at d7;cases d7;nofun;refine ⟨Sub.name,_,ti T (sB _ _ bG),_,rfl,_,fT.k (k:=bT x) (sB _ _ cT),?_⟩;rw [BN];by_cases bZ:x ∈ s'.wt
  .simp [bZ] at bf ⊢;exact bf
  .simp [bZ] at bf ⊢;exact bf
 .rw [tL];exact q l _ (sB.trans (bq aA)) (fun z=>(js z).upd) (sB.free aA) aX
theorem ae':cu P base T 1 t.BJ t.Fu gL (afK P w t):=by
 exists T.Ox.ok aht,9
 obtain ⟨k,aU,az,aT,s',i,c,n,ds,rows,d,rfl,⟨_,ao,bG,cT,dY⟩,gn,⟨jN,le,mo,c4,c1,aQ,ch,ms,kvs,aq,C,bL,ek,fG,es,gw,j8,kq⟩,cK,q⟩:=h;have br:=hh ak;obtain ⟨j,r,aM,aC,iX,_⟩:=ox cK;refine ⟨_,(a6 (cg (ud (c_ e5 (ny br (bB (bB (U 0) rfl) rfl) (U 1) (fun _ _=>rfl)) (bB (U 0) rfl) (cC _)) cX cX))),?_⟩;rw [gn] at bG;nofun;have a5:=fT.k (k:=bT d.name) gw;rw [aM] at a5;refine ⟨_,iq T bG,_,rfl,_,z8 T aq,_,rfl,_,a5,_,px T bG,rfl,?_⟩;unfold tf at q;rw [aC] at q;by_cases hm:j=i
 .rw [if_pos (by rw [hm])] at q;rw [hm,if_pos (show decide (V.int ((i:Nat):Int)=jd (some i))=true from decide_eq_true rfl)];exact q
 .rw [if_neg (fun z=>hm (dU z))] at q;rw [if_neg (show ¬ decide (V.int ((j:Nat):Int)=jd (some i))=true from fun z=>hm (by have z:=of_decide_eq_true z;injection z with z;omega))];exact q
noncomputable def qD (n:Int) (ds:List bj) (rows:List ST) (i j:Nat):Int:=match rows[i]?,rows[j]? with
 | some r,some s=>((lx n ds r.mem s.mem).max?).getD 0
 | _,_=>0
theorem Qf {rows:List ST} (ah:rows[i]? = some r) (aM:rows[j]? = some s) (h:sh (lx n ds r.mem s.mem) v):qD n ds rows i j=v:=by
 unfold qD;rw [ah,aM];show ((lx n ds r.mem s.mem).max?).getD 0=v;rw [(List.max?_eq_some_iff (xs:=lx n ds r.mem s.mem) (a:=v)).mpr ⟨h.1,h.2⟩];rfl
noncomputable def uZ (n:Int) (ds:List bj) (rows:List ST) (s:f') (d:bj):Str:=if ip rows d.name=some s.lf/\s.dq < mb d then ae "fade" else if ip rows d.name=some s.bC/\qD n ds rows s.lf s.bC - s.dq <= mc d then ae "ready" else ae "stop"
noncomputable def fB (n:Int) (ds:List bj) (rows:List ST) (s:f') (d:bj):Str:=match s.b6 with
 | some i=>tf rows i d.name
 | none=>uZ n ds rows s d
section
variable (P:Program) (w:World)
def W2 (t:bM):bP:=fun vs H Q _=>∃ k aU az aT s c n ds rows,∃ i:Nat,∃ d:bj,vs=[.ref k,.str d.name]/\d_ t H k aU az aT s/\gp P w t H aU c n ds rows/\told rows d.name=true/\ds[i]? = some d/\s.lf < rows.length/\s.bC < rows.length/\s.lf ≠ s.bC/\aP H/\Q (.str (uZ n ds rows s d)) H
end
theorem ajb:cu P base T 3 t.CO t.re gL (W2 P w t):=by
 refine cy (sv T) fun jS=>cy (Ri T) fun HE=>?_;have IH:pk P w K mg base dr 2 (tG t) "ready" ["self"] (tK t):=yY (NT T) (by decide);have Hf:pk P w K mg base dr 2 (tG t) "fade" ["self"] (u_ t):=yY (Qd T) (by decide);exists T.U9.ok HB,9
 obtain ⟨k,aU,az,aT,s',c,n,ds,rows,i,d,rfl,⟨_,ao,bG,cT,dY⟩,dC,cK,hd,rn,VC,bX,bN,q⟩:=h;obtain ⟨jN,le,mo,c4,c1,aQ,ch,ms,kvs,aq,C,bL,ek,fG,es,gw,j8,kq⟩:=id dC;have br:=hh ak;obtain ⟨⟨e7,fj⟩,CC,wl,aG,cc,_,_⟩:=id C;obtain ⟨j,r,aM,aC,iX,_⟩:=ox cK;have a5:=fT.k (k:=bT d.name) gw;rw [aM] at a5;refine ⟨_,(aW (b5 (i:=2) HB.aG (eX (bB (bB (U 0) rfl) rfl) T.hq T.mW jS ak T.mM .nil cx (ai (U 1) aE)))
   (aW (b5 (i:=3) HB.aG (ny br (bB (bB (U 0) rfl) rfl) (U 1) (fun _ _=>rfl)))
   (aW (dK (hH.pt (pO (c_ e5 (U 3) (bB (U 0) rfl) (cC _)) (pC (c_ lu (bB (U 0) rfl) (z2 (U 2) Hf ak cx) (cC _))))) (a6 (cg cX)) eu)
   (aW (dK (hH.pt (pO (c_ e5 (U 3) (bB (U 0) rfl) (cC _)) (pC (c_ acs (bF l_ (cn HE ak T.MR T.B2.bH T.TD (ai (bB (U 0) rfl) (ai (bB (U 0) rfl) (ai (bB (U 0) rfl) aE)))) (bB (U 0) rfl)) (z2 (U 2) IH ak cx) (cC _))))) (a6 (cg cX)) eu)
   (a6 (cg cX)))))),?_⟩
 exists (fun ax I=>I=H/\∃ a,eB t H a d/\ax=[~~~k,some (.str d.name),~~~a,none]),5
 .nofun;exact ⟨_,iq T bG,_,rfl,_,vp T aq,_,rfl,_,_,cc,jk _ _ _ (by ac_nf),c,n,ds,i,d,rfl,C,hd,fun a W=>cQ _ _ ⟨rfl,a,W,rfl⟩⟩
 rintro f_ H1 ⟨rfl,a,W,rfl⟩;subst ba;exists (fun ax I=>I=H1/\ax=[~~~k,some (.str d.name),~~~a,some (.int (j:Nat))]),5
 .nofun;exact ⟨_,iq T bG,_,rfl,_,z8 T aq,_,rfl,_,a5,cQ _ _ ⟨rfl,rfl⟩⟩
 rintro cz aw ⟨rfl,rfl⟩;obtain ⟨tT,UO,qF⟩:=id W;subst ba;unfold uZ at q;rw [aC] at q;simp only [dG];refine qK (fun ax I=>I=aw/\¬ (some j=some s'.lf/\s'.dq < mb d)/\ax=[~~~k,some (.str d.name),~~~a,some (.int (j:Nat))]) (fun fk cQ lW _ _=>?_) ?_
 .refine dW (decide (j=s'.lf) && decide (s'.dq < mb d)) (fun jf a8=>?_) (fun ab=>?_) (fun ab=>?_)
  .nofun;refine ⟨_,G_ T bG,rfl,?_⟩;by_cases bZ:j=s'.lf
   .rw [decide_eq_true bZ,lK] at a8;rw [if_pos (show decide (V.int ((j:Nat):Int)=V.int ((s'.lf:Nat):Int))=true from decide_eq_true (by rw [bZ]))];exact ⟨_,Ik T bG,_,_,_,qF,⟨_,tT,rfl⟩,Al (by ac_nf),a,d,rfl,W,rfl,_,rfl,_,rfl,a8⟩
   .rw [decide_eq_false bZ,mu] at a8;rw [if_neg (show ¬ decide (V.int ((j:Nat):Int)=V.int ((s'.lf:Nat):Int))=true from fun z=>bZ (by have z:=of_decide_eq_true z;injection z with z;omega))];exact a8
  .rw [iE,decide_eq_true_eq,decide_eq_true_eq] at ab;rw [if_pos ⟨by rw [ab.1],ab.2⟩] at q;nofun;rw [lW];exact q
  .simp only [iy];refine cQ _ _ ⟨rfl,fun z=>?_,rfl⟩;rw [decide_eq_true (dU z.1),decide_eq_true z.2] at ab;cases ab
 rintro gb bw ⟨rfl,K2,rfl⟩;rw [if_neg K2] at q;simp only [dG];refine qK (fun ax I=>I=bw/\¬ (some j=some s'.bC/\qD n ds rows s'.lf s'.bC - s'.dq <= mc d)/\ax=[~~~k,some (.str d.name),~~~a,some (.int (j:Nat))]) (fun fk cQ lW _ _=>?_) ?_
 .refine dW (decide (j=s'.bC) && decide (qD n ds rows s'.lf s'.bC - s'.dq <= mc d)) (fun jf a8=>?_) (fun ab=>?_) (fun ab=>?_)
  .nofun;refine ⟨_,xS T bG,rfl,?_⟩;by_cases bZ:j=s'.bC
   .rw [decide_eq_true bZ,lK] at a8;rw [if_pos (show decide (V.int ((j:Nat):Int)=V.int ((s'.bC:Nat):Int))=true from decide_eq_true (by rw [bZ]))];refine ⟨_,iq T bG,_,G_ T bG,_,xS T bG,aU,c,n,ds,rows,s'.lf,s'.bC,_,_,rfl,dC,bc rn,bc VC,bX,bN,fun v aF=>⟨_,Ik T bG,_,rfl,_,rfl,_,_,_,qF,⟨_,tT,rfl⟩,Al (by ac_nf),a,d,rfl,W,rfl,_,rfl,?_⟩⟩;rw [Qf (bc rn) (bc VC) aF] at a8;exact a8
   .rw [decide_eq_false bZ,mu] at a8;rw [if_neg (show ¬ decide (V.int ((j:Nat):Int)=V.int ((s'.bC:Nat):Int))=true from fun z=>bZ (by have z:=of_decide_eq_true z;injection z with z;omega))];exact a8
  .rw [iE,decide_eq_true_eq,decide_eq_true_eq] at ab;rw [if_pos ⟨by rw [ab.1],ab.2⟩] at q;nofun;rw [lW];exact q
  .simp only [iy];refine cQ _ _ ⟨rfl,fun z=>?_,rfl⟩;rw [decide_eq_true (dU z.1),decide_eq_true z.2] at ab;cases ab
 rintro kT cS ⟨rfl,oo,rfl⟩;rw [if_neg oo] at q;nofun;exact q
theorem akb {ds:List bj} (h:(ds.map (·.name)).Nodup) {i j:Nat} {d e:bj} (ah:ds[i]? = some d) (aM:ds[j]? = some e) (z:d.name=e.name):i=j:=by
 obtain ⟨af,aq⟩:=cv.mp ah;obtain ⟨aj,aD⟩:=cv.mp aM;have e:(ds.map (·.name))[i]'(by simpa using af)=(ds.map (·.name))[j]'(by simpa using aj):=by
  rw [vQ,vQ,aq,aD];exact z
 exact (J' h).mp e
noncomputable def eG (ds:List bj) (f:bj->Str):List (Key × V):=ds.map fun d=>(bT d.name,V.str (f d))
theorem amD (ds:List bj) (f:bj->Str):qh (fun q=>cM q.fst) (eG ds f)=aL (ds.map (·.name)):=by
 unfold eG aL;rw [k_,k_];rfl
theorem aje {ds:List bj} {f:bj->Str} (h:(ds.map (·.name)).Nodup) {i:Nat} {d:bj} (hd:ds[i]? = some d):eb (eG (ds.take i) f) (bT d.name) (.str (f d))=eG (ds.take (i + 1)) f:=by
 unfold eb;have no:((eG (ds.take i) f).any fun cD=>decide (cD.1=bT d.name))=false:=by
  rw [J0];intro p ar;unfold eG at ar;obtain ⟨e,he,rfl⟩:=b1.mp ar;obtain ⟨j,aM⟩:=iN he;have lG:=(cv.mp aM).1;rw [hE] at lG;rw [uS (by omega)] at aM;simp only [decide_eq_true_eq];intro z;have:=akb h aM hd (n2 z);omega
 rw [if_neg (by rw [no];exact fK),j_ hd];unfold eG;rw [fS];rfl
theorem PA {ds:List bj} {f:bj->Str} (h:(ds.map (·.name)).Nodup) {i:Nat} {d:bj} (hd:ds[i]? = some d):cY (eG ds f) (bT d.name)=some (.str (f d)):=by
 have:∀ (l:List bj),(l.map (·.name)).Nodup->d ∈ l->cY (eG l f) (bT d.name)=some (.str (f d)):=fun l=>by
  induction l with
  | nil=>intro _ h;cases h
  | cons x l b'=>
   intro aY hm;by_cases c:x.name=d.name
   .have:x=d:=by
     rcases fi.mp hm with e | e
     .exact e.symm
     .exact absurd (b1.mpr ⟨d,e,c.symm⟩) (qj.mp aY).1
    subst this;simp [cY,eG]
   .have r9:d ∈ l:=by
     rcases fi.mp hm with e | e
     .exact absurd (by rw [e]) c
     .exact e
    have:=b' (qj.mp aY).2 r9;simp only [cY,eG,eN,qy] at this ⊢;simp [c] at this ⊢;exact this
 exact this ds h (cH hd)
def z4 (rows:List ST) (s:f'):Prop:=s.b6=none->s.lf < rows.length/\s.bC < rows.length/\s.lf ≠ s.bC
def GF (P:Program) (w:World) (t:bM):bP:=fun vs H Q _=>∃ k aU az aT s c n ds rows,vs=[.ref k]/\d_ t H k aU az aT s/\gp P w t H aU c n ds rows/\(∀ d ∈ ds,told rows d.name=true)/\z4 rows s/\aP H/\∀ p I,aS H I->aP I->H p=none->I p=some (.bx (eG ds (fB n ds rows s)))->Q (.ref p) I
theorem BB:cu P base T 4 t.uL t.xx ["self"] (GF P w t):=by
 refine cy (wu T) fun pf=>cy (ae' T) fun alO=>cy (ajb T) fun afW=>?_;exists T.Vw.ok L_,9
 obtain ⟨k,aU,az,aT,s',c,n,ds,rows,rfl,e8,dC,kr,X6,bN,q⟩:=h;have br:=hh ak;obtain ⟨_,ao,bG,cT,dY⟩:=id e8;obtain ⟨jN,le,mo,c4,c1,aQ,ch,ms,kvs,aq,C,_⟩:=id dC;obtain ⟨⟨e7,fj⟩,CC,wl,aG,cc,_,_⟩:=id C;refine ⟨_,(aW (b5 (i:=1) L_.aG vM)
   (aW (fU gi rfl (eA (gc (bB (bB (U 0) rfl) rfl) T.hq T.wG pf ak T.wW .nil cx)) (Db (i:=2) L_.aG) (a6 (p0 br (U 1) (U 2) (ud (c_ TB (bB (U 0) rfl) qb (cC _)) (eX (U 0) T.dI T.amO alO ak T.ag3 .nil cx (ai (U 2) aE)) (eX (U 0) T.dI T.ad6 afW ak T.ah5 .nil cx (ai (U 2) aE))) rfl)))
   (a6 (cg (U 1))))),?_⟩
 exists (fun ax I=>aS H I/\aP I/\∃ ej,H ej=none/\I ej=some (.bx [])/\ax=[~~~k,~~~ej,none]),4
 .nofun;exact fun ej pN=>cL _ _ ⟨bq pN,bN.upd,ej,pN,aX,rfl⟩
 rintro f_ H1 ⟨s1,b9,ej,pN,c9,rfl⟩;subst ba;nofun;refine ⟨_,iq T (s1 _ _ bG),_,rfl,_,vp T (s1 _ _ aq),_,rfl,_,_,s1 _ _ cc,jk _ _ _ (by ac_nf),c,n,ds,rfl,C.same s1,fun dN jQ=>⟨dN,rfl,⟨_,aB.of aX⟩,?_⟩⟩;refine d3.list (xs:=aL (ds.map (·.name))) (fun i σ I=>aS H I/\aP I/\I dN=some (.lst (aL (ds.map (·.name))))/\I ej=some (.bx (eG (ds.take i) (fB n ds rows s')))/\∃ y,σ=[~~~k,~~~ej,y]) ?_ ?_ ?_ ?_
 .exact ⟨s1.trans (bq jQ),b9.upd,aX,(bq jQ) _ _ c9,_,rfl⟩
 .rintro i σ I ah bl;ac_rfl
  obtain ⟨_,_,h,_⟩:=bl;subst ba;exact aB.of h
 .rintro i v σ I aF bl;ac_rfl
  obtain ⟨s2,cI,I7,u',y,rfl⟩:=bl;obtain ⟨x,ag,rfl⟩:=cf aF;obtain ⟨d,hd,rfl⟩:=cf ag;have s8:=cH hd;have hlen:(eG (ds.take i) (fB n ds rows s')).length <= 12:=by unfold eG;rw [a0,hE];omega
  have AA:upd I ej (.bx (eb (eG (ds.take i) (fB n ds rows s')) (bT d.name) (.str (fB n ds rows s' d)))) dN=some (.lst (aL (ds.map (·.name)))):=by
   rw [aH (b0 I7 u' (by intro z;cases z))];exact I7
  have yF:upd I ej (.bx (eb (eG (ds.take i) (fB n ds rows s')) (bT d.name) (.str (fB n ds rows s' d)))) ej=some (.bx (eG (ds.take (i + 1)) (fB n ds rows s'))):=by
   rw [aX,aje (f:=fB n ds rows s') e7 hd]
  subst ba;nofun;refine ⟨_,px T (s2 _ _ bG),?_⟩;cases gn:s'.b6 with
  | some C_=>
   have H2:fB n ds rows s' d=tf rows C_ d.name:=by unfold fB;rw [gn]
   rw [H2] at AA yF;rw [if_pos (by rfl)];exact ⟨_,_,s2 _ _ bG,ib _ _ _ _ _ _ _ _ (by ac_nf),k,aU,az,aT,s',C_,c,n,ds,rows,d,rfl,e8.same s2,gn,dC.same s2,kr d s8,_,kf.k (k:=bT d.name) u' (gQ hlen (by decide)),s2.fY pN,cI.upd,AA,yF,_,rfl⟩
  | none=>
   have H2:fB n ds rows s' d=uZ n ds rows s' d:=by unfold fB;rw [gn]
   rw [H2] at AA yF;obtain ⟨g1,g2,g3⟩:=X6 gn;rw [if_neg (by intro z;cases z)];exact ⟨_,_,s2 _ _ bG,ib _ _ _ _ _ _ _ _ (by ac_nf),k,aU,az,aT,s',c,n,ds,rows,i,d,rfl,e8.same s2,dC.same s2,kr d s8,hd,g1,g2,g3,cI,_,kf.k (k:=bT d.name) u' (gQ hlen (by decide)),s2.fY pN,cI.upd,AA,yF,_,rfl⟩
 .rintro σ I bl;ac_rfl
  obtain ⟨s2,cI,I7,u',y,rfl⟩:=bl;have kl:(aL (ds.map (·.name))).length=ds.length:=by unfold aL;simp
  subst ba;rw [kl,ig] at u';nofun;exact q ej I s2 cI pN u'
theorem c6.TH (hf:H d=some (.d6 o (.bx kvs))) (aJ:kvs.length <= sizeLine) (he:zs.length=kvs.length)
  (ay:∀ (i:Nat) (k:Key) (v z:V) (N:V->au->Prop),kvs[i]? = some (k,v)->zs[i]? = some z->N z H->g (cM k) dv H fun cz aw=>Sub dv cz/\bJ cz aw N) (hd:∀ p,H p=none->Q (.ref p) (upd H p (.lst zs))):c6 (E1 d o kvs) g oU bJ dv Q H:=by
 refine c6.of (n:=kvs.length) (fun i ys I=>I=H/\ys=zs.take i) aJ ⟨rfl,rfl⟩ (fun i ys I ah ⟨fD,_⟩=>by subst fD;exact ⟨hf,ah⟩) (fun ys I ⟨fD,_⟩=>by subst fD;exact ⟨hf,bW _⟩) (fun i ys I ah ⟨_,e⟩=>by rw [e,hE];omega) (fun i ys I x aw ah ⟨aq,aD⟩ y=>?_) (fun ys I ⟨aq,aD⟩ p ar=>?_)
 .obtain ⟨bL,k,v,aC,ek⟩:=y;subst aq bL ek;intro N bf;have fu:i < zs.length:=by omega
  have gk:zs[i]? = some zs[i]:=bc fu;exact ay i k v zs[i] (fun y cS=>N (ys ++ [y]) cS) aC gk (bf _ _ ⟨rfl,by rw [aD,pz,gk];rfl⟩)
 .subst aq;rw [aD,<- he,ig];exact hd p ar
noncomputable def w9 (ds:List bj) (rows:List ST) (x:Str):Str:=(((ip rows x).bind fun j=>rows[j]?).map (dO ds)).getD (ae "")
noncomputable def Bc (ds:List bj) (rows:List ST) (xs:List Str):Bool:=xs.any fun x=>decide (w9 ds rows x=eC)
section
variable (P:Program) (w:World)
def aa4 (t:bM):bP:=fun vs H Q _=>∃ cp k aU az aT s c n ds rows,vs=[.ref k]/\d_ t H k aU az aT s/\gp P w t cp aU c n ds rows/\aS cp H/\cp az=none/\(∀ x ∈ s.wt,told rows x=true)/\s.wt.length <= 12/\∀ I,aS H I->(aP H->aP I)->Q (.bo (Bc ds rows s.wt)) I
end
theorem ahc:cu P base T 1 t.CF t.LC ["self"] (aa4 P w t):=by
 exists T.Tt.ok On,9
 obtain ⟨cp,k,aU,az,aT,s',c,n,ds,rows,rfl,⟨_,ao,bG,cT,dY⟩,dC,s0,gG,cK,aA,q⟩:=h;obtain ⟨jN,le,mo,c4,c1,aQ,ch,ms,kvs,aq,C,bL,ek,fG,es,gw,j8,kq⟩:=id dC;have br:=hh ak;refine ⟨_,(a6 (cg (gD (Zb rfl) rfl T.FS alv (ai (ZC (hl rfl (RP (bB (U 0) rfl)) (gz (sc:=bz Hr) rfl (by ac_nf)) (N:=tY) (sel:=[none,some 0]) (gA (M:=["self"]) (by ac_nf)) (fA.of (fun _ _ _ _=>(Db (i:=0) (er (N:=tY) (by ac_nf) rfl))) (fun _ _ _ _=>⟨_,ix,by walk_at "B"⟩) (fun _ _ _ _=>⟨_,(hO e5 (cq lc (bB (bB (U 1) rfl) rfl) (ny br (bB (bB (U 1) rfl) rfl) (U 0) (fun _ _=>rfl))) cX (cC _)),by walk_at "B"⟩)))) aE)))),?_⟩;nofun;refine ⟨az,_,cT,_,ti T bG,_,rfl,_,cT,fun o=>?_⟩;have gs:(ef s'.wt).length=s'.wt.length:=by unfold ef;rw [a0]
 have oK:aS cp (upd H az (.d6 o (.bx (ef s'.wt)))):=fun b u e=>by rw [aH (dj e gG)];exact s0 _ _ e
 have zL:(upd H az (.d6 o (.bx (ef s'.wt)))) k=some (.ins t.c3 ao (fo aU (jd s'.b6) s'.c5 s'.lf s'.bC s'.dq az aT)):=by rw [aH (b0 bG cT (by intro z;cases z))];exact bG
 have ri:(upd H az (.d6 o (.bx (ef s'.wt)))) az=some (.d6 o (.bx (ef s'.wt))):=aX;refine c6.TH (zs:=(s'.wt.map fun x=>decide (w9 ds rows x=eC)).map V.bo) ri (by rw [gs];exact cP aA (by decide)) (by rw [a0,a0,gs]) (fun i ai6 v z N aC aJ bf=>?_) (fun p ar=>?_)
 .unfold ef at aC;obtain ⟨x,ag,ex⟩:=cf aC;cases ex;obtain ⟨b,ab,rfl⟩:=cf aJ;obtain ⟨fx,d7,rfl⟩:=cf ab;rw [ag] at d7;cases d7;obtain ⟨j,r,aM,gN,iX,_⟩:=ox (cK x (cH ag));have ay:w9 ds rows x=dO ds r:=by unfold w9;rw [gN,rA,iX];rfl
  rw [ay] at bf;have a5:=fT.k (k:=bT x) (oK _ _ gw);rw [aM] at a5;nofun;refine ⟨Sub.name,_,iq T zL,_,rfl,_,uD T (oK _ _ aq),_,iq T zL,_,rfl,_,z8 T (oK _ _ aq),_,rfl,_,a5,_,rfl,_,_,rfl,aB.of (oK _ _ es),_,cB (q_ (by rw [da,iX];rfl)),rfl,?_⟩;rw [show decide (V.str (dO ds r)=V.str (ae "trams"))=decide (dO ds r=eC) from decide_eq_decide.mpr ⟨fun z=>by injection z,fun z=>by rw [z]⟩];exact bf
 .have iw:p ≠ az:=fun z=>by rw [z,ri] at ar;cases ar
  have Ah:H p=none:=by rw [aH iw] at ar;exact ar
  refine ⟨o,by rw [aH (dg iw)];exact ri,p,rfl,_,aB.of (by rw [aH iw];exact aX),?_⟩;have he:((s'.wt.map fun x=>decide (w9 ds rows x=eC)).any id)=Bc ds rows s'.wt:=by unfold Bc;rw [ajr];rfl
  rw [he];refine q _ (fun b u e=>?_) (fun z=>((z.upd).upd).upd);by_cases bZ:b=az
  .subst bZ;rw [cT] at e;cases e;exact aX
  .rw [aH bZ,aH (dj e Ah),aH bZ];exact e
noncomputable def rW (ds:List bj) (rows:List ST) (s:f') (r:ST) (own:Bool):Bool:=s.wt.isEmpty || decide (s.c5 < r.lo) || (decide (s.c5 < r.ah) && own && !Bc ds rows s.wt)
def alY (P:Program) (w:World) (t:bM):bP:=fun vs H Q _=>∃ cp k aU az aT s c n ds rows,∃ i:Nat,∃ r own,vs=[.ref k,.bo own]/\d_ t H k aU az aT s/\s.b6=some i/\rows[i]? = some r/\gp P w t cp aU c n ds rows/\aS cp H/\cp az=none/\(∀ x ∈ s.wt,told rows x=true)/\s.wt.length <= 12/\∀ I,aS H I->(aP H->aP I)->Q (.bo (rW ds rows s r own)) I
theorem aeL:cu P base T 2 t.C2 t.Hp pe (alY P w t):=by
 refine cy (ahc T) fun afD=>?_;exists T.Do.ok akM,9
 obtain ⟨cp,k,aU,az,aT,s',c,n,ds,rows,i,r,own,rfl,e8,gn,jj,dC,s0,gG,cK,aA,q⟩:=h;obtain ⟨_,ao,bG,cT,dY⟩:=id e8;obtain ⟨jN,le,mo,c4,c1,aQ,ch,ms,kvs,aq,C,bL,ek,fG,es,gw,j8,kq⟩:=id (dC.same s0);have br:=hh ak;have lO:=bG;rw [gn] at lO;refine ⟨_,(aW (dK (hH.pt (qw (tH (y' (bB (U 0) rfl) (fun _=>rfl))) (tg (c_ lu (bB (U 0) rfl) (cq lc (bB (bB (U 0) rfl) rfl) (bB (U 0) rfl)) (cC _))))) (a6 (cg am)) eu)
   (a6 (cg (xB (hO lu (bB (U 0) rfl) (cq lc (bB (bB (U 0) rfl) rfl) (bB (U 0) rfl)) (cC _)) (xB (U 1) (u7 (S7 (gc (U 0) T.dI T.YG afD ak T.ahg .nil cx)))))))),?_⟩
 simp only [dG];refine qK (fun ax I=>I=H/\(s'.wt.isEmpty || decide (s'.c5 < r.lo))=false/\ax=[~~~k,some (.bo own)]) (fun fk cQ lW _ _=>?_) ?_
 .refine dW (s'.wt.isEmpty || decide (s'.c5 < r.lo)) (fun jf a8=>?_) (fun ab=>?_) (fun ab=>?_)
  .nofun;refine ⟨_,ti T bG,!s'.wt.isEmpty,.inr (.inr ⟨_,cT,?_⟩),?_⟩
   .cases s'.wt <;> rfl
   .cases ye:s'.wt.isEmpty with
    | true=>
     rw [ye] at a8;exact a8
    | false=>
     rw [ye,lN] at a8;exact ⟨_,O2 T bG,_,iq T bG,_,rfl,_,afw T aq,_,px T lO,_,rfl,_,_,rfl,aB.of bL,_,cB (by rw [da,jj];rfl),_,rfl,_,rfl,a8⟩
  .nofun;rw [lW];have:=q H (aS.refl H) (fun z=>z);unfold rW at this;rw [ab,su] at this;exact this
  .simp only [iy];exact cQ _ _ ⟨rfl,ab,rfl⟩
 rintro f_ H1 ⟨rfl,ab,rfl⟩;unfold rW at q;rw [ab] at q;nofun;refine ⟨_,O2 T bG,_,iq T bG,_,rfl,_,ac7 T aq,_,px T lO,_,rfl,_,_,rfl,aB.of ek,_,cB (by rw [da,jj];rfl),_,rfl,_,rfl,?_⟩;by_cases bZ:s'.c5 < r.ah
 .rw [if_pos (decide_eq_true bZ)];rw [decide_eq_true bZ,lK,lN] at q;cases own with
  | true=>
   rw [if_pos rfl];rw [lK] at q;exact ⟨_,_,bG,ib _ _ _ _ _ _ _ _ (by ac_nf),cp,k,aU,az,aT,s',c,n,ds,rows,rfl,e8,dC,s0,gG,cK,aA,fun I s1 b9=>⟨_,rfl,q I s1 b9⟩⟩
  | false=>
   rw [if_neg fK];rw [mu] at q;exact q _ (aS.refl _) (fun z=>z)
 .rw [if_neg (by simpa using bZ)];rw [decide_eq_false bZ,mu,mu,lN] at q;exact q _ (aS.refl _) (fun z=>z)
noncomputable def kU (n:Int) (ds:List bj) (rows:List ST) (s:f') (m:List Str):f':=if s.dq < qD n ds rows s.lf s.bC then s else { s with b6:=some s.bC,c5:=1,wt:=s.wt.filter fun x=>!decide (x ∈ m) }
theorem SI (ys:List Str) (x:Str):p3 (ef ys) (bT x)=ef (ys.filter fun y=>decide (y ≠ x)):=by
 unfold p3 ef;rw [List.filter_map];congr 1;refine T2 fun y _=>?_
 show decide ((bT y:Key) ≠ bT x)=decide (y ≠ x);exact decide_eq_decide.mpr ⟨fun z e=>z (by rw [e]),fun z e=>z (n2 e)⟩
theorem aiE {ms wt:List Str} {x:Str} (ag:ms[i]? = some x):(wt.filter fun y=>!decide (y ∈ ms.take (i + 1)))=(wt.filter fun y=>!decide (y ∈ ms.take i)).filter fun y=>decide (y ≠ x):=by
 rw [j_ ag,List.filter_filter];refine T2 fun y _=>?_
 rw [j'];simp;exact ⟨fun z=>⟨z.2,z.1⟩,fun z=>⟨z.2,z.1⟩⟩
def adf (P:Program) (w:World) (t:bM):bP:=fun vs H Q _=>∃ cp k aU az aT s c n ds rows r,vs=[.ref k]/\d_ t H k aU az aT s/\gp P w t cp aU c n ds rows/\aS cp H/\cp k=none/\cp az=none/\cp aT=none/\s.lf < rows.length/\rows[s.bC]? = some r/\s.lf ≠ s.bC/\r.mem.length <= 12/\aP H/\∀ I,g5 k az aT H I->aP I->d_ t I k aU az aT (kU n ds rows s r.mem)->Q .bO I
theorem PS:cu P base T 2 t.Cc t.Lm ["self"] (adf P w t):=by
 refine cy (Ri T) fun HE=>?_;exists T.U3.ok Ch,9
 obtain ⟨cp,k,aU,az,aT,s',c,n,ds,rows,r,rfl,e8,dC,s0,i3,gG,hC,rn,jj,bX,ml,bN,q⟩:=h;obtain ⟨dP,ao,bG,cT,dY⟩:=id e8;obtain ⟨jN,le,mo,c4,c1,aQ,ch,ms,kvs,aq,C,bL,ek,fG,es,gw,j8,kq⟩:=id (dC.same s0);have br:=hh ak;refine ⟨_,(aW (dK (c_ lu (bB (U 0) rfl) (cn HE ak T.MR T.B2.bH T.TD (ai (bB (U 0) rfl) (ai (bB (U 0) rfl) (ai (bB (U 0) rfl) aE)))) (cC _)) (a6 abY) eu)
   (aW (e6 (U 0) (bB (U 0) rfl) rfl)
   (aW (e6 (U 0) aR rfl)
   (a6 (fU gi rfl (eA (cq lc (bB (bB (U 0) rfl) rfl) (bB (U 0) rfl))) (Db (i:=1) Ch.aG) (a6 (dS (VX (bB (U 0) rfl) (U 1) qb ⟨rfl,rfl,rfl,rfl⟩)))))))),?_⟩
 simp only [dG];refine qK (fun ax I=>I=H/\¬ s'.dq < qD n ds rows s'.lf s'.bC/\ax=[~~~k,none]) (fun fk cQ lW _ _=>?_) ?_
 .refine dW (decide (s'.dq < qD n ds rows s'.lf s'.bC)) (fun jf a8=>?_) (fun ab=>?_) (fun ab=>?_)
  .nofun;refine ⟨_,Ik T bG,_,iq T bG,_,G_ T bG,_,xS T bG,aU,c,n,ds,rows,s'.lf,s'.bC,_,_,rfl,dC.same s0,bc rn,jj,bX,bN,fun v aF=>⟨_,rfl,_,rfl,?_⟩⟩;rw [Qf (bc rn) jj aF] at a8;exact a8
  .nofun;rw [lW];refine q H (g5.of (aS.refl H)) bN ?_;unfold kU;rw [if_pos (of_decide_eq_true ab)];exact e8
  .simp only [iy];exact cQ _ _ ⟨rfl,of_decide_eq_false ab,rfl⟩
 rintro f_ H1 ⟨rfl,ab,rfl⟩;unfold kU at q;rw [if_neg ab] at q;simp only [dG];exists (fun ax I=>g5 k az aT H1 I/\aP I/\d_ t I k aU az aT { s' with b6:=some s'.bC }/\ax=[~~~k,none]),2
 .nofun;refine ⟨_,xS T bG,_,_,_,bG,T.dI,T.BQ,by rw [<- a0 (f:=(·.1)),ce];decide,?_⟩;rw [Q9];exact cQ _ _ ⟨fun b u af _ _ e=>by rw [aH af];exact e,bN.upd,⟨dP,ao,aX,by rw [aH (b0 cT bG (by intro z;cases z))];exact cT,by rw [aH (b0 dY bG (by intro z;cases z))];exact dY⟩,rfl⟩
 rintro cz aw ⟨fb,cI,⟨_,vI,a1,a2,fX⟩,rfl⟩;subst ba;simp only [dG];exists (fun ax I=>g5 k az aT H1 I/\aP I/\d_ t I k aU az aT { s' with b6:=some s'.bC,c5:=1 }/\ax=[~~~k,none]),2
 .nofun;refine ⟨_,_,_,a1,T.dI,T.y0,by rw [<- a0 (f:=(·.1)),ce];decide,?_⟩;rw [M1];exact cQ _ _ ⟨fun b u af aj a' e=>by rw [aH af];exact fb _ _ af aj a' e,cI.upd,⟨dP,vI,aX,by rw [aH (b0 a2 a1 (by intro z;cases z))];exact a2,by rw [aH (b0 fX a1 (by intro z;cases z))];exact fX⟩,rfl⟩
 rintro gb bw ⟨gq,dA,sM,rfl⟩;obtain ⟨_,DW,gY,e9,lY⟩:=id sM;have s3:aS cp bw:=gq.wx s0 i3 gG hC;obtain ⟨R1,aoY,ang,am7,anw,pX,aoK,oW,aoc,tJ,_,_,_,Q5,_⟩:=id dC;have f1:=s3 _ _ tJ;have eW:=Q5.same s3;have O7:(rows.map (·.mem))[s'.bC]? = some r.mem:=by rw [da,jj];rfl
 have vw:s'.bC < oW.length:=by rw [eW.ln];exact (cv.mp O7).1
 have hm:=bc vw;have OE:=Q5.al _ _ _ hm O7;have em:=s3 _ _ OE;subst ba;nofun;refine ⟨_,iq T gY,_,rfl,_,Fb T f1,_,xS T gY,_,rfl,_,_,rfl,aB.of eW.at_,_,cB (by rw [da,hm];rfl),_,rfl,⟨_,aB.of em⟩,?_⟩;refine d3.list (xs:=aL r.mem) (fun i σ I=>g5 k az aT H1 I/\aP I/\d_ t I k aU az aT { s' with b6:=some s'.bC,c5:=1,wt:=s'.wt.filter fun y=>!decide (y ∈ r.mem.take i) }/\∃ y,σ=[~~~k,y]) ?_ ?_ ?_ ?_
 .refine ⟨gq,dA,?_,_,rfl⟩;rw [show (s'.wt.filter fun y=>!decide (y ∈ r.mem.take 0))=s'.wt by simp];exact sM
 .rintro i σ I ah bl;ac_rfl
  obtain ⟨dB,_,_,_⟩:=bl;subst ba;exact aB.of (dB.wx s0 i3 gG hC _ _ OE)
 .rintro i v σ I aF bl;ac_rfl
  obtain ⟨dB,d5,⟨_,BG,cc,cU,qn⟩,y,rfl⟩:=bl;subst ba;unfold aL at aF;obtain ⟨x,ag,rfl⟩:=cf aF;have O1:=aiE (wt:=s'.wt) ag;nofun;refine ⟨_,ti T cc,_,rfl,.inl ⟨_,.inl cU⟩,_,cU,bT x,rfl,fun v aF=>?_,fun aF=>?_⟩
  .refine ⟨fun b u af aj a' e=>by rw [aH aj];exact dB _ _ af aj a' e,d5.upd,?_,_,rfl⟩;refine ⟨dP,BG,by rw [aH (b0 cc cU (by intro z;cases z))];exact cc,?_,by rw [aH (dg dP)];exact qn⟩;rw [aX,SI,<- O1]
  .refine ⟨dB,d5,?_,_,rfl⟩;have sD:x ∉ s'.wt.filter fun y=>!decide (y ∈ r.mem.take i):=fun z=>by
    have:=BN (s'.wt.filter fun y=>!decide (y ∈ r.mem.take i)) x;rw [aF,decide_eq_true z] at this;cases this
   have lA:(s'.wt.filter fun y=>!decide (y ∈ r.mem.take i)).filter (fun y=>decide (y ≠ x))=s'.wt.filter fun y=>!decide (y ∈ r.mem.take i):=List.filter_eq_self.mpr fun y bh=>decide_eq_true (show y ≠ x from fun z=>sD (by rw [<- z];exact bh))
   rw [O1,lA];exact ⟨dP,BG,cc,cU,qn⟩
 .rintro σ I bl;ac_rfl
  obtain ⟨dB,d5,l5,y,rfl⟩:=bl;subst ba;rw [eF,ig] at l5;nofun;exact q I dB d5 l5
noncomputable def Bb (s:f') (i j:Nat) (c1:Str):f':={ s with b6:=none,lf:=i,bC:=j,dq:=0,pt:=if c1=eC then (j:Int) else s.pt,po:=if c1=eC then s.po else (j:Int) }
def aml (P:Program) (w:World) (t:bM):bP:=fun vs H Q _=>∃ cp k aU az aT s c n ds rows,∃ i j:Nat,∃ r,vs=[.ref k,.int (j:Nat)]/\d_ t H k aU az aT s/\s.b6=some i/\gp P w t cp aU c n ds rows/\aS cp H/\cp k=none/\cp az=none/\cp aT=none/\i < rows.length/\rows[j]? = some r/\i ≠ j/\r.mem.length <= 12/\(dO ds r=eC\/dO ds r=k5)/\aP H/\∀ I,g5 k az aT H I->aP I->d_ t I k aU az aT (kU n ds rows (Bb s i j (dO ds r)) r.mem)->Q .bO I
theorem ajN:cu P base T 3 t.Du t.DU zH (aml P w t):=by
 refine cy (PS T) fun KD=>?_;exists T.Ut.ok ajR,9
 obtain ⟨cp,k,aU,az,aT,s',c,n,ds,rows,i,j,r,rfl,e8,gn,dC,s0,i3,gG,hC,iQ,hy,n6,ml,qk,bN,q⟩:=h;obtain ⟨dP,ao,bG,cT,dY⟩:=id e8;obtain ⟨jN,le,mo,c4,c1,aQ,ch,ms,kvs,aq,C,bL,ek,fG,es,gw,j8,kq⟩:=id (dC.same s0);have br:=hh ak;refine ⟨_,(aW (p0 br (bB (U 0) rfl) (cq lc (bB (bB (U 0) rfl) rfl) (U 1)) (U 1) rfl)
   (aW (e6 (U 0) (bB (U 0) rfl) rfl)
   (aW (e6 (U 0) (U 1) rfl)
   (aW (e6 (U 0) aR rfl)
   (aW (e6 (U 0) qb rfl)
   (a6 (dS (gc (U 0) T.dI T.NF KD ak T.Vr .nil cx)))))))),?_⟩
 exists (fun ax I=>g5 k az aT H I/\aP I/\d_ t I k aU az aT { s' with pt:=if dO ds r=eC then (j:Int) else s'.pt,po:=if dO ds r=eC then s'.po else (j:Int) }/\ax=[~~~k,some (.int (j:Nat))]),5
 .nofun;refine ⟨_,Kr T bG,_,iq T bG,_,rfl,_,uD T aq,_,rfl,_,aB.of es,_,cB (q_ (by rw [da,hy];rfl)),_,rfl,_,kf.k (k:=bT (dO ds r)) dY (gQ (show (lq s'.pt s'.po).length <= 2 from bW 2) (by decide)),cQ _ _ ⟨fun b u _ _ a' e=>by rw [aH a'];exact e,bN.upd,⟨dP,ao,by rw [aH (b0 bG dY (by intro z;cases z))];exact bG,by rw [aH dP];exact cT,by rw [aX,R4 qk]⟩,rfl⟩⟩
 rintro f_ H1 ⟨b3,b9,⟨_,ew,a1,gY,cc⟩,rfl⟩;have UQ:=a1;subst ba;rw [show ({ s' with pt:=if dO ds r=eC then (j:Int) else s'.pt,po:=if dO ds r=eC then s'.po else (j:Int) }:f').b6=some i from gn] at UQ;exists (fun ax I=>g5 k az aT H I/\aP I/\d_ t I k aU az aT { s' with pt:=if dO ds r=eC then (j:Int) else s'.pt,po:=if dO ds r=eC then s'.po else (j:Int),lf:=i }/\ax=[~~~k,some (.int (j:Nat))]),5
 .nofun;refine ⟨_,px T UQ,_,_,_,a1,T.dI,T.Jc,by rw [<- a0 (f:=(·.1)),ce];decide,?_⟩;rw [show jd (some i)=V.int (i:Nat) from rfl,al6];exact cQ _ _ ⟨fun b u af aj a' e=>by rw [aH af];exact b3 _ _ af aj a' e,b9.upd,⟨dP,ew,aX,by rw [aH (b0 gY a1 (by intro z;cases z))];exact gY,by rw [aH (b0 cc a1 (by intro z;cases z))];exact cc⟩,rfl⟩
 rintro cz aw ⟨fb,cI,⟨_,e',a2,e9,cU⟩,rfl⟩;subst ba;exists (fun ax I=>g5 k az aT H I/\aP I/\d_ t I k aU az aT { s' with pt:=if dO ds r=eC then (j:Int) else s'.pt,po:=if dO ds r=eC then s'.po else (j:Int),lf:=i,bC:=j }/\ax=[~~~k,some (.int (j:Nat))]),5
 .nofun;refine ⟨_,_,_,a2,T.dI,T.ID,by rw [<- a0 (f:=(·.1)),ce];decide,?_⟩;rw [aiZ];exact cQ _ _ ⟨fun b u af aj a' e=>by rw [aH af];exact fb _ _ af aj a' e,cI.upd,⟨dP,e',aX,by rw [aH (b0 e9 a2 (by intro z;cases z))];exact e9,by rw [aH (b0 cU a2 (by intro z;cases z))];exact cU⟩,rfl⟩
 rintro gb bw ⟨gq,dA,⟨_,WT,fX,lY,qn⟩,rfl⟩;subst ba;exists (fun ax I=>g5 k az aT H I/\aP I/\d_ t I k aU az aT { s' with pt:=if dO ds r=eC then (j:Int) else s'.pt,po:=if dO ds r=eC then s'.po else (j:Int),lf:=i,bC:=j,dq:=0 }/\ax=[~~~k,some (.int (j:Nat))]),5
 .nofun;refine ⟨_,_,_,fX,T.dI,T.zI,by rw [<- a0 (f:=(·.1)),ce];decide,?_⟩;rw [T7];exact cQ _ _ ⟨fun b u af aj a' e=>by rw [aH af];exact gq _ _ af aj a' e,dA.upd,⟨dP,WT,aX,by rw [aH (b0 lY fX (by intro z;cases z))];exact lY,by rw [aH (b0 qn fX (by intro z;cases z))];exact qn⟩,rfl⟩
 rintro kT cS ⟨dB,d5,⟨_,y_,oV,wm,wQ⟩,rfl⟩;subst ba;exists (fun ax I=>g5 k az aT H I/\aP I/\d_ t I k aU az aT { s' with pt:=if dO ds r=eC then (j:Int) else s'.pt,po:=if dO ds r=eC then s'.po else (j:Int),lf:=i,bC:=j,dq:=0,b6:=none }/\ax=[~~~k,some (.int (j:Nat))]),5
 .nofun;refine ⟨_,_,_,oV,T.dI,T.BQ,by rw [<- a0 (f:=(·.1)),ce];decide,?_⟩;rw [Q9];exact cQ _ _ ⟨fun b u af aj a' e=>by rw [aH af];exact dB _ _ af aj a' e,d5.upd,⟨dP,y_,aX,by rw [aH (b0 wm oV (by intro z;cases z))];exact wm,by rw [aH (b0 wQ oV (by intro z;cases z))];exact wQ⟩,rfl⟩
 rintro rO d1 ⟨eK,jC,pq,rfl⟩;obtain ⟨_,apA,ahK,_,_⟩:=id pq;subst ba;nofun;exact ⟨_,_,ahK,ib _ _ _ _ _ _ _ _ (by ac_nf),cp,k,aU,az,aT,_,c,n,ds,rows,r,rfl,pq,dC,eK.wx s0 i3 gG hC,i3,gG,hC,iQ,hy,n6,ml,jC,fun I fx ih rB=>q I (eK.trans fx) ih rB⟩
noncomputable abbrev aaO:Str:=ae "Keeper.pick" ++ ae ".<locals>." ++ ae "<lambda>"
theorem Ev:zP "number" "many" "last" (acg (Oz tQ)):=⟨rfl,rfl,rfl,by ac_nf,rfl,rfl,rfl,by ac_nf,by ac_nf⟩
noncomputable abbrev kJ (Pt:Addr) (H:au):Prop:=Tab H Pt (aaz (Oz tQ)) aaO
noncomputable def h8 (ds:List bj) (rows:List ST) (j:Nat):Str:=((rows[j]?).map (dO ds)).getD (ae "")
noncomputable def uB (rows:List ST) (x:Str):Nat:=(ip rows x).getD 0
noncomputable def mv (rows:List ST) (s:f'):List Nat:=s.wt.map (uB rows)
noncomputable def uA (ds:List bj) (rows:List ST) (s:f') (i:Nat):List Nat:=(mv rows s).filter fun j=>!decide (h8 ds rows j=h8 ds rows i)
noncomputable def jI (ds:List bj) (rows:List ST) (s:f') (i:Nat):List Nat:=if (uA ds rows s i).isEmpty then mv rows s else uA ds rows s i
noncomputable def uY (ds:List bj) (rows:List ST) (s:f') (ch:List Nat):Int:=if h8 ds rows (ch.headD 0)=eC then s.pt else s.po
noncomputable def Gu (last many m:Int):Int:=(m - last - 1) % many
def Wq (ds:List bj) (rows:List ST) (s:f') (i j:Nat):Prop:=j ∈ jI ds rows s i/\∀ hT ∈ jI ds rows s i,Gu (uY ds rows s (jI ds rows s i)) rows.length j <= Gu (uY ds rows s (jI ds rows s i)) rows.length hT
def ag4 (P:Program) (w:World) (t:bM) (Pt:Addr):bP:=fun vs H Q _=>∃ cp k aU az aT s c n ds rows,∃ i:Nat,vs=[.ref k]/\d_ t H k aU az aT s/\s.b6=some i/\i < rows.length/\gp P w t cp aU c n ds rows/\aS cp H/\cp az=none/\(∀ x ∈ s.wt,told rows x=true)/\s.wt ≠ []/\s.wt.length <= 12/\(∀ r ∈ rows,dO ds r=eC\/dO ds r=k5)/\kJ Pt H/\aP H /\
 ∀ (j:Nat) I,lb Pt H I->aP I->kJ Pt I->Wq ds rows s i j->Q (.int j) I
theorem ams {rows:List ST} {x:Str} (h:told rows x=true):uB rows x < rows.length:=by
 obtain ⟨j,r,aM,aC,iX,_⟩:=ox h;unfold uB;rw [aC];exact (cv.mp iX).1
theorem Kt {rows:List ST} (h:∀ x ∈ s.wt,told rows x=true):∀ j ∈ mv rows s,j < rows.length:=fun j aM=>by
 obtain ⟨x,ag,rfl⟩:=b1.mp aM;exact ams (h x ag)
theorem SJ {rows:List ST} (h:∀ x ∈ s.wt,told rows x=true):∀ j ∈ jI ds rows s i,j < rows.length:=fun j aM=>by
 unfold jI at aM;split at aM
 .exact Kt h j aM
 .exact Kt h j (kV.mp aM).1
theorem Tg {rows:List ST} (h:s.wt ≠ []):jI ds rows s i ≠ []:=by
 unfold jI;split
 .unfold mv;simpa using h
 .rename_i af;simpa using af
theorem HP {rows:List ST} (h:j < rows.length):(rows.map (dO ds))[j]? = some (h8 ds rows j):=by
 unfold h8;rw [da,bc h];rfl
noncomputable def kC (zF:List Nat):List V:=zF.map fun j=>V.int (j:Nat)
theorem alx (zF:List Nat):kC zF=qh V.int (zF.map fun j=>((j:Nat):Int)):=by
 unfold kC;rw [k_];rfl
theorem QN (p:Nat->Bool):∀ xs:List Nat,((xs.map fun x=>if p x=true then some (V.int (x:Nat)) else none).flatMap zW)=kC (xs.filter p)
 | []=>rfl
 | x :: xs=>by
  rw [eN,wb,QN p xs];cases h:p x <;> simp [kC,h]
theorem afu (cj:mS base t.n' Pt) (hg:base.BuiltinsAt mg Pt):cu P base T 2 t.AF t.yE ["self"] (ag4 P w t Pt):=by
 have acH:=T.sw;refine T.Rj.ahV sJ (fun vs H Q E h=>?_) (fun eP jG A outer s H vs Q E ak h=>?_)
 .obtain ⟨cp,k,aU,az,aT,s',c,n,ds,rows,i,rfl,_⟩:=h;rfl
 obtain ⟨cp,k,aU,az,aT,s',c,n,ds,rows,i,rfl,⟨dP,ao,bG,cT,dY⟩,gn,iQ,dC,s0,gG,cK,bX,aA,qk,bK,bN,q⟩:=h;obtain ⟨jN,le,mo,c4,c1,aQ,ch,ms,kvs,aq,C,bL,ek,fG,es,gw,j8,kq⟩:=id dC;have br:=hh ak;refine ⟨_,(aW (ail (Ln (i:=1) sJ.aG rfl (oj rfl) rfl (RP (bB (U 0) rfl)) (gz (sc:=bz tQ) rfl (by ac_nf)) (N:=tY) (sel:=[none,some 0]) (gA (M:=Ir) (by ac_nf)) (fA.of (fun _ _ _ _=>(Db (i:=0) (er (N:=tY) (by ac_nf) rfl))) (fun _ _ _ _=>⟨_,ix,by walk_at "B"⟩) (fun _ _ _ _=>⟨_,(ny br (bB (bB (U 1) rfl) rfl) (U 0) (fun _ _=>rfl)),by walk_at "B"⟩)) rfl))
   (aW (oT (i:=2) sJ.aG rfl (m3 rfl) (cq lc (bB (bB (U 0) rfl) rfl) (bB (U 0) rfl)))
   (aW (Ln (i:=3) sJ.aG rfl (oj rfl) rfl (eA (U 1)) (gz (sc:=bz tQ) rfl (by ac_nf)) (N:=["number","self","same"]) (sel:=[none,some 0,some 2]) (gA (M:=Ir) (by ac_nf)) (fA.of (fun _ _ _ _=>(Db (i:=0) (er (N:=["number","self","same"]) (by ac_nf) rfl))) (fun _ _ _ _=>⟨_,(sG (c_ qO (cq lc (bB (bB (U 1) rfl) rfl) (U 0)) (U 2) (cC _))),by walk_at "B"⟩) (fun _ _ _ _=>⟨_,(U 0),by walk_at "B"⟩)) rfl)
   (aW (b5 (i:=4) sJ.aG (ud (y' (U 3) (fun _=>rfl)) (U 3) (U 1)))
   (aW (oT (i:=5) sJ.aG rfl (m3 rfl) (ny br (bB (U 0) rfl) (cq lc (bB (bB (U 0) rfl) rfl) (cq lc (U 4) aR)) (fun _ _=>rfl)))
   (aW (oT (i:=6) sJ.aG rfl (m3 rfl) (bB (bB (U 0) rfl) rfl))
   (a6 (cg (akN (pr := "number") (y := "many") (z := "last") (i1:=6) (i2:=5) rfl rfl T.ZV (ai (U 4) aE) ⟨jG.symm.trans acH,cj,hg⟩ ak Ev rfl rfl rfl rfl rfl rfl rfl rfl (fun _ _ _ _=>rfl) (fun _ _ _ _=>⟨_,(bF jn (bF l_ (bF l_ (U 0) (U 2)) aR) (U 1)),by first | rfl | (dsimp only [rj];done) | (dsimp only [rj];exact rfl)⟩)))))))))),?_⟩
 simp only [dG];exists (fun ax I=>aS H I/\aP I/\∃ wp,H wp=none/\I wp=some (.lst (kC (mv rows s')))/\ax=[~~~k,~~~wp,none,none,none,none,none]),2
 .nofun;refine ⟨az,_,cT,_,ti T bG,_,rfl,_,cT,fun o=>?_⟩;have gs:(ef s'.wt).length=s'.wt.length:=by unfold ef;rw [a0]
  have oK:aS cp (upd H az (.d6 o (.bx (ef s'.wt)))):=fun b u e=>by rw [aH (dj e gG)];exact s0 _ _ e
  have zL:(upd H az (.d6 o (.bx (ef s'.wt)))) k=some (.ins t.c3 ao (fo aU (jd s'.b6) s'.c5 s'.lf s'.bC s'.dq az aT)):=by rw [aH (b0 bG cT (by intro z;cases z))];exact bG
  have ri:(upd H az (.d6 o (.bx (ef s'.wt)))) az=some (.d6 o (.bx (ef s'.wt))):=aX;refine c6.TH (zs:=kC (mv rows s')) ri (by rw [gs];exact cP aA (by decide)) (by unfold kC mv;rw [a0,a0,gs]) (fun g_ ai6 v z N aC aJ bf=>?_) (fun p ar=>?_)
  .unfold ef at aC;obtain ⟨x,ag,ex⟩:=cf aC;cases ex;unfold kC mv at aJ;obtain ⟨hT,ab,rfl⟩:=cf aJ;obtain ⟨fx,d7,rfl⟩:=cf ab;rw [ag] at d7;cases d7;obtain ⟨j,r,aM,gN,iX,_⟩:=ox (cK x (cH ag));have a5:=fT.k (k:=bT x) (oK _ _ gw);rw [aM] at a5;have he:uB rows x=j:=by unfold uB;rw [gN];rfl
   rw [he] at bf;nofun;exact ⟨Sub.name,_,iq T zL,_,rfl,_,z8 T (oK _ _ aq),_,rfl,_,a5,bf⟩
  .have iw:p ≠ az:=fun z=>by rw [z,ri] at ar;cases ar
   have Ah:H p=none:=by rw [aH iw] at ar;exact ar
   refine ⟨o,by rw [aH (dg iw)];exact ri,cQ _ _ ⟨fun b u e=>?_,bN.upd.upd.upd,p,Ah,by rw [aH iw];exact aX,rfl⟩⟩;by_cases bZ:b=az
   .subst bZ;rw [cT] at e;cases e;exact aX
   .rw [aH bZ,aH (dj e Ah),aH bZ];exact e
 rintro f_ H1 ⟨s1,b9,wp,u4,c9,rfl⟩;subst ba;simp only [dG];exists (fun ax I=>I=H1/\ax=[~~~k,~~~wp,some (.str (h8 ds rows i)),none,none,none,none]),2
 .nofun;have lO:=s1 _ _ bG;rw [gn] at lO;exact ⟨_,iq T lO,_,rfl,_,uD T (s1 _ _ (s0 _ _ aq)),_,px T lO,_,rfl,_,_,rfl,aB.of (s1 _ _ (s0 _ _ es)),_,cB (q_ (HP iQ)),cQ _ _ ⟨rfl,rfl⟩⟩
 rintro cz aw ⟨rfl,rfl⟩;subst ba;simp only [dG];exists (fun ax I=>aS aw I/\aP I/\∃ op,aw op=none/\I op=some (.lst (kC (uA ds rows s' i)))/\ax=[~~~k,~~~wp,some (.str (h8 ds rows i)),~~~op,none,none,none]),2
 .nofun;refine ⟨⟨_,aB.of c9⟩,?_⟩;refine c6.sj (xs:=kC (mv rows s')) (ss:=(mv rows s').map fun j=>if (!decide (h8 ds rows j=h8 ds rows i))=true then some (V.int (j:Nat)) else none) (aB.of c9) (by unfold kC mv;rw [a0,a0];exact cP aA (by decide)) (by unfold kC;rw [a0,a0]) (fun g_ v o ys N aF aQ bf=>?_) (fun l CL=>?_)
  .unfold kC at aF;obtain ⟨j,aM,rfl⟩:=cf aF;obtain ⟨hT,fN,rfl⟩:=cf aQ;rw [aM] at fN;cases fN;have lG:=Kt cK j (cH aM);nofun;refine ⟨Sub.name,_,iq T (s1 _ _ bG),_,rfl,_,uD T (s1 _ _ (s0 _ _ aq)),_,rfl,_,aB.of (s1 _ _ (s0 _ _ es)),_,cB (q_ (HP lG)),rfl,?_⟩;by_cases bZ:h8 ds rows j=h8 ds rows i
   .rw [if_neg (by rw [bZ,decide_eq_true rfl];exact fK)];simp [bZ] at bf;exact bf
   .rw [if_pos (by rw [decide_eq_false (fun z=>bZ (by injection z))];rfl)];simp [bZ] at bf;exact bf
  .rw [QN];exact cQ _ _ ⟨bq CL,b9.upd,l,CL,aX,rfl⟩
 rintro gb bw ⟨s3,dA,op,am0,V8,rfl⟩;have hx:=s3 _ _ c9;subst ba;simp only [dG];exists (fun ax I=>I=bw/\∃ ta,bw ta=some (.lst (kC (jI ds rows s' i)))/\ax=[~~~k,~~~wp,some (.str (h8 ds rows i)),~~~op,~~~ta,none,none]),2
 .nofun;refine ⟨!(uA ds rows s' i).isEmpty,.inl ⟨_,aB.of V8,?_⟩,?_⟩
  .unfold kC;cases uA ds rows s' i <;> rfl
  .cases Nh:(uA ds rows s' i).isEmpty with
   | true=>
    rw [if_neg (by rw [aaV];exact fK)];exact cQ _ _ ⟨rfl,wp,by unfold jI;rw [if_pos Nh];exact hx,rfl⟩
   | false=>
    rw [if_pos (by rfl)];exact cQ _ _ ⟨rfl,op,by unfold jI;rw [if_neg (by rw [Nh];exact fK)];exact V8,rfl⟩
 rintro kT cS ⟨rfl,ta,wQ,rfl⟩;subst ba;simp only [dG];exists (fun ax I=>I=cS/\ax=[~~~k,~~~wp,some (.str (h8 ds rows i)),~~~op,~~~ta,some (.int (uY ds rows s' (jI ds rows s' i))),none]),2
 .nofun;have Qw:=s3 _ _ (s1 _ _ bG);have uM:∀ {b u},cp b=some u->cS b=some u:=fun e=>s3 _ _ (s1 _ _ (s0 _ _ e))
  obtain ⟨vq,rest,hD⟩:=tO (Tg (ds:=ds) (rows:=rows) (i:=i) bX);have o':vq < rows.length:=SJ cK vq (by rw [hD];exact .head _);have abZ:=HP (ds:=ds) o';have aic:h8 ds rows vq=eC\/h8 ds rows vq=k5:=by
   unfold h8;rw [bc o'];exact qk _ (jq o')
  have uR:=adY (a:=s'.pt) (b:=s'.po) aic;have a5:=fT.k (k:=bT (h8 ds rows vq)) (s3 _ _ (s1 _ _ dY));rw [uR] at a5;refine ⟨_,Kr T Qw,_,iq T Qw,_,rfl,_,uD T (uM aq),_,aB.of wQ,_,cB (j:=0) (by rw [hD];rfl),_,rfl,_,_,rfl,aB.of (uM es),_,cB (q_ abZ),_,rfl,_,a5,cQ _ _ ⟨rfl,?_⟩⟩;unfold uY;rw [hD];rfl
 rintro rO d1 ⟨rfl,rfl⟩;subst ba;simp only [dG];exists (fun ax I=>I=d1/\ax=[~~~k,~~~wp,some (.str (h8 ds rows i)),~~~op,~~~ta,some (.int (uY ds rows s' (jI ds rows s' i))),some (.int rows.length)]),2
 .nofun;exact ⟨_,iq T (s3 _ _ (s1 _ _ bG)),_,rfl,_,Fj T (s3 _ _ (s1 _ _ (s0 _ _ aq))),cQ _ _ ⟨rfl,rfl⟩⟩
 rintro mX fL ⟨rfl,rfl⟩;subst ba;nofun;have X1:kJ Pt fL:=(bK.step s1).step s3;refine ⟨(jI ds rows s' i).map fun j=>((j:Nat):Int),aB.of (by rw [<- alx];exact wQ),by simpa using Tg (ds:=ds) (rows:=rows) (i:=i) bX,X1,Gu (uY ds rows s' (jI ds rows s' i)) rows.length,fun aw bR WQ si=>⟨fun n aY=>⟨by omega,rfl⟩,fun g_ m hm ab=>?_⟩⟩;rw [da] at hm;obtain ⟨j,aM,rfl⟩:=vf.mp hm;refine q j aw (fun b u f5 e=>bR _ _ f5 (s3 _ _ (s1 _ _ e))) (WQ dA) si ⟨cH aM,fun hT fN=>?_⟩;obtain ⟨x,ag,ex⟩:=Ga fN;exact (ab x (hT:Int) (by rw [da,bc ag,ex];rfl)).1
def iA (H I:au):Prop:=∀ b o,(∀ ps,o ≠ e2.gF ps)->H b=some o->I b=some o
theorem aim (bK:Tab H Pt pos q) (s:lb Pt H I):iA H I:=fun b o n e=>s b o (bK.ne e n) e
theorem iA.trans (a:iA H H1) (b:iA H1 aw):iA H aw:=fun c o n h=>b c o n (a c o n h)
theorem iA.lst (s:iA H I) (e:H b=some (.lst xs)):I b=some (.lst xs):=s b _ (fun _ z=>by cases z) e
theorem iA.tup (s:iA H I) (e:H b=some (.tup xs)):I b=some (.tup xs):=s b _ (fun _ z=>by cases z) e
theorem iA.ins (s:iA H I) {aK:List (Str × V)} (e:H b=some (.ins C ao aK)):I b=some (.ins C ao aK):=s b _ (fun _ z=>by cases z) e
theorem iA.bx (s:iA H I) (e:H b=some (.bx kvs)):I b=some (.bx kvs):=s b _ (fun _ z=>by cases z) e
theorem aj3 {K:a_} {ns:List Int} (S:Sc K a ns H) (s:iA H I) (bN:aP I):Sc K a ns I:=by
 refine ⟨?_,bN⟩;rcases S.vz with ⟨o,h⟩ | h
 .exact .inl ⟨o,s _ _ (fun _ z=>by cases z) h⟩
 .exact .inr h
theorem fh.p8 {t:bM} (h:fh t H c n ds) (s:iA H I):fh t I c n ds:=by
 obtain ⟨h0,ao,wl,aG,aq,⟨as,c9,dH,al⟩,bL⟩:=h;refine ⟨h0,ao,wl,aG,s.ins aq,⟨as,s.lst c9,dH,fun i b d ab hd=>?_⟩,s.bx bL⟩;obtain ⟨k,afb,eO⟩:=al i b d ab hd;exact ⟨k,afb,s.ins eO⟩
theorem gp.p8 {w:World} {t:bM} {rows:List ST} (h:gp P w t H a c n ds rows) (s:iA H I):gp P w t I a c n ds rows:=by
 obtain ⟨ao,le,mo,c4,c1,aQ,ch,ms,kvs,aq,aD,bL,ek,fG,es,gw,⟨o,aV,ep,xs,r⟩,kq⟩:=h;exact ⟨ao,le,mo,c4,c1,aQ,ch,ms,kvs,s.ins aq,aD.p8 s,s.lst bL,s.lst ek,⟨s.lst fG.at_,fG.ln,fun i m x a b=>s.lst (fG.al i m x a b)⟩,s.lst es,s.bx gw,
  ⟨o,aV,ep,xs,s _ _ (fun _ z=>by cases z) r.at_,r.ex,r.dat,r.ent,r.aG,Paired.p7 r.cb fun p q z=>⟨z.1,s.tup z.2.1,z.2.2⟩,r.kO,r.ns⟩,kq⟩
noncomputable def hU (H:au):au:=fun b=>match H b with
 | some (.gF _)=>none
 | o=>o
theorem abe (bK:Tab H Pt pos q):hU H Pt=none:=by
 obtain ⟨ps,e,_⟩:=bK;unfold hU;rw [e]
theorem Ey (h:H b=none):hU H b=none:=by
 unfold hU;rw [h]
theorem Vq (H:au):aS (hU H) H:=fun b u e=>by
 unfold hU at e;split at e
 .cases e
 .exact e
theorem J4 (H:au):iA H (hU H):=fun b u n e=>by
 unfold hU;split
 .rename_i ps h;rw [h] at e;cases e;exact absurd rfl (n ps)
 .exact e
structure qU (ds:List bj) (rows:List ST):Prop where
 cZ:∀ d ∈ ds,told rows d.name=true
 gj:∀ r ∈ rows,r.mem.length <= 12
 c1:∀ r ∈ rows,dO ds r=eC\/dO ds r=k5
 dl:ds.length <= 12
structure i9 (ds:List bj) (rows:List ST) (s:f'):Prop where
 wn:s.wt.Nodup
 az:∀ x ∈ s.wt,x ∈ ds.map (·.name)
 b6:∀ i,s.b6=some i->i < rows.length/\∀ x ∈ s.wt,ip rows x ≠ some i
 ch:s.b6=none->s.lf < rows.length/\s.bC < rows.length/\s.lf ≠ s.bC
theorem i9.told {rows:List ST} (k:i9 ds rows s) (R:qU ds rows):∀ x ∈ s.wt,told rows x=true:=fun x ag=>by
 obtain ⟨d,hd,rfl⟩:=b1.mp (k.az x ag);exact R.cZ d hd
theorem i9.len {rows:List ST} (k:i9 ds rows s) (R:qU ds rows):s.wt.length <= 12:=by
 have:=k.wn.length_le_of_subset (l₂:=ds.map (·.name)) fun x ag=>k.az x ag
 rw [a0] at this;have:=R.dl;omega
def q2 (n:Int) (ds:List bj) (rows:List ST) (s:f') (own:Bool) (s':f'):Prop:=
 (s.b6=none/\∃ r,rows[s.bC]? = some r/\s'=kU n ds rows { s with dq:=s.dq + 1 } r.mem) \/
 (∃ i r,s.b6=some i/\rows[i]? = some r/\rW ds rows s r own=true/\s' = { s with c5:=s.c5 + 1 }) \/
 (∃ i r j xD,s.b6=some i/\rows[i]? = some r/\rW ds rows s r own=false/\Wq ds rows s i j/\rows[j]? = some xD/\s'=kU n ds rows (Bb s i j (dO ds xD)) xD.mem)
theorem Hd {rows:List ST} (cK:∀ x ∈ s.wt,told rows x=true) (h:j ∈ jI ds rows s i):∃ x ∈ s.wt,ip rows x=some j:=by
 have hm:j ∈ mv rows s:=by
  unfold jI at h;split at h
  .exact h
  .exact (kV.mp h).1
 obtain ⟨x,ag,rfl⟩:=b1.mp hm;obtain ⟨j,r,aM,aC,iX,_⟩:=ox (cK x ag);refine ⟨x,ag,?_⟩;unfold uB;rw [aC];rfl
theorem QR {rows:List ST} (R:qU ds rows) (wn:s.wt.Nodup) (az:∀ x ∈ s.wt,x ∈ ds.map (·.name)) (ay:s.b6=none) (aA:s.lf < rows.length) (ak:rows[s.bC]? = some r) (bX:s.lf ≠ s.bC):i9 ds rows (kU n ds rows s r.mem):=by
 have kl:s.bC < rows.length:=(cv.mp ak).1;unfold kU;split
 .exact ⟨wn,az,fun i h=>(by rw [ay] at h;cases h),fun _=>⟨aA,kl,bX⟩⟩
 .refine ⟨wn.filter _,fun x ag=>az x (kV.mp ag).1,fun i h=>?_,fun h=>by cases h⟩;cases h;refine ⟨kl,fun x ag e=>?_⟩;have d7:=kV.mp ag;obtain ⟨d,hd,ho⟩:=b1.mp (az x d7.1);obtain ⟨j,cV,aM,aC,iX,hm⟩:=ox (R.cZ d hd);rw [ho] at aC hm;rw [aC] at e;cases e;rw [ak] at iX;cases iX;have:=d7.2;simp [hm] at this
theorem aj2 {rows:List ST} (R:qU ds rows) (k:i9 ds rows s) (h:q2 n ds rows s own s'):i9 ds rows s':=by
 rcases h with ⟨af,r,ak,rfl⟩ | ⟨i,r,af,ak,_,rfl⟩ | ⟨i,r,j,xD,af,ak,_,ar,aM,rfl⟩
 .obtain ⟨a,b,c⟩:=k.ch af;exact QR (s:={ s with dq:=s.dq + 1 }) R k.wn k.az af a ak c
 .exact ⟨k.wn,k.az,k.b6,k.ch⟩
 .obtain ⟨a,b⟩:=k.b6 i af;obtain ⟨x,ag,aC⟩:=Hd (k.told R) ar.1;refine QR (s:=Bb s i j (dO ds xD)) R k.wn k.az rfl a aM (fun e=>?_);have e:i=j:=e;subst e;exact b x ag aC
def Kl (k az aT Pt:Addr) (H I:au):Prop:=∀ b u,b ≠ k->b ≠ az->b ≠ aT->b ≠ Pt->H b=some u->I b=some u
theorem wj {t:bM} {k aU az aT Pt:Addr} (e8:d_ t H k aU az aT s) (bK:Tab H Pt pos q) (x:g5 k az aT H I):Tab I Pt pos q:=by
 obtain ⟨_,ao,bG,cT,dY⟩:=e8;obtain ⟨ps,e,d⟩:=bK;refine ⟨ps,x _ _ (b0 e bG (by intro z;cases z)) (b0 e cT (by intro z;cases z)) (b0 e dY (by intro z;cases z)) e,?_⟩;rcases d with d | ⟨c',d,bQ⟩
 .exact .inl d
 .exact .inr ⟨c',d,x _ _ (b0 bQ bG (by intro z;cases z)) (b0 bQ cT (by intro z;cases z)) (b0 bQ dY (by intro z;cases z)) bQ⟩
theorem d_.p8 {t:bM} {k aU az aT:Addr} (h:d_ t H k aU az aT s) (x:iA H I):d_ t I k aU az aT s:=by
 obtain ⟨h0,ao,bG,cT,dY⟩:=h;exact ⟨h0,ao,x.ins bG,x.bx cT,x.bx dY⟩
def R8 (P:Program) (w:World) (t:bM) (Pt:Addr):bP:=fun vs H Q _=>∃ cp k aU az aT s c n ds rows own,vs=[.ref k,.bo own]/\d_ t H k aU az aT s/\gp P w t cp aU c n ds rows/\aS cp H/\cp k=none/\cp az=none/\cp aT=none/\cp Pt=none/\qU ds rows/\i9 ds rows s/\kJ Pt H/\aP H /\
 ∀ s' I,q2 n ds rows s own s'->Kl k az aT Pt H I->aP I->kJ Pt I->d_ t I k aU az aT s'->Q .bO I
theorem Q6 (cj:mS base t.n' Pt) (hg:base.BuiltinsAt mg Pt):cu P base T 4 t.x2 t.zv pe (R8 P w t Pt):=by
 refine cy (PS T) fun KD=>cy (aeL T) fun Xd=>cy (ajN T) fun alD=>cy (afu T cj hg) fun YX=>?_;exists T.Vg.ok aes,9
 obtain ⟨cp,k,aU,az,aT,s',c,n,ds,rows,own,rfl,e8,dC,s0,i3,gG,hC,Gw,R,mH,bK,bN,q⟩:=h;obtain ⟨dP,ao,bG,cT,dY⟩:=id e8;have br:=hh ak;refine ⟨_,(a6 (dK (c_ Y1 (bB (U 0) rfl) qb (cC _)) (aW (Jb (U 0) aR F_)
   (a6 (dS (gc (U 0) T.dI T.NF KD ak T.Vr .nil cx)))) (a6 (dK (oJ (eX (U 0) T.dI T.lw Xd ak T.amM .nil cx (ai (U 1) aE))) (a6 (Jb (U 0) aR F_)) (a6 (dS (eX (U 0) T.dI T.aiP alD ak T.af5 .nil cx (ai (gc (U 0) T.dI T.ajT YX ak T.Z5 .nil cx) aE)))))))),?_⟩
 cases gn:s'.b6 with
 | none=>
  rw [gn] at bG;obtain ⟨g1,g2,g3⟩:=mH.ch gn;have Sh:=bc g2;nofun;refine dW true (fun Q a8=>?_) (fun _=>?_) (fun av=>nomatch av)
  .nofun;exact ⟨_,px T bG,a8⟩
  simp only [dG];exists (fun ax I=>g5 k az aT H I/\aP I/\d_ t I k aU az aT { s' with dq:=s'.dq + 1 }/\ax=[~~~k,some (.bo own)]),2
  .nofun;refine ⟨_,_,_,bG,T.dI,T.zI,_,gr lB 5 (ce ..) (by ac_nf) rfl,_,rfl,_,_,bG,by rw [<- a0 (f:=(·.1)),ce];decide,?_⟩;rw [T7];exact cQ _ _ ⟨fun b u af _ _ e=>by rw [aH af];exact e,bN.upd,⟨dP,ao,by rw [aX];exact congrArg (fun z=>some (e2.ins t.c3 ao (fo aU (jd z) s'.c5 s'.lf s'.bC (s'.dq + 1) az aT))) gn.symm,by rw [aH (b0 cT bG (by intro z;cases z))];exact cT,by rw [aH (b0 dY bG (by intro z;cases z))];exact dY⟩,rfl⟩
  rintro f_ H1 ⟨b3,b9,wo,rfl⟩;obtain ⟨_,ew,a1,gY,cc⟩:=id wo;subst ba;nofun;exact ⟨_,_,a1,ib _ _ _ _ _ _ _ _ (by ac_nf),cp,k,aU,az,aT,_,c,n,ds,rows,_,rfl,wo,dC,b3.wx s0 i3 gG hC,i3,gG,hC,g1,Sh,g3,R.gj _ (jq g2),b9,fun I fx ih rB=>q _ I (.inl ⟨gn,_,Sh,rfl⟩) (fun b u af aj a' _ e=>fx _ _ af aj a' (b3 _ _ af aj a' e)) ih (wj wo (wj e8 bK b3) fx) rB⟩
 | some i=>
  rw [gn] at bG;obtain ⟨g1,g2⟩:=mH.b6 i gn;have jj:=bc g1;nofun;refine dW false (fun Q a8=>?_) (fun av=>nomatch av) (fun _=>?_)
  .nofun;exact ⟨_,px T bG,a8⟩
  have cK:=mH.told R;have aA:=mH.len R;refine tI (fun b I=>aS H I/\aP I/\b=rW ds rows s' rows[i] own) (fun jf A9=>?_) ?_ ?_
  .nofun;exact ⟨_,_,bG,ib _ _ _ _ _ _ _ _ (by ac_nf),cp,k,aU,az,aT,s',c,n,ds,rows,i,_,own,rfl,e8,gn,jj,dC,s0,gG,cK,aA,fun I s1 b9=>⟨_,rfl,A9 _ _ ⟨s1,b9 bN,rfl⟩⟩⟩
  .rintro H1 ⟨s1,b9,ab⟩;have lO:=s1 _ _ bG;nofun;refine ⟨_,_,_,lO,T.dI,T.y0,_,gr lB 2 (ce ..) (by ac_nf) rfl,_,rfl,_,_,lO,by rw [<- a0 (f:=(·.1)),ce];decide,?_⟩;rw [M1];have b3:g5 k az aT H (upd H1 k (.ins t.c3 ao (fo aU (jd (some i)) (s'.c5 + 1) s'.lf s'.bC s'.dq az aT))):=fun b u af _ _ e=>by rw [aH af];exact s1 _ _ e
   exact q { s' with c5:=s'.c5 + 1 } _ (.inr (.inl ⟨i,_,gn,jj,ab.symm,rfl⟩)) (fun b u af aj a' _ e=>b3 _ _ af aj a' e) b9.upd (wj e8 bK b3) ⟨dP,ao,by rw [aX];exact congrArg (fun z=>some (e2.ins t.c3 ao (fo aU (jd z) (s'.c5 + 1) s'.lf s'.bC s'.dq az aT))) gn.symm,by rw [aH (b0 cT bG (by intro z;cases z))];exact s1 _ _ cT,by rw [aH (b0 dY bG (by intro z;cases z))];exact s1 _ _ dY⟩
  .rintro H1 ⟨s1,b9,ab⟩;have lO:=s1 _ _ bG;have bX:s'.wt ≠ []:=fun z=>by
    unfold rW at ab;rw [z] at ab;simp at ab
   nofun;refine ⟨_,_,lO,ib _ _ _ _ _ _ _ _ (by ac_nf),_,_,lO,ib _ _ _ _ _ _ _ _ (by ac_nf),cp,k,aU,az,aT,s',c,n,ds,rows,i,rfl,e8.same s1,gn,g1,dC,s0.trans s1,gG,cK,bX,aA,R.c1,bK.step s1,b9,fun j aw bR cI si ar=>?_⟩;have Dd:=(e8.same s1).p8 (aim (bK.step s1) bR);obtain ⟨x,ag,aC⟩:=Hd cK ar.1;have lG:=SJ cK j ar.1;have hy:=bc lG;exact ⟨cp,k,aU,az,aT,s',c,n,ds,rows,i,j,_,rfl,Dd,gn,dC,fun b u e=>bR _ _ (dj e Gw) ((s0.trans s1) _ _ e),i3,gG,hC,g1,hy,fun e=>g2 x ag (by rw [aC,e]),R.gj _ (jq lG),R.c1 _ (jq lG),cI,fun I fx ih rB=>q _ I (.inr (.inr ⟨i,_,j,_,gn,jj,ab.symm,ar,hy,rfl⟩)) (fun b u af aj a' c7 e=>fx _ _ af aj a' (bR _ _ c7 (s1 _ _ e))) ih (wj Dd si fx) rB⟩
noncomputable def hK (rows:List ST) (s:f') (x:Str):Bool:=match s.b6 with
 | some i=>decide (ip rows x=some i)
 | none=>false
theorem L6 (n:Int) (ds:List bj) (rows:List ST) (s:f') (d:bj):decide (V.str (fB n ds rows s d)=V.str (ae "free"))=hK rows s d.name:=by
 have af:(V.str (ae "stop"):V) ≠ V.str (ae "free"):=fun z=>absurd (V.str.inj z) (by ac_nf)
 have aj:(V.str (ae "fade"):V) ≠ V.str (ae "free"):=fun z=>absurd (V.str.inj z) (by ac_nf)
 have a':(V.str (ae "ready"):V) ≠ V.str (ae "free"):=fun z=>absurd (V.str.inj z) (by ac_nf)
 unfold fB hK;cases s.b6 with
 | none=>
  show decide (V.str (uZ n ds rows s d)=_)=false;unfold uZ;split
  .exact decide_eq_false aj
  .split
   .exact decide_eq_false a'
   .exact decide_eq_false af
 | some i=>
  show decide (V.str (tf rows i d.name)=_)=decide (ip rows d.name=some i);unfold tf;split
  .rename_i h;rw [decide_eq_true rfl,decide_eq_true h]
  .rename_i h;rw [decide_eq_false af,decide_eq_false h]
noncomputable def m_ (rows:List ST) (s:f') (wt:List Str) (x:Str):List Str:=if hK rows s x=true\/x ∈ wt then wt else wt ++ [x]
noncomputable def kS (rows:List ST) (s:f') (wt:List Str) (xs:List Str):List Str:=xs.foldl (m_ rows s) wt
noncomputable def xk (rows:List ST) (s:f') (xs:List Str):f':={ s with wt:=kS rows s s.wt xs }
theorem akJ (wt:List Str) (x:Str):eb (ef wt) (bT x) (.bo true)=ef (if x ∈ wt then wt else wt ++ [x]):=by
 unfold eb;have C':((ef wt).any fun cD=>decide (cD.1=bT x))=decide (x ∈ wt):=by
  rw [j',decide_eq_true_eq,qV];constructor
  .rintro ⟨p,ar,ag⟩;obtain ⟨y,bh,rfl⟩:=b1.mp ar;have:=n2 (of_decide_eq_true ag);rw [<- this];exact bh
  .exact fun h=>⟨(bT x,V.bo true),b1.mpr ⟨x,h,rfl⟩,decide_eq_true rfl⟩
 by_cases h:x ∈ wt
 .rw [if_pos (by rw [C'];exact decide_eq_true h),if_pos h];unfold ef;rw [k_];refine SU fun y _=>?_
  show (if (bT y:Key)=bT x then ((bT y:Key),V.bo true) else (bT y,V.bo true))=_;split <;> rfl
 .rw [if_neg (by rw [C',decide_eq_false h];exact fK),if_neg h];unfold ef;rw [fS];rfl
theorem SL {ds:List bj} {rows:List ST} {s:f'} {wt:List Str} {x:Str} (ag:x ∈ ds.map (·.name)) (k:i9 ds rows { s with wt:=wt }):i9 ds rows { s with wt:=m_ rows s wt x }:=by
 unfold m_;split
 .exact k
 .rename_i h;have af:x ∉ wt:=fun z=>h (.inr z)
  refine ⟨?_,fun y bh=>?_,fun i ah=>⟨(k.b6 i ah).1,fun y bh=>?_⟩,k.ch⟩
  .show (wt ++ [x]).Nodup;rw [DK];exact ⟨k.wn,by simp,fun a aO b ab e=>by rw [gg.mp ab] at e;exact af (e ▸ aO)⟩
  .rcases hI.mp bh with bh | bh
   .exact k.az y bh
   .rw [gg.mp bh];exact ag
  .rcases hI.mp bh with bh | bh
   .exact (k.b6 i ah).2 y bh
   .rw [gg.mp bh];intro e;refine h (.inl ?_);have ah:s.b6=some i:=ah;unfold hK;rw [ah];exact decide_eq_true e
theorem Ja {ds:List bj} {rows:List ST} {s:f'}:∀ (xs wt:List Str),(∀ x ∈ xs,x ∈ ds.map (·.name))->i9 ds rows { s with wt:=wt }->i9 ds rows { s with wt:=kS rows s wt xs }
 | [],_,_,k=>k
 | x :: xs,wt,h,k=>Ja xs (m_ rows s wt x) (fun y bh=>h y (.tail _ bh)) (SL (h x (.head _)) k)
theorem Us {rows:List ST} (h:∀ x ∈ xs,x ∈ ds.map (·.name)) (k:i9 ds rows s):i9 ds rows (xk rows s xs):=Ja xs s.wt h k
theorem R7 (rows:List ST) (s:f') (wt xs:List Str) (x:Str):kS rows s wt (xs ++ [x])=m_ rows s (kS rows s wt xs) x:=by
 unfold kS;rw [PR];rfl
def SE (P:Program) (w:World) (K:a_) (t:bM) (Pt:Addr):bP:=fun vs H Q _=>∃ cp k aU az aT s c n ds rows a xs,vs=[.ref k,.ref a]/\d_ t H k aU az aT s/\gp P w t cp aU c n ds rows/\aS cp H/\cp k=none/\cp az=none/\cp aT=none/\cp Pt=none/\qU ds rows/\i9 ds rows s/\H a=some (.lst (aL xs))/\xs.length <= 1000/\(∀ x ∈ xs,x ∈ ds.map (·.name))/\kJ Pt H/\aP H /\
 ∀ p s' I,q2 n ds rows (xk rows s xs) (xs.any (hK rows s)) s'->Kl k az aT Pt H I->H p=none->I p=some (.bx (eG ds (fB n ds rows s)))->aP I->kJ Pt I->d_ t I k aU az aT s'->Q (.ref p) I
theorem abq (cj:mS base t.n' Pt) (hg:base.BuiltinsAt mg Pt):cu P base T 5 t.rJ t.s6 tx (SE P w K t Pt):=by
 refine cy (sv T) fun jS=>cy (BB T) fun pA=>cy (Q6 T cj hg) fun Ma=>?_;exists T.JL.ok mC,9
 obtain ⟨cp,k,aU,az,aT,s',c,n,ds,rows,a,xs,rfl,e8,dC,s0,i3,gG,hC,Gw,R,mH,aO,hn,hF,bK,bN,q⟩:=h;obtain ⟨dP,ao,bG,cT,dY⟩:=id e8;obtain ⟨jN,le,mo,c4,c1,aQ,ch,ms,kvs,aq,C,bL,ek,fG,es,gw,j8,kq⟩:=id (dC.same s0);obtain ⟨⟨e7,fj⟩,CC,wl,aG,cc,_,_⟩:=id C;have br:=hh ak;have pW:∀ {i:Nat} {x:Str},xs[i]? = some x->∃ (j:Nat) (d:bj),ds[j]? = some d/\d.name=x:=fun {i x} ag=>by
  obtain ⟨d,hd,e⟩:=b1.mp (hF x (cH ag));obtain ⟨j,aM⟩:=iN hd;exact ⟨j,d,aM,e⟩
 refine ⟨_,(aW (fU gi rfl (eA (U 1)) (Db (i:=2) mC.aG) (a6 (dS (eX (bB (bB (U 0) rfl) rfl) T.hq T.mW jS ak T.mM .nil cx (ai (U 2) aE)))))
   (aW (b5 (i:=3) mC.aG (gc (U 0) T.dI T.tN pA ak T.td .nil cx))
   (aW (b5 (i:=4) mC.aG am)
   (aW (fU gi rfl (eA (U 1)) (Db (i:=2) mC.aG) (a6 (dK (c_ e5 (ny br (U 3) (U 2) (fun _ _=>rfl)) cX (cC _)) (a6 (b5 (i:=4) mC.aG am)) (a6 (p0 br (bB (U 0) rfl) (U 2) am rfl)))))
   (aW (dS (eX (U 0) T.dI T.VP Ma ak T.Ou .nil cx (ai (U 4) aE)))
   (a6 (cg (U 3)))))))),?_⟩
 exists (fun ax I=>I=H/\∃ y,ax=[~~~k,~~~a,y,none,none]),5
 .nofun;refine ⟨⟨_,aB.of aO⟩,?_⟩;refine d3.list (xs:=aL xs) (fun i σ I=>I=H/\∃ y,σ=[~~~k,~~~a,y,none,none]) ?_ ?_ ?_ ?_
  .exact ⟨rfl,_,rfl⟩
  .rintro i σ I ah ⟨rfl,_⟩;exact aB.of aO
  .rintro i v σ I aF ⟨rfl,y,rfl⟩;unfold aL at aF;obtain ⟨x,ag,rfl⟩:=cf aF;obtain ⟨j,d,hd,rfl⟩:=pW ag;nofun;exact ⟨_,iq T bG,_,rfl,_,vp T aq,_,rfl,_,_,cc,jk _ _ _ (by ac_nf),c,n,ds,j,d,rfl,C,hd,fun _ _=>⟨rfl,_,rfl⟩⟩
  .rintro σ I ⟨rfl,y,rfl⟩;exact cQ _ _ ⟨rfl,_,rfl⟩
 rintro f_ H1 ⟨rfl,nx,rfl⟩;subst ba;exists (fun ax I=>aS H1 I/\aP I/\∃ p,H1 p=none/\I p=some (.bx (eG ds (fB n ds rows s')))/\ax=[~~~k,~~~a,nx,~~~p,none]),5
 .nofun;exact ⟨_,_,bG,ib _ _ _ _ _ _ _ _ (by ac_nf),k,aU,az,aT,s',c,n,ds,rows,rfl,e8,dC.same s0,R.cZ,mH.ch,bN,fun p I s2 cI ar k2=>cQ _ _ ⟨s2,cI,p,ar,k2,rfl⟩⟩
 rintro cz aw ⟨s2,cI,p,ng,eY,rfl⟩;subst ba;exists (fun ax I=>I=aw/\ax=[~~~k,~~~a,nx,~~~p,some (.bo false)]),5
 .nofun;exact cQ _ _ ⟨rfl,rfl⟩
 rintro gb bw ⟨rfl,rfl⟩;subst ba;exists (fun ax I=>g5 k az aT bw I/\aP I/\d_ t I k aU az aT (xk rows s' xs)/\∃ y,ax=[~~~k,~~~a,y,~~~p,some (.bo (xs.any (hK rows s')))]),5
 .have fX:=s2 _ _ aO;have gY:=s2 _ _ bG;have e9:=s2 _ _ cT;have lY:=s2 _ _ dY;nofun;refine ⟨⟨_,aB.of fX⟩,?_⟩;refine d3.list (xs:=aL xs) (fun i σ I=>g5 k az aT bw I/\aP I/\d_ t I k aU az aT { s' with wt:=kS rows s' s'.wt (xs.take i) }/\∃ y,σ=[~~~k,~~~a,y,~~~p,some (.bo ((xs.take i).any (hK rows s')))]) ?_ ?_ ?_ ?_
  .exact ⟨g5.of (aS.refl bw),cI,e8.same s2,_,rfl⟩
  .rintro i σ I ah ⟨fx,_⟩;exact aB.of (fx _ _ (b0 fX gY (by intro z;cases z)) (b0 fX e9 (by intro z;cases z)) (b0 fX lY (by intro z;cases z)) fX)
  .rintro i v σ I aF bl;ac_rfl
   obtain ⟨fx,ih,⟨_,d',f1,f2,en⟩,y,rfl⟩:=bl;subst ba;unfold aL at aF;obtain ⟨x,ag,rfl⟩:=cf aF;obtain ⟨j,d,hd,rfl⟩:=pW ag;have j9:=fx _ _ (b0 eY gY (by intro z;cases z)) (fun e=>by rw [e,cT] at ng;cases ng) (fun e=>by rw [e,dY] at ng;cases ng) eY;have a5:=fT.k (k:=bT d.name) j9;rw [PA (f:=fB n ds rows s') e7 hd] at a5;have e4:(ef (kS rows s' s'.wt (xs.take i))).length <= 12:=by
    have:=(Ja (xs.take i) s'.wt (fun x ag=>hF x (ua ag)) mH).len R;unfold ef;rw [a0];exact this
   have fw:kS rows s' s'.wt (xs.take (i + 1))=m_ rows s' (kS rows s' s'.wt (xs.take i)) d.name:=by rw [j_ ag,R7]
   have hN:(xs.take (i + 1)).any (hK rows s')=((xs.take i).any (hK rows s') || hK rows s' d.name):=by rw [j_ ag,List.any_append];simp
   nofun;refine dW (hK rows s' d.name) (fun jf a8=>?_) (fun ab=>?_) (fun ab=>?_)
   .nofun;rw [<- L6 n ds rows s' d] at a8;exact ⟨_,a5,rfl,a8⟩
   .nofun;refine ⟨fx,ih,⟨dP,d',f1,?_,en⟩,?_⟩
    .rw [fw];unfold m_;rw [if_pos (.inl ab)];exact f2
    .rw [hN,ab,CT]
   .nofun;refine ⟨_,ti T f1,_,rfl,_,kf.k (k:=bT d.name) f2 (gQ e4 (by decide)),fun b u af aj a' e=>by rw [aH aj];exact fx _ _ af aj a' e,ih.upd,⟨dP,d',by rw [aH (b0 f1 f2 (by intro z;cases z))];exact f1,?_,by rw [aH (dg dP)];exact en⟩,?_⟩
    .rw [aX,akJ,fw];unfold m_;by_cases h:d.name ∈ kS rows s' s'.wt (xs.take i)
     .rw [if_pos h,if_pos (.inr h)]
     .rw [if_neg h,if_neg (fun z=>z.elim (fun z=>by rw [ab] at z;cases z) h)]
    .rw [hN,ab,OX]
  .rintro σ I bl;ac_rfl
   obtain ⟨fx,ih,rB,y,rfl⟩:=bl;subst ba;rw [eF,ig] at *;exact cQ _ _ ⟨fx,ih,rB,y,rfl⟩
 rintro kT cS ⟨dB,d5,l5,Lq,rfl⟩;obtain ⟨_,y_,f1,f2,en⟩:=id l5;have sM:=e8.same s2;have gY:=s2 _ _ bG;subst ba;nofun;refine ⟨_,_,f1,ib _ _ _ _ _ _ _ _ (by ac_nf),cp,k,aU,az,aT,_,c,n,ds,rows,_,rfl,l5,dC,dB.wx (s0.trans s2) i3 gG hC,i3,gG,hC,Gw,R,Us hF mH,wj sM (bK.step s2) dB,d5,fun s5 d1 ay eK jC Fi pq=>?_⟩;have RM:p ≠ k:=b0 eY gY (by intro z;cases z);have nw:p ≠ az:=fun e=>by rw [e,cT] at ng;cases ng
 have np:p ≠ aT:=fun e=>by rw [e,dY] at ng;cases ng
 have aa':p ≠ Pt:=fun e=>by
  obtain ⟨ps,bQ,_⟩:=bK;rw [e,bQ] at ng;cases ng
 exact q p s5 d1 ay (fun b u af aj a' c7 e=>eK _ _ af aj a' c7 (dB _ _ af aj a' (s2 _ _ e))) ng (eK _ _ RM nw np aa' (dB _ _ RM nw np eY)) jC Fi pq
theorem Oa {i:Int} (h:i.natAbs < 100000):i.natAbs.log2 < 1920:=by
 by_cases h0:i.natAbs=0
 .rw [h0];decide
 .exact (aeZ h0).mpr (Ve h (by decide))
def ae4 (K:a_):bP:=fun vs H Q _=>∃ (a:Addr) (ns:List Int) (k m:Int),vs=[.ref a,.int k,.int m]/\ns.length <= 63/\aB K H a (ns.map V.int)/\(0 <= k/\k < 1000000)/\0 < m/\Q (.int (dh ns k m)) H
theorem abP:cu P base T 1 t.yt t.xG wI (ae4 K):=by
 exists T.eU.ok s_,9
 obtain ⟨a,ns,k,m,rfl,gx,S,⟨h0,af⟩,hm,q⟩:=h;refine ⟨_,(aW (b5 (i:=3) s_.aG (ud (c_ qN (gD h4 rfl T.hR hW (ai (U 0) aE)) aR (cC _)) (cq lc (U 0) (bF jn (U 1) (gD h4 rfl T.hR hW (ai (U 0) aE)))) aR))
   (aW (b5 (i:=4) s_.aG (bF dT (bF dT (bF jn (U 3) aR) (bF jt (bF jt aR (U 1)) (U 1))) aR))
   (a6 (cg (bF jn (bF jn (bF jt (bF jn (bF jt (U 4) aR) aR) aR) aR) (U 2)))))),?_⟩
 nofun;refine ⟨_,.inl S,?_⟩;rw [a0];have ald:(0:Int) <= k * k/\k * k < 1000000 * 1000000:=⟨agk h0 h0,aa5 (by omega) af h0 (by decide)⟩;have fin:∀ i:Int,(0:Int) < 1000003/\nA 31 k/\nA (31 * k) k/\nA (i % 1000003 + 31 * k * k + 1) 48271/\(0:Int) < 999983/\nA ((i % 1000003 + 31 * k * k + 1) * 48271 % 999983) 7919/\(0:Int) < 524287/\0 < m:=by
  intro i;refine ⟨by decide,.inl (by decide),.inr (by omega),.inr (by decide),by decide,.inr (by decide),by decide,hm⟩
 by_cases c:(0:Int) < (ns.length:Int)
 .rw [if_pos (decide_eq_true c)];have aC:0 <= k % (ns.length:Int)/\k % (ns.length:Int) < (ns.length:Int):=⟨DF _ (by omega),yN _ c⟩;refine ⟨_,.inl S,by rw [a0];exact c,_,S,?_⟩;rw [a0];have aM:(k % (ns.length:Int)).toNat < ns.length:=by omega
  refine ⟨.int ns[(k % (ns.length:Int)).toNat],?_,_,rfl,?_⟩
  .have e:=cB (xs:=ns.map V.int) (j:=(k % (ns.length:Int)).toNat) (v:=.int ns[(k % (ns.length:Int)).toNat]) (by rw [da,bc aM] <;> rfl);rwa [pT aC.1] at e
  .obtain ⟨f1,f2,en,f4,eW,nk,lh,f8⟩:=fin ns[(k % (ns.length:Int)).toNat];refine ⟨f1,f2,en,f4,eW,nk,lh,f8,?_⟩;have e:dh ns k m=(((ns[(k % (ns.length:Int)).toNat] % 1000003 + 31 * k * k + 1) * 48271 % 999983 * 7919) % 524287) % m:=by
    unfold dh;rw [if_pos c,iF,bc aM];rfl
   rw [<- e];exact q
 .rw [if_neg (by simpa using c)];obtain ⟨f1,f2,en,f4,eW,nk,lh,f8⟩:=fin 0;refine ⟨f1,f2,en,f4,eW,nk,lh,f8,?_⟩;have e:dh ns k m=(((0 % 1000003 + 31 * k * k + 1) * 48271 % 999983 * 7919) % 524287) % m:=by
   unfold dh;rw [if_neg c]
  rw [<- e];exact q
noncomputable def ins {α:Type} (l:List α) (i:Nat) (a:α):List α:=l.take i ++ a :: l.drop i
theorem uV (ah:i <= l.length) (j:Nat):(ins l i a)[j]? = if j < i then l[j]? else if j=i then some a else l[j - 1]?:=by
 unfold ins;have cK:(l.take i).length=i:=by rw [hE];omega
 by_cases af:j < i
 .rw [if_pos af,tP (by omega),uS af]
 .rw [if_neg af,sf (by omega),cK];by_cases aj:j=i
  .subst aj;rw [if_pos rfl];simp
  .rw [if_neg aj];obtain ⟨k,rfl⟩:=Nat.exists_eq_add_of_lt (Nat.lt_of_le_of_ne (X_ af) (dg aj));rw [Nat.add_assoc,Nat.add_sub_cancel_left,x',List.getElem?_drop];rfl
theorem LX (ah:i <= l.length):(ins l i a).length=l.length + 1:=by
 unfold ins;rw [ec,hi,hE,sl];omega
theorem afI (h:l.Nodup) (n:a ∉ l):(ins l i a).Nodup:=by
 unfold ins;rw [(ai').nodup_iff,qj,Wc];exact ⟨n,h⟩
theorem mL {a x:α} (h:x ∈ ins l i a):x=a\/x ∈ l:=by
 unfold ins at h;rcases hI.mp h with z | z
 .exact .inr (ua z)
 .rcases fi.mp z with z | z
  .exact .inl z
  .exact .inr (ajn z)
theorem FE (f:α->β) (l:List α) (i:Nat) (a:α):(ins l i a).map f=ins (l.map f) i (f a):=by
 unfold ins;rw [fS,eN,UJ,ahu]
theorem Wf (x:Str) (nq:a <= b) (ab:b <= x.cps.toList.length):(lP x (some (a:Int)) (some (b:Int))).cps.toList=(x.cps.toList.drop a).take (b - a):=by
 have ag:x.length=x.cps.toList.length:=by simp [tD]
 have e:=StrLaws.sliceText_nat x nq (by rw [ag];exact ab);rw [show lP x (some (a:Int)) (some (b:Int))=uk x (some (a:Int)) (some (b:Int)) from rfl,e]
theorem JT (x:Str) (ab:b <= x.cps.toList.length):(lP x none (some (b:Int))).cps.toList=x.cps.toList.take b:=by
 have:lP x none (some (b:Int))=lP x (some ((0:Nat):Int)) (some (b:Int)):=by
  show uk x none (some (b:Int))=uk x (some ((0:Nat):Int)) (some (b:Int));unfold uk;rw [StrLaws.sliceIdx_none_lo];rfl
 rw [this,Wf x (fC _) ab,Yi,Nat.sub_zero]
theorem ZZ (x:Str) (aO:a <= x.cps.toList.length):(lP x (some (a:Int)) none).cps.toList=x.cps.toList.drop a:=by
 have ag:x.length=x.cps.toList.length:=by simp [tD]
 have:lP x (some (a:Int)) none=lP x (some (a:Int)) (some ((x.cps.toList.length:Nat):Int)):=by
  show uk x (some (a:Int)) none=uk x (some (a:Int)) (some ((x.cps.toList.length:Nat):Int));unfold uk;rw [StrLaws.sliceIdx_none_hi,<- ag]
 rw [this,Wf x aO (bW _)];exact Jy (by rw [sl];exact bW _)
noncomputable def vL (l:List Nat) (k:Nat):List Nat:=l.take (k + 1)
noncomputable def n7 (l:List Nat) (at_ f k:Nat):List Nat:=l.take at_ ++ [97 + (f + k) % 26] ++ l.drop (at_ + 1)
noncomputable def ob (l:List Nat) (f k j:Nat):List Nat:=[97 + (f + k) % 26] ++ l.take j
theorem Iw (aA:l.length=8) (al:∀ c ∈ l,97 <= c/\c <= 122) {k:Nat} (aC:k < 8):(vL l k).length=k + 1/\∀ c ∈ vL l k,97 <= c/\c <= 122:=by
 unfold vL;exact ⟨by rw [hE];omega,fun c av=>al c (ua av)⟩
theorem ae8 (aA:l.length=8) (al:∀ c ∈ l,97 <= c/\c <= 122) {a f k:Nat} (aO:a < 8):(n7 l a f k).length=8/\∀ c ∈ n7 l a f k,97 <= c/\c <= 122:=by
 unfold n7;refine ⟨by rw [ec,ec,hE,sl,J6];omega,fun c av=>?_⟩;rcases hI.mp av with av | av
 .rcases hI.mp av with av | av
  .exact al c (ua av)
  .rw [gg.mp av];omega
 .exact al c (ajn av)
theorem Yw (aA:l.length=8) (al:∀ c ∈ l,97 <= c/\c <= 122) {f k j:Nat} (aM:j < 8):(1 <= (ob l f k j).length/\(ob l f k j).length <= 8)/\∀ c ∈ ob l f k j,97 <= c/\c <= 122:=by
 unfold ob;refine ⟨by rw [ec,hE,J6];omega,fun c av=>?_⟩;rcases hI.mp av with av | av
 .rw [gg.mp av];omega
 .exact al c (ua av)
theorem agY (aA:l.length=8) (aO:a < 8) (ah:i < 8) (aM:j < 8) (e:n7 l a f i=n7 l a f j):i=j:=by
 have af:∀ k,(n7 l a f k)[a]? = some (97 + (f + k) % 26):=fun k=>by
  unfold n7;rw [pG,sf (by rw [hE];omega),hE,show a - min a l.length=0 by omega];rfl
 have aj:=af i;rw [e,af j] at aj;have:=dU aj;omega
theorem YQ (ah:i < 8) (aM:j < 8) (e:ob l f i u=ob l f j v):i=j:=by
 unfold ob at e;have:=(wM e).1;omega
theorem afl {k:Nat} (h:k <= xs.length):mm xs none (some ((k:Nat):Int))=xs.take k:=by
 unfold mm;rw [fZ.amF,ahv h,fZ.amA];simp
noncomputable def six:List Str:=[ae "stage",ae "tram",ae "car",ae "foot",ae "ring",ae "free"]
theorem abh {x:Str} (e:x.cps.toList=l) (h0:1 <= l.length) (af:l.length <= 8) (al:∀ c ∈ l,97 <= c/\c <= 122):made x jJ 8=true:=by
 have ag:x.length=x.cps.toList.length:=by simp [tD]
 exact aa9 (by rw [ag,e];exact h0) (by rw [ag,e];exact af) (by rw [e];exact al)
def DS (m:Nat) (xs:List Str):Prop:=xs.length=m/\xs.Nodup/\∀ x ∈ xs,made x jJ 8=true
theorem U' (h0:0 <= i) (af:i < 26):∃ c:Nat,f3 (ae "abcdefghijklmnopqrstuvwxyz").cps.toList i=some c/\c=97 + i.toNat:=by
 have:∀ k,k < 26->f3 (ae "abcdefghijklmnopqrstuvwxyz").cps.toList ((k:Nat):Int)=some (97 + k):=by ac_nf
 refine ⟨97 + i.toNat,?_,rfl⟩;have e:=this i.toNat (by omega);rwa [pT h0] at e
theorem WB:∀ ys:List Str,(d4 ⟨#[]⟩ ys).cps.toList=(ys.map (·.cps.toList)).flatten
 | []=>rfl
 | [a]=>by
  show a.cps.toList=_;simp
 | a :: b :: r=>by
  show (a ++ ⟨#[]⟩ ++ d4 ⟨#[]⟩ (b :: r)).cps.toList=_;rw [k3,lX,k3,lX,WB (b :: r)];simp
theorem Np (f:Nat->Nat) (n:Nat):(pB (ae "") ((fF n).map fun i=>ji (f i))).cps.toList=(fF n).map f:=by
 rw [show pB (ae "") ((fF n).map fun i=>ji (f i))=d4 ⟨#[]⟩ ((fF n).map fun i=>ji (f i)) from yv _ _,WB,k_];have:((fun x:Str=>x.cps.toList) ∘ fun i=>ji (f i))=fun i=>[f i]:=rfl
 rw [this]
 induction (fF n) with
 | nil=>rfl
 | cons a l b'=>rw [eN,vd,b'];rfl
theorem amm:∀ m,m < 7->(six.take m).length=m/\(six.take m).Nodup/\∀ x ∈ six.take m,made x jJ 8=true:=by ac_nf
def Z8 (K:a_) (a:Addr) (ns:List Int):bP:=fun vs H Q _=>∃ m:Nat,vs=[.ref a,.int m]/\Sc K a ns H/\(1 <= m/\m <= 8)/\∀ p xs I,aS H I->Sc K a ns I->H p=none->I p=some (.lst (aL xs))->DS m xs->Q (.ref p) I
theorem agh (a:Addr) (ns:List Int) (gx:ns.length <= 63):cu P base T 2 t.GN t.F8 Fe (Z8 K a ns):=by
 refine cy (xE T a ns gx) fun eE=>?_;exists T.Lw.ok q3,9
 obtain ⟨m,rfl,S,hm,q⟩:=h;have e4:(ae "abcdefghijklmnopqrstuvwxyz").length=26:=by ac_nf
 refine ⟨_,(aW (oT (i:=2) q3.aG rfl (m3 rfl) cX)
   (aW (b5 (i:=3) q3.aG (gm sH Dk Ak xT cX (ai (hl rfl (nY rfl T.oB (ai aR aE)) (gz (sc:=bz Ed) rfl (by ac_nf)) (N:=["_law_k","_law_letters","_law_script"]) (sel:=[none,some 2,some 0]) (gA (M:=["_law_script","_law_many","_law_letters","_law_base","_law_way","_law_at","_law_names_here","_law_k","_law_sign"]) (by ac_nf)) (fA.of (fun _ _ _ _=>(Db (i:=0) (er (N:=["_law_k","_law_letters","_law_script"]) (by ac_nf) rfl))) (fun _ _ _ _=>⟨_,ix,by walk_at "B"⟩) (fun _ _ _ _=>⟨_,(cq I1 (U 1) (cn eE ak T.fm T.eU.bH T.fs (ai (U 2) (ai (bF dT aR (U 0)) (ai aR aE))))),by walk_at "B"⟩))) aE)))
   (aW (b5 (i:=4) q3.aG (cn eE ak T.fm T.eU.bH T.fs (ai (U 0) (ai aR (ai aR aE)))))
   (aW (b5 (i:=5) q3.aG (cn eE ak T.fm T.eU.bH T.fs (ai (U 0) (ai aR (ai aR aE)))))
   (aW (b5 (i:=6) q3.aG (ha aE))
   (aW (dK (hH.pt (pO (c_ e5 (cn eE ak T.fm T.eU.bH T.fs (ai (U 0) (ai aR (ai aR aE)))) aR (cC _)) (pC (c_ lu (U 1) aR (cC _))))) (a6 (cg (sA Up (ha (ai cX (ai cX (ai cX (ai cX (ai cX (ai cX aE))))))) se (rU (U 1))))) eu)
   (aW (fU gi rfl (nY rfl T.oB (ai (U 1) aE)) (Db (i:=7) q3.aG) (aW (b5 (i:=8) q3.aG (cq I1 (U 2) (bF jn (bF dT (cn eE ak T.fm T.eU.bH T.fs (ai (U 0) (ai aR (ai aR aE)))) (U 7)) aR)))
   (a6 (dK (c_ e5 (U 4) aR (cC _)) (a6 (dS (gm ie lE mK Re (U 6) (ai (bF jM (bF jM (sA zB (U 3) se (rU (U 5))) (U 8)) (sA zB (U 3) (rU (bF dT (U 5) aR)) se)) aE)))) (a6 (dK (hH.pt (pO (c_ e5 (U 4) aR (cC _)) (pC (c_ lu (U 1) aR (cC _))))) (a6 (dS (gm ie lE mK Re (U 6) (ai (sA zB (U 3) se (rU (bF dT (U 7) aR))) aE)))) (a6 (dS (gm ie lE mK Re (U 6) (ai (bF jM (U 8) (sA zB (U 3) se (rU (cn eE ak T.fm T.eU.bH T.fs (ai (U 0) (ai (bF dT aR (U 7)) (ai aR aE))))))) aE))))))))))
   (a6 (cg (U 6)))))))))),?_⟩
 exists (fun ax I=>I=H/\ax=[~~~a,some (.int m),some (.str (ae "abcdefghijklmnopqrstuvwxyz")),none,none,none,none,none,none]),3
 .nofun;exact cL _ _ ⟨rfl,rfl⟩
 rintro f_ H1 ⟨rfl,rfl⟩;subst ba;exists (fun ax I=>aS H1 I/\Sc K a ns I/\∃ az:Str,az.cps.toList.length=8/\(∀ c ∈ az.cps.toList,97 <= c/\c <= 122)/\ax=[~~~a,some (.int m),some (.str (ae "abcdefghijklmnopqrstuvwxyz")),some (.str az),none,none,none,none,none]),3
 .nofun;refine ⟨by decide,by decide,?_⟩;refine c6.aho (n:=8) (fun i=>V.str (ji (97 + (dh ns (300 + (i:Int)) 26).toNat))) (by decide) (fun i N ah bf=>?_) (fun p ar=>?_)
  .have ew:=g8 ns (300 + (i:Int)) (m:=26) (by decide);have e':=gX ns (300 + (i:Int)) (m:=26) (by decide);obtain ⟨c,av,rfl⟩:=U' ew e';(nofun; repeat (dsimp only [hJ];nofun));exact ⟨Sub.name,S,by omega,by omega,by decide,by rw [e4];decide,_,av,bf⟩
  .have e:(fF 8).map (fun i:Nat=>V.str (ji (97 + (dh ns (300 + (i:Int)) 26).toNat)))=aL ((fF 8).map fun i:Nat=>ji (97 + (dh ns (300 + (i:Int)) 26).toNat)):=by unfold aL;rw [k_];rfl
   refine ⟨p,rfl,(fF 8).map fun i:Nat=>ji (97 + (dh ns (300 + (i:Int)) 26).toNat),by rw [<- e];exact aB.of aX,?_,?_⟩
   .have af:(qh (fun x:Str=>x.length) ((fF 8).map fun i:Nat=>ji (97 + (dh ns (300 + (i:Int)) 26).toNat))).sum=8:=by
     rw [k_];rfl
    rw [af,a0,tC];ac_nf
   .refine cL _ _ ⟨bq ar,S.new ar,_,?_,fun c av=>?_,rfl⟩
    .rw [Np (fun i:Nat=>97 + (dh ns (300 + (i:Int)) 26).toNat) 8,a0,tC]
    .rw [Np (fun i:Nat=>97 + (dh ns (300 + (i:Int)) 26).toNat) 8] at av;obtain ⟨i,_,rfl⟩:=b1.mp av;have ew:=g8 ns (300 + (i:Int)) (m:=26) (by decide);have e':=gX ns (300 + (i:Int)) (m:=26) (by decide);omega
 rintro cz aw ⟨s2,lV,az,gs,xK,rfl⟩;have CS:az.length=8:=by
  have:az.length=az.cps.toList.length:=by simp [tD]
  omega
 have agN:=g8 ns 310 (m:=3) (by decide);have ace:=gX ns 310 (m:=3) (by decide);subst ba;generalize qF:dh ns 310 3=way at agN ace;exists (fun ax I=>I=aw/\ax=[~~~a,some (.int m),some (.str (ae "abcdefghijklmnopqrstuvwxyz")),some (.str az),some (.int way),none,none,none,none]),3
 ·(nofun; repeat (dsimp only [hJ];nofun));rw [qF];exact ⟨lV,by omega,by omega,by decide,cL _ _ ⟨rfl,rfl⟩⟩
 rintro gb bw ⟨rfl,rfl⟩;obtain ⟨at_,pW,TG⟩:∃ at_:Nat,dh ns 311 8=(at_:Nat)/\at_ < 8:=by
  have ew:=g8 ns 311 (m:=8) (by decide);have e':=gX ns 311 (m:=8) (by decide);exact ⟨(dh ns 311 8).toNat,by omega,by omega⟩
 subst ba;exists (fun ax I=>I=bw/\ax=[~~~a,some (.int m),some (.str (ae "abcdefghijklmnopqrstuvwxyz")),some (.str az),some (.int way),some (.int (at_:Nat)),none,none,none]),3
 ·(nofun; repeat (dsimp only [hJ];nofun));rw [pW];exact ⟨lV,by omega,by omega,by omega,cL _ _ ⟨rfl,rfl⟩⟩
 rintro kT cS ⟨rfl,rfl⟩;obtain ⟨f,hf,apF⟩:∃ f:Nat,dh ns 312 26=(f:Nat)/\f < 26:=by
  have ew:=g8 ns 312 (m:=26) (by decide);have e':=gX ns 312 (m:=26) (by decide);exact ⟨(dh ns 312 26).toNat,by omega,by omega⟩
 subst ba;exists (fun ax I=>Sc K a ns I/\aS cS I/\∃ dw,cS dw=none/\I dw=some (.lst [])/\ax=[~~~a,some (.int m),some (.str (ae "abcdefghijklmnopqrstuvwxyz")),some (.str az),some (.int way),some (.int (at_:Nat)),~~~dw,none,none]),3
 .nofun;exact ⟨fC _,fun dw gS=>cL _ _ ⟨lV.new gS,bq gS,dw,gS,aX,rfl⟩⟩
 rintro mX fL ⟨wU,h2,dw,gS,tl,rfl⟩;subst ba;simp only [dG];refine qK (fun ax I=>I=fL/\ax=[~~~a,some (.int m),some (.str (ae "abcdefghijklmnopqrstuvwxyz")),some (.str az),some (.int way),some (.int (at_:Nat)),~~~dw,none,none]) (fun fk cL lW _ _=>?_) ?_
 .refine dW (decide (dh ns 313 8=0) && decide (m < 7)) (fun Q a8=>?_) (fun ab=>?_) (fun ab=>?_)
  ·(nofun; repeat (dsimp only [hJ];nofun));refine ⟨wU,by decide,by decide,by decide,?_⟩;by_cases bZ:dh ns 313 8=0
   .rw [if_pos (decide_eq_true bZ),show decide ((m:Int) < 7)=decide (m < 7) from decide_eq_decide.mpr (by omega)];rw [decide_eq_true bZ,lK] at a8;exact a8
   .rw [if_neg (by simpa using bZ)];rw [decide_eq_false bZ,mu] at a8;exact a8
  .rw [iE,decide_eq_true_eq,decide_eq_true_eq] at ab;obtain ⟨bG,cT,dY⟩:=amm m ab.2;nofun;refine ⟨by decide,fun p ar=>⟨_,aB.of aX,fun fc Kw=>?_⟩⟩;rw [lW];refine q fc (six.take m) _ (s2.trans (h2.trans ((bq ar).trans (bq Kw)))) ((wU.new ar).new Kw) ((s2.trans (h2.trans (bq ar))).free Kw) ?_ ⟨bG,cT,dY⟩;rw [aX,afl (show m <= 6 by omega)];unfold aL six;rw [UJ];rfl
  .simp only [iy];exact cL _ _ ⟨rfl,rfl⟩
 rintro kn g9 ⟨rfl,rfl⟩;obtain ⟨g,a5⟩:∃ g:Nat->List Nat,g=fun k=>if way=0 then n7 az.cps.toList at_ f k else if way=1 then vL az.cps.toList k else ob az.cps.toList f k (dh ns (320 + (k:Int)) 8).toNat:=⟨_,rfl⟩
 simp only [dG];exists (fun ax I=>Sc K a ns I/\aS cS I/\(∃ xs:List Str,I dw=some (.lst (aL xs))/\xs.map (·.cps.toList)=(fF m).map g)/\∃ d2 dp,ax=[~~~a,some (.int m),some (.str (ae "abcdefghijklmnopqrstuvwxyz")),some (.str az),some (.int way),some (.int (at_:Nat)),~~~dw,d2,dp]),0
 .nofun;refine ⟨by omega,by omega,?_⟩;refine d3.range (fun i σ I=>Sc K a ns I/\aS cS I/\(∃ xs:List Str,I dw=some (.lst (aL xs))/\xs.map (·.cps.toList)=(fF i).map g)/\∃ d2 dp,σ=[~~~a,some (.int m),some (.str (ae "abcdefghijklmnopqrstuvwxyz")),some (.str az),some (.int way),some (.int (at_:Nat)),~~~dw,d2,dp]) ⟨wU,h2,⟨[],tl,rfl⟩,_,_,rfl⟩ ?_ ?_
  .rintro i σ I ah bl;ac_rfl
   obtain ⟨x8,mP,⟨xs,m7,me⟩,d2,dp,rfl⟩:=bl;have aoV:i < 8:=by have:i < (m:Int).toNat:=ah;omega
   have hn:xs.length=i:=by have:=congrArg qH me;rwa [a0,a0,tC] at this
   obtain ⟨c,av,rfl⟩:=U' (i:=((f:Int) + (i:Int)) % 26) (DF _ (by decide)) (yN _ (by decide));have agr:(((f:Int) + (i:Int)) % 26).toNat=(f + i) % 26:=by omega
   subst ba;rw [agr] at av;simp only [ht,dG,ly,k',ro];exists (fun ax iV=>iV=I/\ax=[~~~a,some (.int m),some (.str (ae "abcdefghijklmnopqrstuvwxyz")),some (.str az),some (.int way),some (.int (at_:Nat)),~~~dw,some (.int (i:Nat)),some (.str (ji (97 + (f + i) % 26)))]),0
   ·(nofun; repeat (dsimp only [hJ];nofun));rw [hf];exact ⟨x8,by decide,by decide,by decide,by decide,by rw [e4];decide,_,av,cL _ _ ⟨rfl,rfl⟩⟩
   rintro ahN eV ⟨rfl,rfl⟩;have oM:∀ k:Nat,k <= 1000->k <= sizeLine:=fun k h=>cP h (by decide)
   have ajs:(ji (97 + (f + i) % 26)).length=1:=rfl;have put:∀ nm:Str,nm.cps.toList=g i->Sc K a ns (upd eV dw (.lst (aL xs ++ [.str nm])))/\aS cS (upd eV dw (.lst (aL xs ++ [.str nm])))/\(∃ ys:List Str,(upd eV dw (.lst (aL xs ++ [.str nm]))) dw=some (.lst (aL ys))/\ys.map (·.cps.toList)=(fF (i + 1)).map g):=fun nm km=>by
    refine ⟨x8.set m7 (fun _ _ z=>by cases z),mP.fY gS,xs ++ [nm],?_,?_⟩
    .rw [aX];unfold aL;rw [fS];rfl
    .rw [fS,me,xm,fS,eN,p',km];rfl
   have D_:(aL xs).length < sizeLine:=gQ (show (aL xs).length <= 8 by unfold aL;rw [a0];omega) (by decide);subst ba;dsimp only;refine dW (decide (way=0)) (fun Q a8=>?_) (fun Ib=>?_) (fun Ml=>?_)
   .nofun;exact a8
   .have hw:=of_decide_eq_true Ib;have o7:g i=n7 az.cps.toList at_ f i:=by rw [a5];exact if_pos hw
    have cw:=tS az none (some (at_:Int));have cN:=tS az (some ((at_:Int) + 1)) none;nofun;refine ⟨.inl ⟨_,aB.of m7⟩,by rw [CS];decide,oM _ (by omega),by rw [CS];decide,oM _ (by rw [oe];omega),_,m7,D_,?_⟩;obtain ⟨fc,eY,j9⟩:=put (lP az none (some (at_:Int)) ++ ji (97 + (f + i) % 26) ++ lP az (some ((at_:Int) + 1)) none) (by
     rw [o7];unfold n7;rw [k3,lX,k3,lX,JT az (by omega),show ((at_:Int) + 1)=((at_ + 1:Nat):Int) by omega,ZZ az (by omega)]
     rfl)
    exact ⟨fc,eY,j9,_,rfl⟩
   .have hw:=of_decide_eq_false Ml;refine dW (decide (way=1)) (fun Q a8=>?_) (fun Ib=>?_) (fun Ml=>?_)
    .nofun;by_cases cc:way=1
     .rw [if_pos (decide_eq_true cc),decide_eq_true (show (m:Int) < 9 by omega)];rw [decide_eq_true cc] at a8;exact a8
     .rw [if_neg (by simpa using cc)];rw [decide_eq_false cc] at a8;exact a8
    .have xP:=of_decide_eq_true Ib;have o7:g i=vL az.cps.toList i:=by rw [a5];exact (if_neg hw).trans (if_pos xP)
     nofun;refine ⟨.inl ⟨_,aB.of m7⟩,by rw [CS];decide,_,m7,D_,?_⟩;obtain ⟨fc,eY,j9⟩:=put (lP az none (some ((i:Int) + 1))) (by
      rw [o7,show ((i:Int) + 1)=((i + 1:Nat):Int) by omega,JT az (by omega)]
      rfl)
     exact ⟨fc,eY,j9,_,rfl⟩
    .have xP:=of_decide_eq_false Ml;have o7:g i=ob az.cps.toList f i (dh ns (320 + (i:Int)) 8).toNat:=by rw [a5];exact (if_neg hw).trans (if_neg xP)
     have ew:=g8 ns (320 + (i:Int)) (m:=8) (by decide);have e':=gX ns (320 + (i:Int)) (m:=8) (by decide);(nofun; repeat (dsimp only [hJ];nofun));obtain ⟨zh,OG⟩:∃ zh:Nat,dh ns (320 + (i:Int)) 8=(zh:Int):=⟨_,(pT ew).symm⟩;rw [OG] at o7 e';rw [OG];rw [qp] at o7;have cw:=tS az none (some (zh:Int));refine ⟨.inl ⟨_,aB.of m7⟩,x8,by omega,by omega,by decide,by rw [CS];decide,oM _ (by omega),_,m7,D_,?_⟩;obtain ⟨fc,eY,j9⟩:=put (ji (97 + (f + i) % 26) ++ lP az none (some (zh:Int))) (by
      rw [o7];unfold ob;rw [k3,lX,JT az (by omega)]
      rfl)
     exact ⟨fc,eY,j9,_,rfl⟩
  .rintro σ I bl;ac_rfl
   obtain ⟨x8,mP,⟨xs,m7,me⟩,d2,dp,rfl⟩:=bl;subst ba;exact cL _ _ ⟨x8,mP,⟨xs,m7,by rw [me,show (m:Int).toNat=m by omega]⟩,d2,dp,rfl⟩
 rintro t7 fM ⟨XM,kG,⟨xs,D5,me⟩,d2,dp,rfl⟩;have hn:xs.length=m:=by have:=congrArg qH me;rwa [a0,a0,tC] at this
 have aj_:∀ k:Nat,(dh ns (320 + (k:Int)) 8).toNat < 8:=fun k=>by
  have ew:=g8 ns (320 + (k:Int)) (m:=8) (by decide);have e':=gX ns (320 + (k:Int)) (m:=8) (by decide);omega
 have ZN:∀ k,k < m->(1 <= (g k).length/\(g k).length <= 8)/\∀ c ∈ g k,97 <= c/\c <= 122:=fun k aC=>by
  rw [a5];dsimp only;split
  .have:=ae8 gs xK (f:=f) (k:=k) TG;exact ⟨by omega,this.2⟩
  .split
   .have:=Iw gs xK (k:=k) (by omega);exact ⟨by omega,this.2⟩
   .exact Yw gs xK (aj_ k)
 have ajm:∀ i j,i < m->j < m->g i=g j->i=j:=fun i j ah aM e=>by
  rw [a5] at e;dsimp only at e;by_cases bZ:way=0
  .rw [if_pos bZ,if_pos bZ] at e;exact agY gs TG (by omega) (by omega) e
  .rw [if_neg bZ,if_neg bZ] at e;by_cases cc:way=1
   .rw [if_pos cc,if_pos cc] at e;have af:=Iw gs xK (k:=i) (by omega);have aj:=Iw gs xK (k:=j) (by omega);rw [e] at af;omega
   .rw [if_neg cc,if_neg cc] at e;exact YQ (by omega) (by omega) e
 have Iv:∀ (i:Nat) (x:Str),xs[i]? = some x->i < m/\x.cps.toList=g i:=fun i x ag=>by
  have ah:i < m:=by rw [<- hn];exact (cv.mp ag).1
  have e:=congrArg (fun l=>l[i]?) me
  try dsimp only at e
  rw [da,ag,da,List.getElem?_range ah] at e;exact ⟨ah,dU e⟩
 have N:DS m xs:=by
  refine ⟨hn,Zs.mpr fun i j ah aM n6 e=>?_,fun x ag=>?_⟩
  .obtain ⟨a1,a2⟩:=Iv i _ (bc ah);obtain ⟨gY,e9⟩:=Iv j _ (bc aM);rw [e,e9] at a2;have:=ajm i j a1 gY a2.symm;omega
  .obtain ⟨i,ah⟩:=iN ag;obtain ⟨a1,a2⟩:=Iv i _ ah;have:=ZN i a1;exact abh a2 this.1.1 this.1.2 this.2
 subst ba;nofun;exact q dw xs fM (s2.trans kG) XM (s2.free gS) D5 N
noncomputable abbrev kd (d:bj):List V:=[.str (eD d.k),.str d.name,.int d.start,.int d.fin,.int d.off,.int d.near,.int d.least]
def iz (H:au) (wl:Addr) (ds:List bj):Prop:=∃ qs:List Addr,H wl=some (.lst (qs.map V.ref))/\qs.length=ds.length/\∀ (i:Nat) (q:Addr) (d:bj),qs[i]? = some q->ds[i]? = some d->H q=some (.tup (kd d))
theorem iz.same (h:iz H wl ds) (s:aS H I):iz I wl ds:=by
 obtain ⟨qs,aq,aD,al⟩:=h;exact ⟨qs,s _ _ aq,aD,fun i q d af aj=>s _ _ (al i q d af aj)⟩
theorem iz.snoc {H:au} {wl p:Addr} {ds:List bj} {d:bj} {qs:List Addr} (cw:H wl=some (.lst (qs.map V.ref))) (cN:qs.length=ds.length)
  (al:∀ (i:Nat) (q:Addr) (d:bj),qs[i]? = some q->ds[i]? = some d->H q=some (.tup (kd d))) (ar:H p=none) :
  iz (upd (upd H p (.tup (kd d))) wl (.lst (qs.map V.ref ++ [.ref p]))) wl (ds ++ [d]):=by
 have iw:p ≠ wl:=(dj cw ar).symm;refine ⟨qs ++ [p],by rw [aX,fS];rfl,by rw [ec,ec,cN];rfl,fun i q e af aj=>?_⟩;rcases my af with ⟨ez,d9⟩ | ⟨ez,rfl⟩
 .rcases my aj with ⟨nx,qT⟩ | ⟨nx,_⟩
  .have:=al i q e d9 qT;rw [aH (b0 this cw (by intro z;cases z)),aH (dj this ar)];exact this
  .omega
 .rcases my aj with ⟨nx,qT⟩ | ⟨nx,rfl⟩
  .omega
  .rw [aH iw,aX]
theorem XY {n s j:Int} (h0:0 <= s) (af:s < n) (aj:0 <= j) (a':j < n - 1):s ≠ (s + 1 + j) % n:=by
 by_cases c:s + 1 + j < n
 .rw [GI (by omega) c];omega
 .rw [show s + 1 + j=(s + 1 + j - n) + n * 1 by omega,Int.add_mul_emod_self_left,GI (by omega) (by omega)];omega
structure rD (n:Int) (ds:List bj):Prop where
 al:∀ d ∈ ds,jV n d/\True
 aG:(ds.map (·.name)).Nodup
theorem rD.Ue (h:rD n ds) (aY:2 <= n/\n <= 99) (aA:1 <= ds.length/\ds.length <= 12):rZ n ds:=⟨aY,aA,fun d hd=>(h.al d hd).1,h.aG⟩
def NE (K:a_) (a:Addr) (ns:List Int):bP:=fun vs H Q _=>∃ most:Int,vs=[.ref a,.int most]/\(1 <= most/\most <= 8)/\Sc K a ns H /\
 ∀ ia wl n ds I,aS H I->Sc K a ns I->I ia=some (.tup [.int n,.ref wl])->iz I wl ds->rD n ds->(∀ d ∈ ds,d.least <= 4)->(4 <= n/\n <= 99)->(1 <= ds.length/\(ds.length:Int) <= most)->Q (.ref ia) I
theorem ake (h0:0 <= i) (af:i < 4):∃ k:Nat,k < 3/\f3 [V.str (ae "car"),V.str (ae "car"),V.str (ae "foot"),V.str (ae "tram")] i=some (.str (eD k)):=by
 have:i=0\/i=1\/i=2\/i=3:=by omega
 rcases this with rfl | rfl | rfl | rfl
 .exact ⟨0,by decide,cB (j:=0) rfl⟩
 .exact ⟨0,by decide,cB (j:=1) rfl⟩
 .exact ⟨1,by decide,cB (j:=2) rfl⟩
 .exact ⟨2,by decide,cB (j:=3) rfl⟩
theorem at2 (x y:V) (c:Bool):f3 [x,y] (if c=true then 1 else 0)=some (if c=true then y else x):=by
 cases c with
 | true=>exact cB (j:=1) rfl
 | false=>exact cB (j:=0) rfl
theorem acC (a:Addr) (ns:List Int) (gx:ns.length <= 63):cu P base T 3 t.Aw t.Av zU (NE K a ns):=by
 refine cy (xE T a ns gx) fun eE=>cy (agh T a ns gx) fun Yz=>?_;exists T.JP.ok mn,9
 obtain ⟨most,rfl,aoG,S,q⟩:=h;refine ⟨_,(aW (b5 (i:=2) mn.aG (cq lc (ha (ai (bF dT aR (cn eE ak T.fm T.eU.bH T.fs (ai (U 0) (ai aR (ai aR aE))))) (ai aR aE))) (lg Wr rfl T.HS Je (ai (hO e5 (cn eE ak T.fm T.eU.bH T.fs (ai (U 0) (ai aR (ai aR aE)))) aR (cC _)) aE))))
   (aW (b5 (i:=3) mn.aG (cn Yz ak T.abl T.Lw.bH T.ak_ (ai (U 0) (ai (bF dT aR (cn eE ak T.fm T.eU.bH T.fs (ai (U 0) (ai aR (ai (U 1) aE))))) aE))))
   (aW (b5 (i:=4) mn.aG (ha aE))
   (aW (fU gi rfl (nY rfl T.oB (ai (gD h4 rfl T.hR hW (ai (U 3) aE)) aE)) (Db (i:=5) mn.aG) (aW (b5 (i:=6) mn.aG (cn eE ak T.fm T.eU.bH T.fs (ai (U 0) (ai (bF dT aR (bF jt aR (U 5))) (ai (U 2) aE)))))
   (aW (b5 (i:=7) mn.aG (bF jn (bF dT (bF dT (U 6) aR) (cn eE ak T.fm T.eU.bH T.fs (ai (U 0) (ai (bF dT aR (bF jt aR (U 5))) (ai (bF l_ (U 2) aR) aE))))) (U 2)))
   (aW (b5 (i:=8) mn.aG (cq lc (ha (ai cX (ai cX (ai cX (ai cX aE))))) (cn eE ak T.fm T.eU.bH T.fs (ai (U 0) (ai (bF dT aR (bF jt aR (U 5))) (ai aR aE))))))
   (aW (b5 (i:=9) mn.aG (cq lc (ha (ai (cn eE ak T.fm T.eU.bH T.fs (ai (U 0) (ai (bF dT aR (bF jt aR (U 5))) (ai aR aE)))) (ai aR aE))) (lg Wr rfl T.HS Je (ai (hO e5 (cn eE ak T.fm T.eU.bH T.fs (ai (U 0) (ai (bF dT aR (bF jt aR (U 5))) (ai aR aE)))) aR (cC _)) aE))))
   (aW (b5 (i:=10) mn.aG (cn eE ak T.fm T.eU.bH T.fs (ai (U 0) (ai (bF dT aR (bF jt aR (U 5))) (ai aR aE)))))
   (aW (dK (hH.pt (pO (c_ e5 (cn eE ak T.fm T.eU.bH T.fs (ai (U 0) (ai aR (ai aR aE)))) aR (cC _)) (pC (c_ qN (cn eE ak T.fm T.eU.bH T.fs (ai (U 0) (ai (bF dT aR (U 5)) (ai aR aE)))) aR (cC _))))) (aW (b5 (i:=8) mn.aG cX)
   (a6 (b5 (i:=9) mn.aG aR))) eu)
   (a6 (dS (gm ie lE mK Re (U 4) (ai (ls (ai (U 8) (ai (cq lc (U 3) (U 5)) (ai (U 6) (ai (U 7) (ai (U 9) (ai (U 10) (ai (bF dT aR (cn eE ak T.fm T.eU.bH T.fs (ai (U 0) (ai (bF dT aR (bF jt aR (U 5))) (ai aR aE))))) aE)))))))) aE)))))))))))
   (a6 (cg (ls (ai (U 2) (ai (U 4) aE))))))))),?_⟩
 exists (fun ax I=>aS H I/\Sc K a ns I/\∃ n:Int,(4 <= n/\n <= 99)/\ax=[~~~a,some (.int most),some (.int n),none,none,none,none,none,none,none,none]),3
 .have ew:=g8 ns 2 (m:=13) (by decide);have e':=gX ns 2 (m:=13) (by decide);(nofun; repeat (dsimp only [hJ];nofun));obtain ⟨n,aY,r0⟩:∃ n:Int,(4 <= n/\n <= 99)/\(if decide (dh ns 3 6=0)=true then V.int 99 else V.int (4 + dh ns 2 13))=V.int n:=by
   split
   .exact ⟨99,by decide,rfl⟩
   .exact ⟨_,by omega,rfl⟩
  refine ⟨S,by decide,by decide,by decide,by decide,fun p ar=>⟨S.new ar,by decide,by decide,by decide,_,aB.of aX,_,at2 _ _ _,?_⟩⟩;rw [r0];exact cL _ _ ⟨bq ar,S.new ar,n,aY,rfl⟩
 rintro ank cp ⟨s0,AH,n,aY,rfl⟩;obtain ⟨m,agm,hm⟩:∃ m:Nat,1 + dh ns 1 most=(m:Nat)/\(1 <= m/\m <= 8/\(m:Int) <= most):=by
  have ew:=g8 ns 1 (m:=most) (by omega);have e':=gX ns 1 (m:=most) (by omega);exact ⟨(1 + dh ns 1 most).toNat,by omega,by omega⟩
 subst ba;exists (fun ax I=>aS cp I/\Sc K a ns I/\∃ nl xs,I nl=some (.lst (aL xs))/\DS m xs/\ax=[~~~a,some (.int most),some (.int n),~~~nl,none,none,none,none,none,none,none]),3
 .nofun;refine ⟨_,_,rfl,AH,by decide,by omega,_,rfl,?_⟩;rw [agm];exact ⟨m,rfl,AH,by omega,fun p xs I s1 lJ _ e N=>cL _ _ ⟨s1,lJ,p,xs,e,N,rfl⟩⟩
 rintro f_ H1 ⟨s1,lJ,nl,xs,r0,N,rfl⟩;subst ba;exists (fun ax I=>Sc K a ns I/\aS H1 I/\∃ wl,H1 wl=none/\I wl=some (.lst [])/\ax=[~~~a,some (.int most),some (.int n),~~~nl,~~~wl,none,none,none,none,none,none]),3
 .nofun;exact ⟨fC _,fun wl gs=>cL _ _ ⟨lJ.new gs,bq gs,wl,gs,aX,rfl⟩⟩
 rintro gb bw ⟨nF,s3,wl,gs,hx,rfl⟩;have RY:(aL xs).length=m:=by unfold aL;rw [a0,N.1]
 subst ba;nofun;refine ⟨_,.inl (aB.of (s3 _ _ r0)),by omega,by rw [RY];omega,?_⟩;rw [show (((aL xs).length:Nat):Int).toNat=m by rw [RY];rfl];refine d3.range (fun i σ I=>Sc K a ns I/\aS H1 I/\(∃ ds,iz I wl ds/\ds.length=i/\(∀ d ∈ ds,jV n d/\d.least <= 4)/\∀ (j:Nat) (d:bj),ds[j]? = some d->xs[j]? = some d.name)/\∃ eK eL d2 dp mR ik,σ=[~~~a,some (.int most),some (.int n),~~~nl,~~~wl,eK,eL,d2,dp,mR,ik]) ⟨nF,s3,⟨[],⟨[],hx,rfl,fun i q d h=>by simp at h⟩,rfl,fun d h=>by simp at h,fun j d h=>by simp at h⟩,_,_,_,_,_,_,rfl⟩ ?_ ?_
 .rintro i σ I ah bl;ac_rfl
  obtain ⟨iB,s4,⟨ds,sT,fj,a4,km⟩,eK,eL,d2,dp,mR,ik,rfl⟩:=bl;have A1:i < m:=ah;have Ac:xs[i]? = some (xs[i]'(by rw [N.1];exact A1)):=bc _;subst ba;generalize xs[i]'(by rw [N.1];exact A1)=nm at Ac;have Z3:=s4 _ _ r0;have agT:f3 (aL xs) ((i:Nat):Int)=some (.str nm):=cB (by unfold aL;rw [da,Ac];rfl);simp only [ht,dG,ly,k',ro];exists (fun ax iV=>iV=I/\∃ st:Int,(0 <= st/\st < n)/\ax=[~~~a,some (.int most),some (.int n),~~~nl,~~~wl,some (.int (i:Nat)),some (.int st),d2,dp,mR,ik]),0
  .have ew:=g8 ns (10 + 7 * (i:Int)) (m:=n) (by omega);have e':=gX ns (10 + 7 * (i:Int)) (m:=n) (by omega);(nofun; repeat (dsimp only [hJ];nofun));exact ⟨.inl ⟨by decide,by decide⟩,iB,by omega,by omega,by omega,cL _ _ ⟨rfl,_,⟨ew,e'⟩,rfl⟩⟩
  rintro ahN eV ⟨rfl,st,fO,rfl⟩;subst ba;simp only [dG];exists (fun ax iV=>iV=eV/\∃ fp:Int,(0 <= fp/\fp < n)/\st ≠ fp/\ax=[~~~a,some (.int most),some (.int n),~~~nl,~~~wl,some (.int (i:Nat)),some (.int st),some (.int fp),dp,mR,ik]),0
  .have ew:=g8 ns (11 + 7 * (i:Int)) (m:=n - 1) (by omega);have e':=gX ns (11 + 7 * (i:Int)) (m:=n - 1) (by omega);have m0:=DF (st + 1 + dh ns (11 + 7 * (i:Int)) (n - 1)) (show n ≠ 0 by omega);have jD:=yN (st + 1 + dh ns (11 + 7 * (i:Int)) (n - 1)) (show 0 < n by omega);(nofun; repeat (dsimp only [hJ];nofun));exact ⟨.inl ⟨by decide,by decide⟩,iB,by omega,by omega,by omega,by omega,cL _ _ ⟨rfl,_,⟨m0,jD⟩,XY fO.1 fO.2 ew (by omega),rfl⟩⟩
  rintro apy kv ⟨rfl,fp,Fy,bX,rfl⟩;subst ba;simp only [dG];exists (fun ax iV=>aS kv iV/\Sc K a ns iV/\∃ k:Nat,k < 3/\ax=[~~~a,some (.int most),some (.int n),~~~nl,~~~wl,some (.int (i:Nat)),some (.int st),some (.int fp),some (.str (eD k)),mR,ik]),0
  .have ew:=g8 ns (12 + 7 * (i:Int)) (m:=4) (by decide);have e':=gX ns (12 + 7 * (i:Int)) (m:=4) (by decide);obtain ⟨k,aC,pW⟩:=ake ew e';(nofun; repeat (dsimp only [hJ];nofun));exact ⟨by decide,fun p ar=>⟨.inl ⟨by decide,by decide⟩,iB.new ar,by omega,by omega,by decide,_,aB.of aX,_,pW,cL _ _ ⟨bq ar,iB.new ar,k,aC,rfl⟩⟩⟩
  rintro apr Kn ⟨jO,SC,jr,i3,rfl⟩;subst ba;simp only [dG];exists (fun ax iV=>aS Kn iV/\Sc K a ns iV/\∃ r7:Int,(0 <= r7/\r7 <= 30)/\ax=[~~~a,some (.int most),some (.int n),~~~nl,~~~wl,some (.int (i:Nat)),some (.int st),some (.int fp),some (.str (eD jr)),some (.int r7),ik]),0
  .have ew:=g8 ns (13 + 7 * (i:Int)) (m:=9) (by decide);have e':=gX ns (13 + 7 * (i:Int)) (m:=9) (by decide);(nofun; repeat (dsimp only [hJ];nofun));obtain ⟨v,aF,r0⟩:∃ v:Int,(0 <= v/\v <= 30)/\(if decide (dh ns (14 + 7 * (i:Int)) 12=0)=true then V.int 30 else V.int (dh ns (13 + 7 * (i:Int)) 9))=V.int v:=by
    split
    .exact ⟨30,by decide,rfl⟩
    .exact ⟨_,by omega,rfl⟩
   refine ⟨.inl ⟨by decide,by decide⟩,SC,by omega,by omega,by decide,by decide,fun p ar=>⟨.inl ⟨by decide,by decide⟩,SC.new ar,by omega,by omega,by decide,_,aB.of aX,_,at2 _ _ _,?_⟩⟩;rw [r0];exact cL _ _ ⟨bq ar,SC.new ar,v,aF,rfl⟩
  rintro an9 Pu ⟨sb,wy,MW,ali,rfl⟩;subst ba;simp only [dG];exists (fun ax iV=>iV=Pu/\∃ KG:Int,(0 <= KG/\KG <= 5)/\ax=[~~~a,some (.int most),some (.int n),~~~nl,~~~wl,some (.int (i:Nat)),some (.int st),some (.int fp),some (.str (eD jr)),some (.int MW),some (.int KG)]),0
  .have ew:=g8 ns (15 + 7 * (i:Int)) (m:=6) (by decide);have e':=gX ns (15 + 7 * (i:Int)) (m:=6) (by decide);(nofun; repeat (dsimp only [hJ];nofun));exact ⟨.inl ⟨by decide,by decide⟩,wy,by omega,by omega,by decide,cL _ _ ⟨rfl,_,by omega,rfl⟩⟩
  rintro am3 ahD ⟨rfl,ne1,akZ,rfl⟩;subst ba;simp only [dG];exists (fun ax iV=>iV=ahD/\∃ (k:Nat) (r7:Int),k < 3/\(0 <= r7/\r7 <= 30)/\ax=[~~~a,some (.int most),some (.int n),~~~nl,~~~wl,some (.int (i:Nat)),some (.int st),some (.int fp),some (.str (eD k)),some (.int r7),some (.int ne1)]),0
  .refine dW (decide (dh ns 9 6=0) && decide (0 < dh ns (60 + (i:Int)) 4)) (fun Q a8=>?_) (fun _=>?_) (fun _=>?_)
   ·(nofun; repeat (dsimp only [hJ];nofun));refine ⟨wy,by omega,by omega,by decide,?_⟩;by_cases bZ:dh ns 9 6=0
    .rw [if_pos (decide_eq_true bZ)];rw [decide_eq_true bZ,lK] at a8;exact ⟨wy,by omega,by omega,by decide,a8⟩
    .rw [if_neg (by simpa using bZ)];rw [decide_eq_false bZ,mu] at a8;exact a8
   .nofun;exact cL _ _ ⟨rfl,1,0,by decide,by decide,rfl⟩
   .nofun;exact cL _ _ ⟨rfl,jr,MW,i3,ali,rfl⟩
  rintro am6 aoR ⟨rfl,k,of2,aC,ajf,rfl⟩;have gf:=jO.trans sb;have ab5:=gf _ _ Z3;have ZH:=sT.same gf;have ew:=g8 ns (16 + 7 * (i:Int)) (m:=4) (by decide);have e':=gX ns (16 + 7 * (i:Int)) (m:=4) (by decide);obtain ⟨ui,agF,hle⟩:∃ ui:Int,1 + dh ns (16 + 7 * (i:Int)) 4=ui/\1 <= ui/\ui <= 4:=⟨_,rfl,by omega,by omega⟩;obtain ⟨qs,cw,cN,al⟩:=ZH;subst ba;(nofun; repeat (dsimp only [hJ];nofun));rw [agF];refine ⟨.inl ⟨_,aB.of cw⟩,_,aB.of ab5,_,agT,.inl ⟨by decide,by decide⟩,wy,by omega,by omega,by decide,by decide,fun p ar=>?_⟩;have dP:wl ≠ p:=dj cw ar;have afJ:=iz.snoc (d:=⟨k,nm,st,fp,of2,ne1,ui⟩) cw cN al ar;refine ⟨_,by rw [aH dP];exact cw,gQ (show (qs.map V.ref).length <= 8 by rw [a0];omega) (by decide),(wy.new ar).set (by rw [aH dP];exact cw) (fun _ _ z=>by cases z),((s4.trans gf).trans (bq ar)).fY gs,⟨ds ++ [⟨k,nm,st,fp,of2,ne1,ui⟩],afJ,by rw [ec,fj];rfl,fun d hd=>?_,fun j d hd=>?_⟩,?_⟩
  .rcases hI.mp hd with hd | hd
   .exact a4 d hd
   .rw [gg.mp hd];exact ⟨⟨aC,N.2.2 nm (cH Ac),⟨fO.1,fO.2⟩,⟨Fy.1,Fy.2⟩,bX,ajf,⟨akZ.1,by dsimp only;omega⟩,⟨hle.1,by dsimp only;omega⟩⟩,hle.2⟩
  .rcases my hd with ⟨_,z⟩ | ⟨z,rfl⟩
   .exact km j d z
   .rw [z,fj];exact Ac
  .repeat (first | exact ⟨_,rfl⟩ | refine ⟨⟨_,rfl⟩,?_⟩)
 .rintro σ I bl;ac_rfl
  obtain ⟨iB,s4,⟨ds,sT,fj,a4,km⟩,eK,eL,d2,dp,mR,ik,rfl⟩:=bl;subst ba;nofun;refine ⟨by decide,fun ia n9=>?_⟩;refine q ia wl n ds _ (((s0.trans s1).trans s4).trans (bq n9)) (iB.new n9) aX (sT.same (bq n9)) ⟨fun d hd=>⟨(a4 d hd).1,trivial⟩,?_⟩ (fun d hd=>(a4 d hd).2) aY (by omega);have e:ds.map (·.name)=xs:=by
   refine List.ext_getElem? fun j=>?_
   rw [da];cases h:ds[j]? with
   | some d=>exact (km j d h).symm
   | none=>
    have:ds.length <= j:=KA.mp h;exact (KA.mpr (by rw [N.1];omega)).symm
  rw [e];exact N.2.1
theorem abv (d:bj):((((eD d.k ++ ae " ") ++ d.name) ++ ae " ") ++ pB (ae " ") [num d.start,num d.fin,num d.off,num d.near,num d.least])=d4 cA (m2 d):=by
 apply BK;have fG:(ae " ").cps.toList=[32]:=by ac_nf
 rw [show pB (ae " ") [num d.start,num d.fin,num d.off,num d.near,num d.least]=d4 cA [num d.start,num d.fin,num d.off,num d.near,num d.least] from yv _ _];rw [k3,lX,dL,qa,qa];unfold m2;simp only [k3,lX,eN,p',kY,fG,pG,yD,Gy]
theorem al7 (n:Int):ae "ring " ++ num n=d4 cA [ae "ring",num n]:=by
 apply BK;have aq:(ae "ring ").cps.toList=[114,105,110,103,32]:=by ac_nf
 have aD:(ae "ring").cps.toList=[114,105,110,103]:=by ac_nf
 rw [dL,qa];simp only [k3,lX,eN,p',kY,aq,aD,yD,Gy]
theorem AG:∀ {ys:List Str},(∀ y ∈ ys,y.length <= B)->(ys.map (·.length)).sum <= ys.length * B
 | [],_=>by simp
 | a :: r,h=>by
  have af:=h a (by simp);have aj:=AG (B:=B) (ys:=r) fun y bh=>h y (hS _ bh)
  rw [eN,UT,hi,Xt];omega
theorem al4 (h:rZ n ds):∀ y ∈ (h5 n ds).map (d4 cA),y.length <= 63:=fun y bh=>by
 obtain ⟨r,ak,rfl⟩:=b1.mp bh;have:=pw cA 8 r fun x ag=>(h.plain r ak x ag).1
 rw [qm] at this;have aA:r.length <= 7:=by
  rcases fi.mp ak with rfl | ak
  .simp
  .obtain ⟨d,hd,rfl⟩:=b1.mp ak;simp [m2]
 omega
def VS (K:a_):bP:=fun vs H Q _=>∃ n wl ds,vs=[.int n,.ref wl]/\iz H wl ds/\rD n ds/\(2 <= n/\n <= 99)/\(1 <= ds.length/\ds.length <= 12)/\aP H/\Q (.str (pb n ds)) H
def adM (K:a_):bP:=fun vs H Q _=>∃ n wl ds,vs=[.int n,.ref wl]/\iz H wl ds/\rD n ds/\(2 <= n/\n <= 99)/\(1 <= ds.length/\ds.length <= 12)/\∀ I,aS H I->Q (.str (pb n ds)) I
theorem aej:cu P base T 1 t.CU t.CB zp (VS K):=by
 refine b_.forget (sp:=adM K) ?_ fun vs H Q E h=>?_
 .exists T.Ez.ok F7,9
  obtain ⟨n,wl,ds,rfl,L,D,aY,aA,q⟩:=h;refine ⟨_,(aW (b5 (i:=2) F7.aG (ha (ai (bF jM cX (lg x5 rfl T.wV vl (ai (U 0) aE))) aE)))
   (aW (fU gi rfl (eA (U 1)) (Db (i:=3) F7.aG) (a6 (dS (gm ie lE mK Re (U 2) (ai (bF jM (bF jM (bF jM (bF jM (cq fP (U 3) aR) cX) (cq fP (U 3) aR)) cX) (gm sH Dk Ak xT cX (ai (hl rfl (W3 (sA YD (U 3) (rU aR) se)) (gz (sc:=bz Kv) rfl (by ac_nf)) (N:=["_law_number"]) (sel:=[none]) (gA (M:=["_law_places","_law_ways_here","_law_rows","_law_way"]) (by ac_nf)) (fA.of (fun _ _ _ _=>(Db (i:=0) (er (N:=["_law_number"]) (by ac_nf) rfl))) (fun _ _ _ _=>⟨_,ix,by walk_at "B"⟩) (fun _ _ _ _=>⟨_,(lg x5 rfl T.wV vl (ai (U 0) aE)),by walk_at "B"⟩))) aE))) aE)))))
   (a6 (cg (gm sH Dk Ak xT cX (ai (U 2) aE)))))),?_⟩
  have cj:=D.Ue aY aA;obtain ⟨qs,cw,cN,al⟩:=L;have hlen:∀ x:Str,pS x->x.length <= 8:=fun x h=>h.1
  have oM:∀ k:Nat,k <= 1000->k <= sizeLine:=fun k h=>cP h (by decide)
  have Z6:(ae "ring ").length=5:=by ac_nf
  have Cy:(ae " ").length=1:=by ac_nf
  nofun;have an0:(ae (toString n)).length <= 8:=(kR (v:=n) (by omega) (by omega)).1;refine ⟨LM (by omega),oM _ (by rw [Z6];omega),by decide,fun dw y2=>?_⟩;rw [al7];have s0:aS H (upd H dw (.lst [V.str (d4 cA [ae "ring",num n])])):=bq y2;refine ⟨⟨_,aB.of (s0 _ _ cw)⟩,?_⟩;refine d3.list (xs:=qs.map V.ref) (fun i σ I=>aS H I/\I dw=some (.lst (aL ((h5 n (ds.take i)).map (d4 cA))))/\∃ x,σ=[some (.int n),~~~wl,~~~dw,x]) ?_ ?_ ?_ ?_
  .exact ⟨s0,aX,none,rfl⟩
  .rintro i σ I ah ⟨bR,_,_⟩;exact aB.of (bR _ _ cw)
  .rintro i v σ I aF bl;ac_rfl
   obtain ⟨bR,ak,x,rfl⟩:=bl;obtain ⟨cW,aI,rfl⟩:=cf aF;have lA:i < ds.length:=by rw [<- cN];exact (cv.mp aI).1
   have hd:ds[i]? = some ds[i]:=bc lA;have et:c0 K I cW (kd ds[i]):=c0.of (bR _ _ (al i cW _ aI hd));have hw:=(D.al _ (cH hd)).1;have gY:=hw.st;have e9:=hw.fp;have lY:=hw.of;have wm:=hw.KL;have agA:=hw.le;have ez:=hlen _ (Uj ds[i].k);have d9:=hlen _ (He hw.nm);have vu:(num ds[i].start).length <= 8:=hlen _ (kR (v:=ds[i].start) (by omega) (by omega));have ao3:(num ds[i].fin).length <= 8:=hlen _ (kR (v:=ds[i].fin) (by omega) (by omega));have aop:(num ds[i].off).length <= 8:=hlen _ (kR (v:=ds[i].off) (by omega) (by omega));have aoe:(num ds[i].least).length <= 8:=hlen _ (kR (v:=ds[i].least) (by omega) (by omega));have aoS:(num ds[i].near).length <= 8:=hlen _ (kR (v:=ds[i].near) (by omega) (by omega));subst ba;nofun;refine ⟨.inl ⟨_,aB.of ak⟩,?_⟩;have agR:f3 (kd ds[i]) 0=some (.str (eD ds[i].k)):=cB (j:=0) rfl;have ad4:f3 (kd ds[i]) 1=some (.str ds[i].name):=cB (j:=1) rfl;refine ⟨_,et,_,agR,_,rfl,oM _ (by omega),_,et,_,ad4,_,rfl,oM _ (by rw [oe];omega),oM _ (by simp only [oe];omega),?_⟩;have Ff:mm (kd ds[i]) (some 2) none=[.int ds[i].start,.int ds[i].fin,.int ds[i].off,.int ds[i].near,.int ds[i].least]:=rfl;refine ⟨_,et,?_,fun p ar=>⟨⟨_,c0.of aX⟩,?_⟩⟩
   .show ¬ (fZ.dc 7 0 (some 2)=0/\fZ.dc 7 7 none=7);decide
   rw [Ff];have aoz:(pB (ae " ") [num ds[i].start,num ds[i].fin,num ds[i].off,num ds[i].near,num ds[i].least]).length <= 50:=by
    rw [show pB (ae " ") [num ds[i].start,num ds[i].fin,num ds[i].off,num ds[i].near,num ds[i].least]=d4 cA [num ds[i].start,num ds[i].fin,num ds[i].off,num ds[i].near,num ds[i].least] from yv _ _];have:=pw cA 8 [num ds[i].start,num ds[i].fin,num ds[i].off,num ds[i].near,num ds[i].least] (fun y bh=>by
     simp only [fi,rt,or_false] at bh;rcases bh with rfl | rfl | rfl | rfl | rfl <;> assumption)
    rw [qm] at this;simp only [hi,x4] at this;omega
   refine c6.WL (xs:=[.int ds[i].start,.int ds[i].fin,.int ds[i].off,.int ds[i].near,.int ds[i].least]) (zs:=aL [num ds[i].start,num ds[i].fin,num ds[i].off,num ds[i].near,num ds[i].least]) (c0.of aX) (oM _ (show 5 <= 1000 by decide)) rfl (fun j v z N aF aJ bf=>?_) (fun eY gB=>?_)
   .have key:∃ a:Int,v=.int a/\z=.str (num a)/\0 <= a/\a < 100:=by
     match j,aF,aJ with
     | 0,aF,aJ=>cases aF;cases aJ;exact ⟨_,rfl,rfl,gY.1,by omega⟩
     | 1,aF,aJ=>cases aF;cases aJ;exact ⟨_,rfl,rfl,e9.1,by omega⟩
     | 2,aF,aJ=>cases aF;cases aJ;exact ⟨_,rfl,rfl,lY.1,by omega⟩
     | 3,aF,aJ=>cases aF;cases aJ;exact ⟨_,rfl,rfl,wm.1,by omega⟩
     | 4,aF,aJ=>cases aF;cases aJ;exact ⟨_,rfl,rfl,by omega,by omega⟩
     | k + 5,aF,aJ=>simp at aF
    obtain ⟨a,rfl,rfl,an4,aoP⟩:=key;nofun;exact ⟨Sub.name,LM (by omega),bf⟩
   .nofun;have adZ:dw ≠ eY:=by
     rintro rfl;rw [aH (dj ak ar)] at gB;rw [gB] at ak;cases ak
    have gS:(upd (upd I p (.tup [.int ds[i].start,.int ds[i].fin,.int ds[i].off,.int ds[i].near,.int ds[i].least])) eY (.lst (aL [num ds[i].start,num ds[i].fin,num ds[i].off,num ds[i].near,num ds[i].least]))) dw=some (.lst (aL ((h5 n (ds.take i)).map (d4 cA)))):=by
     rw [aH adZ,aH (dj ak ar)];exact ak
    have w0:aS I (upd (upd I p (.tup [.int ds[i].start,.int ds[i].fin,.int ds[i].off,.int ds[i].near,.int ds[i].least])) eY (.lst (aL [num ds[i].start,num ds[i].fin,num ds[i].off,num ds[i].near,num ds[i].least]))):=(bq ar).trans (bq gB);have PZ:=aB.of (K:=K) (H:=upd (upd I p (.tup [.int ds[i].start,.int ds[i].fin,.int ds[i].off,.int ds[i].near,.int ds[i].least])) eY (.lst (aL [num ds[i].start,num ds[i].fin,num ds[i].off,num ds[i].near,num ds[i].least]))) (a:=eY) aX;generalize upd (upd I p (.tup [.int ds[i].start,.int ds[i].fin,.int ds[i].off,.int ds[i].near,.int ds[i].least])) eY (.lst (aL [num ds[i].start,num ds[i].fin,num ds[i].off,num ds[i].near,num ds[i].least]))=aw at gS w0 PZ ⊢;refine ⟨_,PZ,?_,oM _ (by simp only [oe];omega),_,gS,?_,?_,?_,_,rfl⟩
    .simp only [eN,p',UT,List.sum_nil,hi,x4];omega
    .rw [eF,a0];exact gQ (show (h5 n (ds.take i)).length <= 13 by unfold h5;rw [hi,a0,hE];omega) (by decide)
    .exact fun b u e=>by rw [aH (dj e y2)];exact w0 _ _ (bR _ _ e)
    .rw [aX,abv ds[i]];congr 2;unfold h5 aL;simp;rw [pz,da,hd];rfl
  .rintro σ I bl;ac_rfl
   obtain ⟨bR,ak,x,rfl⟩:=bl;subst ba;nofun;rw [a0,cN,ig] at ak;refine ⟨_,aB.of ak,?_,?_⟩
   .have gx:∀ y ∈ (h5 n ds).map (d4 cA),y.length <= 63:=al4 cj;have ao6:((h5 n ds).map (d4 cA)).length <= 13:=by
     unfold h5;rw [a0,hi,a0];omega
    have:=AG gx;rw [show (ae "\n").length=1 by ac_nf];omega
   .have:=q I bR;unfold pb at this;rw [show pB (ae "\n") ((h5 n ds).map (d4 cA))=d4 nl ((h5 n ds).map (d4 cA)) from yv _ _];exact this
 .obtain ⟨n,wl,ds,af,aj,a',c7,eM,bN,q⟩:=h;exact ⟨bN,n,wl,ds,af,aj,a',c7,eM,fun I bR=>⟨bR,q⟩⟩
def Xx (K:a_):bP:=fun vs H Q _=>∃ n a b d e,vs=[.ref a,.ref b,.int n]/\c0 K H a (kd d)/\c0 K H b (kd e)/\jV n d/\jV n e/\Q (.bo (mt n d e)) H
noncomputable def hG (d e:bj):Bool:=decide (d.k=2) == decide (e.k=2)
def Ze (K:a_):bP:=fun vs H Q _=>∃ wl ds,∃ i j:Nat,∃ d e,vs=[.ref wl,.int i,.int j]/\iz H wl ds/\ds[i]? = some d/\ds[j]? = some e/\d.k < 3/\e.k < 3/\Q (.bo (hG d e)) H
theorem amv:cu P base T 1 t.EY t.Ls L0 (Xx K):=by
 exists T.KQ.ok AK,9
 obtain ⟨n,a,b,d,e,rfl,qg,uO,hd,he,q⟩:=h;refine ⟨_,(aW (dK (c_ e5 (cq fP (U 0) aR) (cq fP (U 1) aR) (cC _)) (a6 (cg am)) eu)
   (aW (dK (hH.pt (qw (c_ e5 (cq fP (U 0) aR) (cq fP (U 1) aR) (cC _)) (qw (c_ e5 (cq fP (U 0) aR) (cq fP (U 1) aR) (cC _)) (tg (c_ e5 (cq fP (U 0) aR) (cq fP (U 1) aR) (cC _)))))) (a6 (cg am)) eu)
   (aW (b5 (i:=3) AK.aG (bF jn (bF l_ (cq fP (U 0) aR) (cq fP (U 0) aR)) (U 2)))
   (aW (b5 (i:=4) AK.aG (bF jn (bF l_ (cq fP (U 1) aR) (cq fP (U 0) aR)) (U 2)))
   (aW (b5 (i:=5) AK.aG (bF jn (bF l_ (cq fP (U 1) aR) (cq fP (U 0) aR)) (U 2)))
   (a6 (cg (hO qO (hO lu (U 4) (U 3) (cC _)) (hO lu (U 5) (U 3) (cC _)) (cC _))))))))),?_⟩
 have a2:f3 (kd d) 2=some (.int d.start):=cB (j:=2) rfl;have fX:f3 (kd d) 3=some (.int d.fin):=cB (j:=3) rfl;have e9:f3 (kd e) 2=some (.int e.start):=cB (j:=2) rfl;have lY:f3 (kd e) 3=some (.int e.fin):=cB (j:=3) rfl;have f1:=hd.st;have f2:=hd.fp;have en:=he.st;have f4:=he.fp;refine dW (decide (d.fin=e.fin)) (fun Q a8=>?_) (fun c=>?_) (fun c=>?_)
 .nofun;refine ⟨_,qg,_,fX,_,uO,_,lY,rfl,?_⟩;nofun;exact a8
 .nofun;unfold mt rq at q;rw [c,su] at q;exact q
 .have c':=of_decide_eq_false c;nofun;refine dW (decide (d.start=e.start) || (decide (d.start=e.fin) || decide (d.fin=e.start))) (fun Q a8=>?_) (fun ab=>?_) (fun ab=>?_)
  .nofun;refine ⟨_,qg,_,a2,_,uO,_,e9,rfl,?_⟩;by_cases cc:d.start=e.start
   .rw [if_pos (by simp [cc])];rw [decide_eq_true cc,su] at a8;exact a8
   .rw [if_neg (by simpa using cc)];refine ⟨_,qg,_,a2,_,uO,_,lY,rfl,?_⟩;by_cases cU:d.start=e.fin
    .rw [if_pos (by simp [cU])];rw [decide_eq_false cc,decide_eq_true cU,lN,su] at a8;exact a8
    .rw [if_neg (by simpa using cU)];refine ⟨_,qg,_,fX,_,uO,_,e9,rfl,?_⟩;rw [decide_eq_false cc,decide_eq_false cU,lN,lN] at a8;rw [show decide (V.int d.fin=V.int e.start)=decide (d.fin=e.start) from decide_eq_decide.mpr (by simp)];exact a8
  .nofun;unfold mt rq at q;rw [c,lN,if_pos (by
    rw [w3,w3,decide_eq_true_eq,decide_eq_true_eq,decide_eq_true_eq] at ab
    omega)] at q
   exact q
  .rw [Ct,Ct,decide_eq_false_iff_not,decide_eq_false_iff_not,decide_eq_false_iff_not] at ab;have oZ:0 < n:=by omega
   have fc:0 < (e.start - d.start) % n:=by rw [CJ f1.1 f1.2 en.1 en.2];split <;> omega
   have eY:0 < (e.fin - d.start) % n:=by rw [CJ f1.1 f1.2 f4.1 f4.2];split <;> omega
   unfold mt rq kj at q;rw [c,lN,if_neg (by omega),decide_eq_true fc,decide_eq_true eY,lK,lK] at q;nofun;refine ⟨_,qg,_,fX,_,qg,_,a2,_,rfl,_,rfl,oZ,_,uO,_,e9,_,qg,_,a2,_,rfl,_,rfl,oZ,_,uO,_,lY,_,qg,_,a2,_,rfl,_,rfl,oZ,?_⟩;generalize decide ((e.start - d.start) % n < (d.fin - d.start) % n)=X at q ⊢;generalize decide ((e.fin - d.start) % n < (d.fin - d.start) % n)=Y at q ⊢;cases X <;> cases Y <;> exact q
theorem aeR:cu P base T 1 t.F5 t.HR LZ (Ze K):=by
 exists T.I9.ok NV,9
 obtain ⟨wl,ds,i,j,d,e,rfl,⟨qs,cw,cN,al⟩,ah,aM,aC,gN,q⟩:=h;have gW:qs[i]? = some (qs[i]'(by rw [cN];exact (cv.mp ah).1)):=bc _;have eI:qs[j]? = some (qs[j]'(by rw [cN];exact (cv.mp aM).1)):=bc _;have zR:=al i _ d gW ah;have Fz:=al j _ e eI aM;have rf:=cB (xs:=qs.map V.ref) (j:=i) (by rw [da,gW];rfl);have IL:=cB (xs:=qs.map V.ref) (j:=j) (by rw [da,eI];rfl);refine ⟨_,(aW (b5 (i:=3) NV.aG (hO e5 (cq fP (cq lc (U 0) (U 1)) aR) cX (cC _)))
   (a6 (cg (hO e5 (U 3) (hO e5 (cq fP (cq lc (U 0) (U 2)) aR) cX (cC _)) (cC _))))),?_⟩
 nofun;refine ⟨_,aB.of cw,_,rf,_,rfl,_,c0.of zR,_,cB (j:=0) rfl,rfl,_,aB.of cw,_,IL,_,rfl,_,c0.of Fz,_,cB (j:=0) rfl,rfl,?_⟩;have af:∀ k,k < 3->decide (V.str (eD k)=V.str (ae "tram"))=decide (k=2):=by ac_nf
 rw [af d.k aC,af e.k gN];unfold hG at q;rw [show decide (decide (d.k=2)=decide (e.k=2))=(decide (d.k=2) == decide (e.k=2)) from rfl];exact q
structure jZ (cp H:au) (gl:Addr) (qs:List Addr) (cm:List (List Nat)):Prop where
 af:H gl=some (.lst (qs.map V.ref))
 aj:qs.length=cm.length
 a':qs.Nodup
 c7:gl ∉ qs
 eM:∀ (i:Nat) (q:Addr) (g:List Nat),qs[i]? = some q->cm[i]? = some g->H q=some (.lst (g.map fun k:Nat=>V.int k))
 il:∀ q ∈ qs,cp q=none
theorem jZ.same (h:jZ cp H gl qs cm) (s:aS H I):jZ cp I gl qs cm:=
 ⟨s _ _ h.af,h.aj,h.a',h.c7,fun i q g a b=>s _ _ (h.eM i q g a b),h.il⟩
structure jl (n:Int) (ds:List bj) (m:Nat) (cm:List (List Nat)):Prop where
 ne:∀ g ∈ cm,g ≠ []
 pm:cm.flatten.Perm (fF m)
 CI:∀ g ∈ cm,∀ i ∈ g,∀ j ∈ g,i ≠ j->∀ d e,ds[i]? = some d->ds[j]? = some e->mt n d e=false
 al:∀ g ∈ cm,∀ i ∈ g,∀ j ∈ g,∀ d e,ds[i]? = some d->ds[j]? = some e->hG d e=true
theorem jl.nil (n:Int) (ds:List bj):jl n ds 0 []:=⟨by simp,by simp,by simp,by simp⟩
theorem vj:hG y z=true↔(y.k=2↔z.k=2):=by
 unfold hG;simp
theorem ZA (h:hG y z=true):hG z y=true:=vj.mpr (vj.mp h).symm
theorem amu {x y z:bj} (h:hG x y=true) (h':hG y z=true):hG x z=true:=vj.mpr ((vj.mp h).trans (vj.mp h'))
theorem jZ.off {gl x:Addr} (h:jZ cp H gl qs cm) (ag:x ≠ gl) (aI:x ∉ qs):jZ cp (upd H x o) gl qs cm:=
 ⟨by rw [aH (dg ag)];exact h.af,h.aj,h.a',h.c7,fun i q g a b=>by rw [aH (fun z=>aI (by rw [<- z];exact cH a))];exact h.eM i q g a b,h.il⟩
theorem QL (l:List α) (i:Nat) (a:α):(ins l i a).Perm (l ++ [a]):=by
 unfold ins;refine ai'.trans ?_;rw [Wc];exact (X4 (l₁:=[a]) (l₂:=l))
theorem ajF:∀ {l l':List (List α)},l.Perm l'->l.flatten.Perm l'.flatten:=fun h=>h.flatten
theorem US:∀ {cm:List (List Nat)} {j:Nat} {g g':List Nat} {k:Nat},cm[j]? = some g->g'.Perm (g ++ [k])->(cm.set j g').flatten.Perm (cm.flatten ++ [k])
 | [],j,g,g',k,h,_=>by simp at h
 | nP :: cm,0,g,g',k,h,p=>by
  cases (show nP=g by simpa using h);show (g' :: cm).flatten.Perm _;rw [vd,vd,pG];refine (p.append_right _).trans ?_;rw [pG];exact alV nP X4
 | nP :: cm,j + 1,g,g',k,h,p=>by
  rw [x'] at h;show (nP :: cm.set j g').flatten.Perm _;rw [vd,vd,pG];exact alV nP (US h p)
theorem jl.put (S:jl n ds m cm) {j p:Nat} (a5:cm[j]? = some g) (hd:ds[m]? = some d)
  (CV:∀ i ∈ g,∀ e,ds[i]? = some e->mt n e d=false/\mt n d e=false/\hG e d=true):jl n ds (m + 1) (cm.set j (ins g p m)):=by
 have nV:=cH a5;refine ⟨fun x ag=>?_,?_,fun x ag i ah g_ fu bX e bQ he hL=>?_,fun x ag i ah g_ fu e bQ he hL=>?_⟩
 .rcases MA ag with z | z
  .exact S.ne x z
  .rw [z];unfold ins;simp
 .rw [xm];exact (US a5 (QL g p m)).trans (S.pm.append_right [m])
 .rcases MA ag with z | z
  .exact S.CI x z i ah g_ fu bX e bQ he hL
  .rw [z] at ah fu;rcases mL ah with u | u
   .subst u;rw [hd] at he;cases he;rcases mL fu with v | v
    .exact absurd v.symm bX
    .exact (CV g_ v bQ hL).2.1
   .rcases mL fu with v | v
    .subst v;rw [hd] at hL;cases hL;exact (CV i u e he).1
    .exact S.CI g nV i u g_ v bX e bQ he hL
 .rcases MA ag with z | z
  .exact S.al x z i ah g_ fu e bQ he hL
  .rw [z] at ah fu;have self:∀ y:bj,hG y y=true:=fun y=>by unfold hG;simp
   have sym:∀ y z:bj,hG y z=true->hG z y=true:=fun y z h=>ZA h
   rcases mL ah with u | u
   .subst u;rw [hd] at he;cases he;rcases mL fu with v | v
    .subst v;rw [hd] at hL;cases hL;exact self _
    .exact sym _ _ (CV g_ v bQ hL).2.2
   .rcases mL fu with v | v
    .subst v;rw [hd] at hL;cases hL;exact (CV i u e he).2.2
    .exact S.al g nV i u g_ v e bQ he hL
theorem jl.new (S:jl n ds m cm) (p:Nat):jl n ds (m + 1) (ins cm p [m]):=by
 have self:∀ y:bj,hG y y=true:=fun y=>by unfold hG;simp
 refine ⟨fun x ag=>?_,?_,fun x ag i ah g_ fu bX e bQ he hL=>?_,fun x ag i ah g_ fu e bQ he hL=>?_⟩
 .rcases mL ag with z | z
  .rw [z];simp
  .exact S.ne x z
 .rw [xm];refine (ajF (QL cm p [m])).trans ?_;rw [aeN];simpa using S.pm.append_right [m]
 .rcases mL ag with z | z
  .rw [z] at ah fu;exact absurd ((gg.mp ah).trans (gg.mp fu).symm) bX
  .exact S.CI x z i ah g_ fu bX e bQ he hL
 .rcases mL ag with z | z
  .rw [z] at ah fu;rw [gg.mp ah] at he;rw [gg.mp fu,he] at hL;cases hL;exact self _
  .exact S.al x z i ah g_ fu e bQ he hL
theorem jZ.put (h:jZ cp H gl qs cm) (aI:qs[j]? = some q) (aM:j < cm.length) :
  jZ cp (upd H q (.lst (g'.map fun k:Nat=>V.int k))) gl qs (cm.set j g'):=by
 obtain ⟨af,aj,a',c7,eM,il⟩:=h;have lT:gl ≠ q:=fun z=>c7 (by rw [z];exact cH aI)
 refine ⟨by rw [aH lT];exact af,by rw [XR];exact aj,a',c7,fun i r g a b=>?_,il⟩;by_cases c:i=j
 .subst c;rw [aI] at a;cases a;rw [AQ aM] at b;cases b;exact aX
 .rw [yg (fun e=>c e.symm)] at b;have bX:r ≠ q:=fun e=>by
   subst e;obtain ⟨a1,gY⟩:=cv.mp a;obtain ⟨a2,e9⟩:=cv.mp aI;exact c ((J' a').mp (gY.trans e9.symm))
  rw [aH bX];exact eM i r g a b
theorem jZ.new {gl p:Addr} {k:Nat} (h:jZ cp H gl qs cm) (h0:aS cp H) (ar:H p=none) (aC:k <= cm.length) :
  jZ cp (upd (upd H p (.lst (g.map fun k:Nat=>V.int k))) gl (.lst ((ins qs k p).map V.ref))) gl (ins qs k p) (ins cm k g):=by
 have NG:gl ≠ p:=dj h.af ar;have XB:p ∉ qs:=fun z=>by
  obtain ⟨i,ah⟩:=iN z;have FV:i < cm.length:=by rw [<- h.aj];exact (cv.mp ah).1
  have e:=h.eM i p _ ah (bc FV);rw [ar] at e;cases e
 have TN:k <= qs.length:=by rw [h.aj];exact aC
 refine ⟨aX,by rw [LX TN,LX aC,h.aj],afI h.a' XB,fun z=>?_,fun i q g' a b=>?_,fun q aI=>?_⟩
 .rcases mL z with z | z
  .exact NG z
  .exact h.c7 z
 .rw [uV TN] at a;rw [uV aC] at b;have keep:∀ {i:Nat} {q:Addr} {g':List Nat},qs[i]? = some q->cm[i]? = some g'->upd (upd H p (.lst (g.map fun k:Nat=>V.int k))) gl (.lst ((ins qs k p).map V.ref)) q=some (.lst (g'.map fun k:Nat=>V.int k)):=fun {i q g'} a b=>by
   have e:=h.eM i q g' a b;have lT:q ≠ gl:=fun z=>h.c7 (by rw [<- z];exact cH a)
   rw [aH lT,aH (dj e ar)];exact e
  by_cases cc:i < k
  .rw [if_pos cc] at a b;exact keep a b
  .rw [if_neg cc] at a b;by_cases cU:i=k
   .rw [if_pos cU] at a b;cases a;cases b;rw [aH (dg NG),aX]
   .rw [if_neg cU] at a b;exact keep a b
 .rcases mL aI with z | z
  .rw [z];exact h0.free ar
  .exact h.il q z
structure hb where
 lo:Int
 ah:Int
 eS:List Nat
structure nc (H:au) (bt:Addr) (qs ms:List Addr) (aZ:List hb):Prop where
 at_:H bt=some (.lst (qs.map V.ref))
 cw:qs.length=aZ.length
 cN:ms.length=aZ.length
 al:∀ (i:Nat) (q m:Addr) (s:hb),qs[i]? = some q->ms[i]? = some m->aZ[i]? = some s->H q=some (.tup [.int s.lo,.int s.ah,.ref m])/\H m=some (.lst (s.eS.map fun k:Nat=>V.int k))
theorem nc.same (h:nc H bt qs ms aZ) (s:aS H I):nc I bt qs ms aZ:=
 ⟨s _ _ h.at_,h.cw,h.cN,fun i q m r a b c=>⟨s _ _ (h.al i q m r a b c).1,s _ _ (h.al i q m r a b c).2⟩⟩
structure Ce (n:Int) (ds:List bj) (aZ:List hb):Prop where
 bC:jl n ds ds.length (aZ.map (·.eS))
 le:∀ s ∈ aZ,∀ i ∈ s.eS,∀ d,ds[i]? = some d->d.least <= s.lo
 bd:∀ s ∈ aZ,1 <= s.lo/\s.lo <= 21/\s.lo <= s.ah/\s.ah <= 40
theorem jl.len (S:jl n ds m cm):cm.length <= m/\cm.flatten.length=m:=by
 have af:=S.pm.length_eq;rw [tC] at af;have:∀ {cm:List (List Nat)},(∀ g ∈ cm,g ≠ [])->cm.length <= cm.flatten.length:=fun {cm}=>by
  induction cm with
  | nil=>intro _;simp
  | cons g cm b'=>
   intro h;have a1:=b' fun x ag=>h x (hS _ ag)
   have a2:=Va.mpr (h g (by simp));rw [vd,ec,hi];omega
 have:=this S.ne;omega
theorem jl.lt (S:jl n ds m cm) (a5:g ∈ cm) (ah:i ∈ g):i < m:=n_.mp (S.pm.mem_iff.mp (U1.mpr ⟨g,a5,ah⟩))
theorem jl.FN (S:jl n ds m cm) (a5:g ∈ cm):g.length <= m:=by
 have af:=(YW a5).length_le;have:=S.len.2;omega
theorem Xl (h0:0 <= i) (af:i < 6):∃ mo:Int,(1 <= mo/\mo <= 20)/\f3 [V.int 4,V.int 4,V.int 4,V.int 4,V.int 4,V.int 20] i=some (.int mo):=by
 have:i=0\/i=1\/i=2\/i=3\/i=4\/i=5:=by omega
 rcases this with rfl | rfl | rfl | rfl | rfl | rfl
 .exact ⟨4,by decide,cB (j:=0) rfl⟩
 .exact ⟨4,by decide,cB (j:=1) rfl⟩
 .exact ⟨4,by decide,cB (j:=2) rfl⟩
 .exact ⟨4,by decide,cB (j:=3) rfl⟩
 .exact ⟨4,by decide,cB (j:=4) rfl⟩
 .exact ⟨20,by decide,cB (j:=5) rfl⟩
def RZ (K:a_):bP:=fun vs H Q _=>∃ (a:Addr) (ns:List Int) (n:Int) (wl:Addr) (ds:List bj),vs=[.ref a,.int n,.ref wl]/\ns.length <= 63/\aB K H a (ns.map V.int)/\aP H/\iz H wl ds/\rD n ds/\(∀ d ∈ ds,d.least <= 4)/\(1 <= ds.length/\ds.length <= 8) /\
 ∀ bt qs ms aZ I,aS H I->aP I->nc I bt qs ms aZ->Ce n ds aZ->Q (.ref bt) I
theorem ah2:cu P base T 2 t.zg t.AX y1 (RZ K):=by
 refine cy (abP T) fun eE=>cy (amv T) fun ael=>cy (aeR T) fun aiq=>?_;exists T.Er.ok k0,9
 obtain ⟨a,ns,n,wl,ds,rfl,gx,S,bN,L,D,hle,fj,q⟩:=h;obtain ⟨pP,cw,cN,Ha⟩:=id L;have iU:(pP.map V.ref).length=ds.length:=by rw [a0,cN]
 have wO:∀ (i:Nat) (d:bj),ds[i]? = some d->∃ uc,f3 (pP.map V.ref) (i:Int)=some (.ref uc)/\H uc=some (.tup (kd d)):=fun i d hd=>by
  have gW:pP[i]? = some (pP[i]'(by rw [cN];exact (cv.mp hd).1)):=bc _;exact ⟨_,cB (by rw [da,gW];rfl),Ha i _ d gW hd⟩
 refine ⟨_,(aW (b5 (i:=3) k0.aG (ha aE))
   (aW (fU gi rfl (nY rfl T.oB (ai (gD h4 rfl T.hR hW (ai (U 2) aE)) aE)) (Db (i:=4) k0.aG) (aW (b5 (i:=5) k0.aG (ha aE))
   (aW (fU gi rfl (nY rfl T.oB (ai (gD h4 rfl T.hR hW (ai (U 3) aE)) aE)) (Db (i:=6) k0.aG) (aW (b5 (i:=7) k0.aG (cn aiq ak T.aio T.I9.bH T.amx (ai (U 2) (ai (cq lc (cq lc (U 3) (U 6)) aR) (ai (U 4) aE)))))
   (aW (fU gi rfl (eA (cq lc (U 3) (U 6))) (Db (i:=8) k0.aG) (a6 (b5 (i:=7) k0.aG (xB (U 7) (u7 (S7 (cn ael ak T.Z9 T.KQ.bH T.aka (ai (cq lc (U 2) (U 8)) (ai (cq lc (U 2) (U 4)) (ai (U 1) aE))))))))))
   (a6 (dK (oJ (U 7)) (a6 (dS (gm ie lE mK Re (U 5) (ai (U 6) aE)))) eu)))))
   (a6 (dK (hH.pt (pO (c_ qN (gD h4 rfl T.hR hW (ai (U 5) aE)) aR (cC _)) (pC (c_ qN (cn eE ak T.fm T.eU.bH T.fs (ai (U 0) (ai (bF dT aR (U 4)) (ai aR aE)))) aR (cC _))))) (aW (b5 (i:=6) k0.aG (cq lc (U 5) (cn eE ak T.fm T.eU.bH T.fs (ai (U 0) (ai (bF dT aR (U 4)) (ai (gD h4 rfl T.hR hW (ai (U 5) aE)) aE))))))
   (a6 (dS (gm ie zw IJ Cn (cq lc (U 3) (U 6)) (ai (cn eE ak T.fm T.eU.bH T.fs (ai (U 0) (ai (bF dT aR (U 4)) (ai (bF dT (gD h4 rfl T.hR hW (ai (cq lc (U 3) (U 6)) aE)) aR) aE)))) (ai (U 4) aE)))))) (a6 (dS (gm ie zw IJ Cn (U 3) (ai (cn eE ak T.fm T.eU.bH T.fs (ai (U 0) (ai (bF dT aR (U 4)) (ai (bF dT (gD h4 rfl T.hR hW (ai (U 3) aE)) aR) aE)))) (ai (ha (ai (U 4) aE)) aE))))))))))
   (aW (b5 (i:=9) k0.aG (ha aE))
   (aW (fU gi rfl (nY rfl T.oB (ai (gD h4 rfl T.hR hW (ai (U 3) aE)) aE)) (Db (i:=6) k0.aG) (aW (b5 (i:=10) k0.aG (bF dT (gD (RV rfl) rfl T.Mc Lu (ai (hl rfl (eA (cq lc (U 3) (U 6))) (gz (sc:=bz K9) rfl (by ac_nf)) (N:=BW) (sel:=[none,some 2]) (gA (M:=["_law_script","_law_places","_law_ways_here","_law_some","_law_k","_law_fits","_law_j","_law_good","_law_i","_law_stages_here","_law_low","_law_more"]) (by ac_nf)) (fA.of (fun _ _ _ _=>(Db (i:=0) (er (N:=BW) (by ac_nf) rfl))) (fun _ _ _ _=>⟨_,ix,by walk_at "B"⟩) (fun _ _ _ _=>⟨_,(cq fP (cq lc (U 1) (U 0)) aR),by walk_at "B"⟩))) aE)) (cn eE ak T.fm T.eU.bH T.fs (ai (U 0) (ai (bF dT aR (U 6)) (ai aR aE))))))
   (aW (dK (c_ e5 (cn eE ak T.fm T.eU.bH T.fs (ai (U 0) (ai (bF dT aR (U 6)) (ai aR aE)))) aR (cC _)) (a6 (b5 (i:=10) k0.aG (bF dT (U 10) aR))) eu)
   (aW (b5 (i:=11) k0.aG (cq lc (ha (ai aR (ai aR (ai aR (ai aR (ai aR (ai aR aE))))))) (cn eE ak T.fm T.eU.bH T.fs (ai (U 0) (ai (bF dT aR (U 6)) (ai aR aE))))))
   (a6 (dS (gm ie lE mK Re (U 9) (ai (ls (ai (U 10) (ai (bF dT (U 10) (cn eE ak T.fm T.eU.bH T.fs (ai (U 0) (ai (bF dT aR (U 6)) (ai (U 11) aE))))) (ai (cq lc (U 3) (U 6)) aE)))) aE))))))))
   (a6 (cg (U 9))))))),?_⟩
 exists (fun ax I=>aS H I/\aP I/\∃ gl,H gl=none/\I gl=some (.lst [])/\ax=[~~~a,some (.int n),~~~wl,~~~gl,none,none,none,none,none,none,none,none]),3
 .nofun;exact ⟨fC _,fun gl AM=>cL _ _ ⟨bq AM,bN.upd,gl,AM,aX,rfl⟩⟩
 rintro f_ H1 ⟨s1,b9,gl,AM,c9,rfl⟩;subst ba;exists (fun ax I=>aS H I/\aP I/\(∃ qs cm,jZ H I gl qs cm/\jl n ds ds.length cm)/\∃ dB eK eL d2 dp,ax=[~~~a,some (.int n),~~~wl,~~~gl,dB,eK,eL,d2,dp,none,none,none]),3
 .nofun;refine ⟨_,.inl (aB.of (s1 _ _ cw)),by omega,by rw [iU];omega,?_⟩;rw [show (((pP.map V.ref).length:Nat):Int).toNat=ds.length by rw [iU];rfl];refine d3.range (fun k σ I=>aS H I/\aP I/\(∃ qs cm,jZ H I gl qs cm/\jl n ds k cm)/\∃ dB eK eL d2 dp,σ=[~~~a,some (.int n),~~~wl,~~~gl,dB,eK,eL,d2,dp,none,none,none]) ⟨s1,b9,⟨[],[],⟨c9,rfl,Kx,by simp,fun i q g h=>by simp at h,fun q h=>by simp at h⟩,jl.nil n ds⟩,_,_,_,_,_,rfl⟩ ?_ ?_
  .rintro k σ I aC bl;ac_rfl
   obtain ⟨s2,cI,⟨qs,cm,G,kh⟩,dB,eK,eL,d2,dp,rfl⟩:=bl;have x7:ds[k]? = some ds[k]:=bc aC;subst ba;generalize y3:ds[k]=d at x7;have hd:=(D.al d (cH x7)).1;have aib:=kh.len;simp only [ht,dG,ly,k',ro];exists (fun ax aw=>aS I aw/\aP aw/\∃ cR,I cR=none/\aw cR=some (.lst [])/\ax=[~~~a,some (.int n),~~~wl,~~~gl,some (.int (k:Nat)),~~~cR,eL,d2,dp,none,none,none]),0
   .nofun;exact ⟨fC _,fun cR nJ=>cL _ _ ⟨bq nJ,cI.upd,cR,nJ,aX,rfl⟩⟩
   rintro cz aw ⟨s3,dA,cR,nJ,hx,rfl⟩;have W7:cR ≠ gl:=fun e=>by rw [e,G.af] at nJ;cases nJ
   have ajK:cR ∉ qs:=fun z=>by
    obtain ⟨i,ah⟩:=iN z;have FV:i < cm.length:=by rw [<- G.aj];exact (cv.mp ah).1
    have e:=G.eM i cR _ ah (bc FV);rw [nJ] at e;cases e
   subst ba;simp only [dG];exists (fun ax bw=>aS I bw/\aP bw/\jZ H bw gl qs cm/\(∃ aK:List Nat,bw cR=some (.lst (aK.map fun k:Nat=>V.int k))/\aK.length <= cm.length/\∀ f ∈ aK,∃ g,cm[f]? = some g/\∀ i ∈ g,∀ e,ds[i]? = some e->mt n e d=false/\mt n d e=false/\hG e d=true)/\∃ eL d2 dp,ax=[~~~a,some (.int n),~~~wl,~~~gl,some (.int (k:Nat)),~~~cR,eL,d2,dp,none,none,none]),0
   .nofun;have lT:(qs.map V.ref).length=cm.length:=by rw [a0,G.aj]
    refine ⟨_,.inl (aB.of (s3 _ _ G.af)),by omega,by rw [lT];omega,?_⟩;rw [show (((qs.map V.ref).length:Nat):Int).toNat=cm.length by rw [lT];rfl];refine d3.range (fun j σ bw=>aS I bw/\aP bw/\jZ H bw gl qs cm/\(∃ aK:List Nat,bw cR=some (.lst (aK.map fun k:Nat=>V.int k))/\aK.length <= j/\∀ f ∈ aK,∃ g,cm[f]? = some g/\∀ i ∈ g,∀ e,ds[i]? = some e->mt n e d=false/\mt n d e=false/\hG e d=true)/\∃ eL d2 dp,σ=[~~~a,some (.int n),~~~wl,~~~gl,some (.int (k:Int)),~~~cR,eL,d2,dp,none,none,none]) ⟨s3,dA,G.same s3,⟨[],hx,bW _,fun f h=>by simp at h⟩,_,_,_,rfl⟩ ?_ ?_
    .rintro j σ bw aM bl;ac_rfl
     obtain ⟨s4,d5,hA,⟨aK,g0,uU,vh⟩,eL,d2,dp,rfl⟩:=bl;have o5:cm[j]? = some cm[j]:=bc aM;have eI:qs[j]? = some (qs[j]'(by rw [G.aj];exact aM)):=bc _;subst ba;generalize qs[j]'(by rw [G.aj];exact aM)=j2 at eI;generalize afq:cm[j]=g at o5;have nV:=cH o5;obtain ⟨nP,GZ,Sn⟩:=tO (kh.ne g nV);have gR:∀ i ∈ g,∃ e,ds[i]? = some e:=fun i ah=>⟨_,bc (Ve (kh.lt nV ah) aC)⟩
     have SG:nP ∈ g:=by rw [Sn];exact lp ..
     obtain ⟨i7,j0⟩:=gR nP SG;have tU:=hA.eM j j2 g eI o5;have wh:=cB (xs:=qs.map V.ref) (j:=j) (by rw [da,eI];rfl);have gf:=s2.trans s4;have sT:=L.same gf;have yL:=gf _ _ cw;simp only [ht,dG,ly,k',ro];exists (fun ax cS=>cS=bw/\ax=[~~~a,some (.int n),~~~wl,~~~gl,some (.int (k:Int)),~~~cR,some (.int (j:Int)),some (.bo (hG i7 d)),dp,none,none,none]),0
     .nofun;exact ⟨_,aB.of hA.af,_,wh,_,rfl,_,aB.of tU,_,by rw [Sn];exact cB (j:=0) rfl,wl,ds,nP,k,i7,d,rfl,sT,j0,x7,(D.al i7 (cH j0)).1.k,hd.k,cL _ _ ⟨rfl,rfl⟩⟩
     rintro kT cS ⟨rfl,rfl⟩;subst ba;simp only [dG];exists (fun ax d1=>d1=cS/\∃ (mq:Bool) (dp:Option V),(mq=true->hG i7 d=true/\∀ i ∈ g,∀ e,ds[i]? = some e->mt n e d=false)/\ax=[~~~a,some (.int n),~~~wl,~~~gl,some (.int (k:Int)),~~~cR,some (.int (j:Int)),some (.bo mq),dp,none,none,none]),0
     .nofun;refine ⟨_,aB.of hA.af,_,wh,_,rfl,⟨_,aB.of tU⟩,?_⟩;refine d3.list (xs:=g.map fun k:Nat=>V.int k) (fun l σ d1=>d1=cS/\∃ (mq:Bool) (dp:Option V),(mq=true->hG i7 d=true/\∀ i ∈ g.take l,∀ e,ds[i]? = some e->mt n e d=false)/\σ=[~~~a,some (.int n),~~~wl,~~~gl,some (.int (k:Int)),~~~cR,some (.int (j:Int)),some (.bo mq),dp,none,none,none]) ?_ ?_ ?_ ?_
      .exact ⟨rfl,_,_,fun z=>⟨z,fun i h=>by simp at h⟩,rfl⟩
      .rintro l σ d1 aA ⟨rfl,_⟩;exact aB.of tU
      .rintro l v σ d1 aF bl;ac_rfl
       obtain ⟨rfl,mq,dp,qc,rfl⟩:=bl;obtain ⟨i,ah,rfl⟩:=cf aF;obtain ⟨e,he⟩:=gR i (cH ah);obtain ⟨gC,rf,Gq⟩:=wO i e he;obtain ⟨agG,acK,ai8⟩:=wO k d x7;have step:∀ e9:Bool,(e9=true->mq=true/\mt n e d=false)->(e9=true->hG i7 d=true/\∀ i ∈ g.take (l + 1),∀ e,ds[i]? = some e->mt n e d=false):=fun e9 h z=>by
        obtain ⟨ez,d9⟩:=h z;obtain ⟨nx,qT⟩:=qc ez;refine ⟨nx,fun g_ fu bQ hL=>?_⟩;rw [pz,ah] at fu;rcases hI.mp fu with u | u
        .exact qT g_ u bQ hL
        .rw [show g_=i by simpa using u,he] at hL;cases hL;exact d9
       subst ba;nofun;cases mq with
       | true=>
        rw [if_pos rfl];refine ⟨_,aB.of yL,_,rf,_,aB.of yL,_,acK,n,gC,agG,e,d,rfl,c0.of (gf _ _ Gq),c0.of (gf _ _ ai8),(D.al e (cH he)).1,hd,_,rfl,?_⟩;exact ⟨rfl,_,step _ (fun z=>⟨rfl,by simpa using z⟩),rfl,_,rfl⟩
       | false=>
        rw [if_neg (by decide)];exact ⟨false,(fun z=>nomatch z),rfl,_,rfl⟩
      .rintro σ d1 bl;ac_rfl
       obtain ⟨rfl,mq,dp,qc,rfl⟩:=bl;subst ba;rw [a0,ig] at qc;exact cL _ _ ⟨rfl,mq,dp,qc,rfl⟩
     rintro rO d1 ⟨rfl,mq,dp,qc,rfl⟩;subst ba;dsimp only;refine dW mq (fun Q a8=>?_) (fun ab=>?_) (fun ab=>?_)
     .nofun;exact a8
     .obtain ⟨nx,qT⟩:=qc ab;nofun;refine ⟨.inl ⟨_,aB.of g0⟩,_,g0,gQ (show (aK.map fun k:Nat=>V.int k).length <= 8 by rw [a0];omega) (by decide),s4.fY nJ,d5.upd,hA.off W7 ajK,⟨aK ++ [j],by rw [aX,fS];rfl,by rw [ec];show aK.length + 1 <= j + 1;omega,fun f hf=>?_⟩,?_⟩
      .rcases hI.mp hf with z | z
       .exact vh f z
       .rw [gg.mp z];refine ⟨g,o5,fun i ah e he=>⟨qT i ah e he,?_,amu (kh.al g nV i ah nP SG e i7 he j0) nx⟩⟩;have va:=(D.al e (cH he)).1;have:=alR va.st va.fp hd.st hd.fp va.ne hd.ne;exact (this.symm.trans (qT i ah e he):mt n d e=false)
      .exact ⟨_,rfl⟩
     .simp only [iy];exact ⟨s4,d5,hA,⟨aK,g0,by omega,vh⟩,_,_,_,rfl⟩
    .rintro σ bw bl;ac_rfl
     obtain ⟨s4,d5,hA,⟨aK,g0,uU,vh⟩,eL,d2,dp,rfl⟩:=bl;subst ba;exact cL _ _ ⟨s4,d5,hA,⟨aK,g0,uU,vh⟩,_,_,_,rfl⟩
   rintro gb bw ⟨s4,d5,hA,⟨aK,g0,uU,vh⟩,eL,d2,dp,rfl⟩;have gf:=s2.trans s4;have iB:=S.same gf;have lT:(qs.map V.ref).length=cm.length:=by rw [a0,G.aj]
   subst ba;dsimp only;refine dW (decide (0 < aK.length) && decide (0 < dh ns (100 + (k:Int)) 3)) (fun Q a8=>?_) (fun ab=>?_) (fun ab=>?_)
   .nofun;refine ⟨_,.inl (aB.of g0),?_⟩;rw [a0];by_cases bZ:0 < aK.length
    .rw [if_pos (decide_eq_true (by omega))];rw [decide_eq_true bZ,lK] at a8;exact ⟨a,ns,_,_,rfl,gx,iB,⟨by omega,by omega⟩,by decide,_,rfl,a8⟩
    .rw [if_neg (by rw [decide_eq_true_eq];omega)];rw [decide_eq_false bZ,mu] at a8;exact a8
   .rw [iE,decide_eq_true_eq] at ab;have aq:=g8 ns (110 + (k:Int)) (m:=(aK.length:Int)) (by omega);have aD:=gX ns (110 + (k:Int)) (m:=(aK.length:Int)) (by omega);obtain ⟨u,br⟩:∃ u:Nat,dh ns (110 + (k:Int)) (aK.length:Int)=(u:Int):=⟨_,(pT aq).symm⟩;have Yu:u < aK.length:=by omega
    have L5:aK[u]? = some aK[u]:=bc Yu;generalize apH:aK[u]=f at L5;obtain ⟨g,Bx,akr⟩:=vh f (cH L5);have DT:f < cm.length:=(cv.mp Bx).1;have vD:qs[f]? = some (qs[f]'(by rw [G.aj];exact DT)):=bc _;generalize qs[f]'(by rw [G.aj];exact DT)=Ia at vD;have Lz:=hA.eM f Ia g vD Bx;have Qo:=cB (xs:=qs.map V.ref) (j:=f) (by rw [da,vD];rfl);have ag7:=cB (xs:=aK.map fun k:Nat=>V.int k) (j:=u) (v:=.int (f:Int)) (by rw [da,L5];rfl);have aod:=kh.FN (cH Bx);have fc:=g8 ns (160 + (k:Int)) (m:=(g.length:Int) + 1) (by omega);have eY:=gX ns (160 + (k:Int)) (m:=(g.length:Int) + 1) (by omega);nofun;obtain ⟨v,aF⟩:∃ v:Nat,dh ns (160 + (k:Int)) ((g.length:Int) + 1)=(v:Int):=⟨_,(pT fc).symm⟩;refine ⟨_,.inl (aB.of g0),?_⟩;rw [a0];refine ⟨a,ns,_,_,rfl,gx,iB,⟨by omega,by omega⟩,by omega,?_⟩;rw [br];refine ⟨_,_,rfl,aB.of g0,_,ag7,_,_,rfl,aB.of hA.af,_,Qo,.inl ⟨_,aB.of Lz⟩,_,_,rfl,aB.of hA.af,_,Qo,_,rfl,_,.inl (aB.of Lz),?_⟩;rw [a0];refine ⟨a,ns,_,_,rfl,gx,iB,⟨by omega,by omega⟩,by omega,Ia,rfl,_,_,rfl,Lz,?_⟩;rw [aF,qp];have PQ:v <= g.length:=by omega
    have em:(g.map fun k:Nat=>V.int k).take v ++ V.int (k:Int) :: (g.map fun k:Nat=>V.int k).drop v=(ins g v k).map fun k:Nat=>V.int k:=(FE (fun k:Nat=>V.int k) g v k).symm
    refine ⟨by omega,by omega,by rw [a0];omega,gQ (show (g.map fun k:Nat=>V.int k).length <= 8 by rw [a0];omega) (by decide),gf.fY (hA.il Ia (cH vD)),d5.upd,?_,_,rfl⟩;rw [em];exact ⟨qs,_,hA.put vD DT,kh.put Bx x7 akr⟩
   .have fc:=g8 ns (120 + (k:Int)) (m:=(cm.length:Int) + 1) (by omega);have eY:=gX ns (120 + (k:Int)) (m:=(cm.length:Int) + 1) (by omega);nofun;obtain ⟨v,aF⟩:∃ v:Nat,dh ns (120 + (k:Int)) ((cm.length:Int) + 1)=(v:Int):=⟨_,(pT fc).symm⟩;refine ⟨.inl ⟨_,aB.of hA.af⟩,_,.inl (aB.of hA.af),?_⟩;rw [lT];refine ⟨a,ns,_,_,rfl,gx,iB,⟨by omega,by omega⟩,by omega,by decide,fun p ar=>⟨_,_,rfl,(bq ar) _ _ hA.af,?_⟩⟩;rw [aF,qp];have PQ:v <= cm.length:=by omega
    have em:(qs.map V.ref).take v ++ V.ref p :: (qs.map V.ref).drop v=(ins qs v p).map V.ref:=(FE V.ref qs v p).symm;refine ⟨by omega,by omega,by rw [lT];omega,gQ (show (qs.map V.ref).length <= 8 by rw [lT];omega) (by decide),(gf.trans (bq ar)).fY AM,(d5.upd).upd,?_,_,rfl⟩;rw [em];exact ⟨_,_,hA.new (g:=[k]) gf ar PQ,kh.new v⟩
  .rintro σ I bl;ac_rfl
   obtain ⟨s2,cI,⟨qs,cm,G,kh⟩,dB,eK,eL,d2,dp,rfl⟩:=bl;subst ba;exact cL _ _ ⟨s2,cI,⟨qs,cm,G,kh⟩,_,_,_,_,_,rfl⟩
 rintro cz aw ⟨s2,cI,⟨qs,cm,G,kh⟩,dB,eK,eL,d2,dp,rfl⟩;subst ba;exists (fun ax I=>aS aw I/\aP I/\∃ bt,aw bt=none/\I bt=some (.lst [])/\ax=[~~~a,some (.int n),~~~wl,~~~gl,dB,eK,eL,d2,dp,~~~bt,none,none]),3
 .nofun;exact ⟨fC _,fun bt kl=>cL _ _ ⟨bq kl,cI.upd,bt,kl,aX,rfl⟩⟩
 rintro gb bw ⟨s3,dA,bt,kl,hx,rfl⟩;have aib:=kh.len;have lT:(qs.map V.ref).length=cm.length:=by rw [a0,G.aj]
 subst ba;exists (fun ax I=>aS aw I/\aP I/\(∃ kI aZ,nc I bt kI qs aZ/\Ce n ds aZ)/\∃ eL dp ik q4,ax=[~~~a,some (.int n),~~~wl,~~~gl,dB,eK,eL,d2,dp,~~~bt,ik,q4]),3
 .nofun;refine ⟨_,.inl (aB.of (s3 _ _ G.af)),by omega,by rw [lT];omega,?_⟩;rw [show (((qs.map V.ref).length:Nat):Int).toNat=cm.length by rw [lT];rfl];refine d3.range (fun j σ I=>aS aw I/\aP I/\(∃ (kI:List Addr) (aZ:List hb),I bt=some (.lst (kI.map V.ref))/\kI.length=j/\aZ.length=j/\(∀ (i:Nat) (q:Addr) (s:hb),kI[i]? = some q->aZ[i]? = some s->∃ m,qs[i]? = some m/\I q=some (.tup [.int s.lo,.int s.ah,.ref m]))/\aZ.map (·.eS)=cm.take j/\∀ s ∈ aZ,(∀ i ∈ s.eS,∀ d,ds[i]? = some d->d.least <= s.lo)/\1 <= s.lo/\s.lo <= 21/\s.lo <= s.ah/\s.ah <= 40)/\∃ eL dp ik q4,σ=[~~~a,some (.int n),~~~wl,~~~gl,dB,eK,eL,d2,dp,~~~bt,ik,q4]) ⟨s3,dA,⟨[],[],hx,rfl,rfl,fun i q s h=>by simp at h,by rw [r5];rfl,fun s h=>by simp at h⟩,_,_,_,_,rfl⟩ ?_ ?_
  .rintro j σ I aM bl;ac_rfl
   obtain ⟨s4,d5,⟨kI,aZ,g0,yQ,fO,qS,vr,CP⟩,eL,dp,ik,q4,rfl⟩:=bl;have o5:cm[j]? = some cm[j]:=bc aM;have eI:qs[j]? = some (qs[j]'(by rw [G.aj];exact aM)):=bc _;subst ba;generalize qs[j]'(by rw [G.aj];exact aM)=j2 at eI;generalize afq:cm[j]=g at o5;have nV:=cH o5;have gR:∀ i ∈ g,∃ e,ds[i]? = some e:=fun i ah=>⟨_,bc (kh.lt nV ah)⟩
   have hA:=G.same s4;have tU:=hA.eM j j2 g eI o5;have wh:=cB (xs:=qs.map V.ref) (j:=j) (by rw [da,eI];rfl);have gf:=s2.trans s4;have iB:=S.same gf;have yL:=gf _ _ cw;have ao5:=kh.FN nV;obtain ⟨c5,Zj⟩:∃ c5:Nat->Int,c5=fun i=>((ds[i]?).map (·.least)).getD 0:=⟨_,rfl⟩
   have Me:∀ i e,ds[i]? = some e->c5 i=e.least:=fun i e he=>by rw [Zj];show ((ds[i]?).map (·.least)).getD 0=_;rw [he];rfl
   obtain ⟨oS,OT,Dg⟩:=Hk (g.map c5) (fun z=>kh.ne g nV (List.map_eq_nil_iff.mp z));have Bp:1 <= oS/\oS <= 4:=by
    obtain ⟨i,ah,rfl⟩:=b1.mp OT;obtain ⟨e,he⟩:=gR i ah;rw [Me i e he];exact ⟨(D.al e (cH he)).1.le.1,hle e (cH he)⟩
   have ew:=g8 ns (130 + (j:Int)) (m:=3) (by decide);have e':=gX ns (130 + (j:Int)) (m:=3) (by decide);simp only [ht,dG,ly,k',ro];exists (fun ax cS=>aS I cS/\aP cS/\∃ lo:Int,(oS <= lo/\lo <= oS + 2)/\ax=[~~~a,some (.int n),~~~wl,~~~gl,dB,eK,some (.int (j:Int)),d2,dp,~~~bt,some (.int lo),q4]),0
   .nofun;refine ⟨_,aB.of hA.af,_,wh,_,rfl,⟨_,aB.of tU⟩,?_⟩;refine c6.lR (xs:=g.map fun k:Nat=>V.int k) (zs:=(g.map c5).map V.int) (aB.of tU) (cP (show (g.map fun k:Nat=>V.int k).length <= 8 by rw [a0];omega) (by decide)) (by rw [a0,a0,a0]) (fun l v z N aF aJ bf=>?_) (fun pl cO=>?_)
    .obtain ⟨i,ah,rfl⟩:=cf aF;obtain ⟨y,bh,rfl⟩:=cf aJ;obtain ⟨g_,fu,rfl⟩:=cf bh;rw [ah] at fu;cases fu;obtain ⟨e,he⟩:=gR i (cH ah);obtain ⟨gC,rf,Gq⟩:=wO i e he;rw [Me i e he] at bf;nofun;exact ⟨Sub.name,_,aB.of yL,_,rf,_,rfl,_,c0.of (gf _ _ Gq),_,cB (j:=6) rfl,bf⟩
    .have tW:=bq (o:=.lst ((g.map c5).map V.int)) cO;refine ⟨_,rfl,_,aB.of aX,oS,OT,Dg,a,ns,_,_,rfl,gx,iB.same tW,⟨by omega,by omega⟩,by decide,_,rfl,cL _ _ ⟨tW,d5.upd,_,⟨by omega,by omega⟩,rfl⟩⟩
   rintro kT cS ⟨s5,jC,anT,Au,rfl⟩;have J_:=iB.same s5;subst ba;simp only [dG];exists (fun ax d1=>d1=cS/\∃ lo:Int,(oS <= lo/\lo <= 21)/\ax=[~~~a,some (.int n),~~~wl,~~~gl,dB,eK,some (.int (j:Int)),d2,dp,~~~bt,some (.int lo),q4]),0
   .refine dW (decide (dh ns (150 + (j:Int)) 12=0)) (fun Q a8=>?_) (fun _=>?_) (fun _=>?_)
    .nofun;refine ⟨a,ns,_,_,rfl,gx,J_,⟨by omega,by omega⟩,by decide,rfl,?_⟩;rw [show decide (V.int (dh ns (150 + (j:Int)) 12)=V.int 0)=decide (dh ns (150 + (j:Int)) 12=0) from decide_eq_decide.mpr (by simp)];exact a8
    .nofun;exact cL _ _ ⟨rfl,_,by omega,rfl⟩
    .simp only [iy];exact cL _ _ ⟨rfl,_,by omega,rfl⟩
   rintro rO d1 ⟨rfl,lo,vW,rfl⟩;have jD:=g8 ns (180 + (j:Int)) (m:=6) (by decide);have iZ:=gX ns (180 + (j:Int)) (m:=6) (by decide);subst ba;simp only [dG];exists (fun ax fL=>aS d1 fL/\aP fL/\∃ mo:Int,(1 <= mo/\mo <= 20)/\ax=[~~~a,some (.int n),~~~wl,~~~gl,dB,eK,some (.int (j:Int)),d2,dp,~~~bt,some (.int lo),some (.int mo)]),0
   .obtain ⟨mo,rF,pW⟩:=Xl jD iZ;nofun;exact ⟨by decide,fun p ar=>⟨a,ns,_,_,rfl,gx,J_.same (bq ar),⟨by omega,by omega⟩,by decide,_,_,rfl,aB.of aX,_,pW,cL _ _ ⟨bq ar,jC.upd,mo,rF,rfl⟩⟩⟩
   rintro mX fL ⟨h2,kk,mo,rF,rfl⟩;have qz:=s5.trans h2;have wU:=J_.same h2;have tl:=qz _ _ g0;have nx:=g8 ns (140 + (j:Int)) (m:=mo) (by omega);have qT:=gX ns (140 + (j:Int)) (m:=mo) (by omega);subst ba;nofun;refine ⟨.inl ⟨_,aB.of tl⟩,a,ns,_,_,rfl,gx,wU,⟨by omega,by omega⟩,by omega,_,rfl,_,aB.of (qz _ _ hA.af),_,wh,by decide,fun p ar=>⟨_,(bq ar) _ _ tl,gQ (show (kI.map V.ref).length <= 8 by rw [a0];omega) (by decide),((s4.trans qz).trans (bq ar)).fY kl,(kk.upd).upd,⟨kI ++ [p],by rw [aX,fS];rfl,by rw [ec,yQ];rfl,aZ ++ [⟨lo,lo + dh ns (140 + (j:Int)) mo,g⟩],by rw [ec,fO];rfl,fun i q s a1 a2=>?_,?_,fun s ay=>?_⟩,?_⟩⟩
   .have agp:bt ≠ p:=dj tl ar;rcases my a1 with ⟨gY,e9⟩ | ⟨gY,rfl⟩
    .rcases my a2 with ⟨cc,cU⟩ | ⟨cc,_⟩
     .obtain ⟨m,hm,e⟩:=qS i q s e9 cU;have es:=qz _ _ e;refine ⟨m,hm,?_⟩;rw [aH (b0 es tl (by intro z;cases z)),aH (dj es ar)];exact es
     .omega
    .rcases my a2 with ⟨cc,_⟩ | ⟨_,rfl⟩
     .omega
     .refine ⟨j2,by rw [gY,yQ];exact eI,?_⟩;rw [aH (dg agp),aX]
   .rw [fS,vr,pz,o5];rfl
   .rcases hI.mp ay with z | z
    .exact CP s z
    .rw [gg.mp z];refine ⟨fun i ah e he=>?_,by show 1 <= lo;omega,vW.2,by show lo <= lo + dh ns (140 + (j:Int)) mo;omega,by show lo + dh ns (140 + (j:Int)) mo <= 40;omega⟩;have:=Dg (c5 i) (b1.mpr ⟨i,ah,rfl⟩);rw [Me i e he] at this;show e.least <= lo;omega
   .repeat (first | exact ⟨_,rfl⟩ | refine ⟨⟨_,rfl⟩,?_⟩)
  .rintro σ I bl;ac_rfl
   obtain ⟨s4,d5,⟨kI,aZ,g0,yQ,fO,qS,vr,CP⟩,eL,dp,ik,q4,rfl⟩:=bl;subst ba;rw [ig] at vr;have hA:=G.same s4;refine cL _ _ ⟨s4,d5,⟨kI,aZ,⟨g0,by omega,by rw [G.aj];omega,fun i q m s a1 a2 fX=>?_⟩,⟨by rw [vr];exact kh,fun s ay=>(CP s ay).1,fun s ay=>(CP s ay).2⟩⟩,_,_,_,_,rfl⟩;obtain ⟨dt,r9,e⟩:=qS i q s a1 fX;rw [a2] at r9;cases r9;refine ⟨e,hA.eM i m s.eS a2 ?_⟩;rw [<- vr,da,fX];rfl
 rintro kT cS ⟨s4,d5,⟨kI,aZ,nz,amy⟩,eL,dp,ik,q4,rfl⟩;subst ba;nofun;exact q bt kI qs aZ cS (s2.trans s4) d5 nz amy
noncomputable def h7 (ds:List bj) (i:Nat):Str:=((ds[i]?).map (·.name)).getD (ae "")
noncomputable def im (ds:List bj) (s:hb):List Str:=s.eS.map (h7 ds)
noncomputable def hV (ds:List bj) (s:hb):List Str:=[ae "stage",num s.lo,num s.ah] ++ im ds s
noncomputable def gE (ds:List bj) (aZ:List hb):List (List Str):=aZ.map (hV ds)
noncomputable def rm (ds:List bj) (aZ:List hb):Str:=d4 nl ((gE ds aZ).map (d4 cA))
structure GS (ds:List bj) (aZ:List hb):Prop where
 ln:aZ.length <= 8
 bd:∀ s ∈ aZ,(0 <= s.lo/\s.lo < 1000)/\(0 <= s.ah/\s.ah < 1000)/\s.eS ≠ []/\s.eS.length <= 8/\∀ i ∈ s.eS,∃ d,ds[i]? = some d
 nm:∀ d ∈ ds,d.name.length <= 8
theorem al0 (ds:List bj) (s:hb) (h:s.eS ≠ []):ae "stage " ++ num s.lo ++ ae " " ++ num s.ah ++ ae " " ++ d4 cA (im ds s)=d4 cA (hV ds s):=by
 apply BK;have aq:(ae "stage ").cps.toList=[115,116,97,103,101,32]:=by ac_nf
 have aD:(ae "stage").cps.toList=[115,116,97,103,101]:=by ac_nf
 have bL:(ae " ").cps.toList=[32]:=by ac_nf
 unfold hV im;obtain ⟨i,r,av⟩:=tO h;rw [av,dL,qa];simp only [k3,lX,qa,eN,p',yD,Gy,kY,aq,aD,bL,pG]
def V4:bP:=fun vs H Q _=>∃ wl ds bt qs ms aZ,vs=[.ref wl,.ref bt]/\iz H wl ds/\nc H bt qs ms aZ/\GS ds aZ/\aP H/\Q (.str (rm ds aZ)) H
def XP:bP:=fun vs H Q _=>∃ wl ds bt qs ms aZ,vs=[.ref wl,.ref bt]/\iz H wl ds/\nc H bt qs ms aZ/\GS ds aZ/\∀ I,aS H I->Q (.str (rm ds aZ)) I
theorem Xh:cu P base T 1 t.CR t.Bl zA V4:=by
 refine b_.forget (sp:=XP) ?_ fun vs H Q E h=>?_
 .exists T.G5.ok xW,9
  obtain ⟨wl,ds,bt,qs,ms,aZ,rfl,⟨pP,cw,cN,Ha⟩,nz,X,q⟩:=h;have ade:=X.ln;have wO:∀ (i:Nat) (d:bj),ds[i]? = some d->∃ uc,f3 (pP.map V.ref) (i:Int)=some (.ref uc)/\H uc=some (.tup (kd d)):=fun i d hd=>by
   have gW:pP[i]? = some (pP[i]'(by rw [cN];exact (cv.mp hd).1)):=bc _;exact ⟨_,cB (by rw [da,gW];rfl),Ha i _ d gW hd⟩
  have wZ:∀ k:Nat,k <= 1000->k <= sizeLine:=fun k h=>cP h (by decide)
  refine ⟨_,(aW (b5 (i:=2) xW.aG (ha aE))
   (aW (fU gi rfl (eA (U 1)) (lC (K:=K) (n:=3) rfl rfl (ft (Db (i:=3) xW.aG) (ft (Db (i:=4) xW.aG) (ft (Db (i:=5) xW.aG) lS)))) (a6 (dS (gm ie lE mK Re (U 2) (ai (bF jM (bF jM (bF jM (bF jM (bF jM cX (lg x5 rfl T.wV vl (ai (U 3) aE))) cX) (lg x5 rfl T.wV vl (ai (U 4) aE))) cX) (gm sH Dk Ak xT cX (ai (hl rfl (eA (U 5)) (gz (sc:=bz K3) rfl (by ac_nf)) (N:=BW) (sel:=[none,some 0]) (gA (M:=["_law_ways_here","_law_stages_here","_law_rows","_law_low","_law_high","_law_some"]) (by ac_nf)) (fA.of (fun _ _ _ _=>(Db (i:=0) (er (N:=BW) (by ac_nf) rfl))) (fun _ _ _ _=>⟨_,ix,by walk_at "B"⟩) (fun _ _ _ _=>⟨_,(cq fP (cq lc (U 1) (U 0)) aR),by walk_at "B"⟩))) aE))) aE)))))
   (a6 (cg (gm sH Dk Ak xT cX (ai (U 2) aE)))))),?_⟩
  exists (fun ax I=>aS H I/\∃ dw,H dw=none/\I dw=some (.lst (aL []))/\ax=[~~~wl,~~~bt,~~~dw,none,none,none]),3
  .nofun;exact ⟨fC _,fun dw gS=>cL _ _ ⟨bq gS,dw,gS,aX,rfl⟩⟩
  rintro f_ H1 ⟨s1,dw,gS,c9,rfl⟩;subst ba;exists (fun ax I=>aS H I/\I dw=some (.lst (aL ((gE ds aZ).map (d4 cA))))/\∃ gq dB eK,ax=[~~~wl,~~~bt,~~~dw,gq,dB,eK]),3
  .nofun;refine ⟨⟨_,aB.of (s1 _ _ nz.at_)⟩,?_⟩;refine d3.list (xs:=qs.map V.ref) (fun i σ I=>aS H I/\I dw=some (.lst (aL ((gE ds (aZ.take i)).map (d4 cA))))/\∃ gq dB eK,σ=[~~~wl,~~~bt,~~~dw,gq,dB,eK]) ?_ ?_ ?_ ?_
   .exact ⟨s1,by rw [r5];exact c9,_,_,_,rfl⟩
   .rintro i σ I ah ⟨bR,_⟩;exact aB.of (bR _ _ nz.at_)
   .rintro i v σ I aF bl;ac_rfl
    obtain ⟨bR,dH,gq,dB,eK,rfl⟩:=bl;obtain ⟨qM,gW,rfl⟩:=cf aF;have ah:i < aZ.length:=by rw [<- nz.cw];exact (cv.mp gW).1
    have uq:aZ[i]? = some aZ[i]:=bc ah;have qZ:ms[i]? = some (ms[i]'(by rw [nz.cN];exact ah)):=bc _;obtain ⟨aq,aD⟩:=nz.al i qM _ _ gW qZ uq;subst ba;generalize ms[i]'(by rw [nz.cN];exact ah)=m at qZ aq aD;generalize aow:aZ[i]=s at uq aq aD;obtain ⟨UW,Pz,bne,z',vg⟩:=X.bd s (cH uq);have af:=yr (n:=s.lo) (by omega) (by omega);have aj:=yr (n:=s.ah) (by omega) (by omega);have t1:(ae "stage ").length=6:=by ac_nf
    have fy:(ae " ").length=1:=by ac_nf
    have kX:∀ y ∈ im ds s,y.length <= 8:=fun y bh=>by
     obtain ⟨k,aC,rfl⟩:=b1.mp bh;obtain ⟨d,hd⟩:=vg k aC;unfold h7;rw [hd];exact X.nm d (cH hd)
    have lG:(d4 cA (im ds s)).length <= 100:=by
     have:=pw cA 8 (im ds s) kX;rw [qm] at this;have aA:(im ds s).length=s.eS.length:=by unfold im;rw [a0]
     have:(im ds s).length * 9 <= 72:=by omega
     omega
    nofun;refine ⟨_,c0.of (bR _ _ aq),rfl,_,_,rfl,_,_,rfl,_,_,rfl,rfl,.inl ⟨_,aB.of dH⟩,_,rfl,Oa (by omega),wZ _ (by rw [t1];omega),wZ _ (by simp only [oe,t1,fy];omega),_,rfl,Oa (by omega),wZ _ (by simp only [oe,t1,fy];omega),wZ _ (by simp only [oe,t1,fy];omega),m,rfl,⟨_,aB.of (bR _ _ aD)⟩,?_⟩;refine c6.lR (xs:=s.eS.map fun k:Nat=>V.int k) (zs:=aL (im ds s)) (aB.of (bR _ _ aD)) (cP (show (s.eS.map fun k:Nat=>V.int k).length <= 8 by rw [a0];exact z') (by decide)) (by rw [eF,a0];unfold im;rw [a0]) (fun l v z N aF aJ bf=>?_) (fun pl cO=>?_)
    .obtain ⟨k,aC,rfl⟩:=cf aF;unfold aL im at aJ;obtain ⟨y,bh,rfl⟩:=cf aJ;obtain ⟨pL,gN,rfl⟩:=cf bh;rw [aC] at gN;cases gN;obtain ⟨d,hd⟩:=vg k (cH aC);obtain ⟨uc,abX,eq⟩:=wO k d hd;have ab2:h7 ds k=d.name:=by unfold h7;rw [hd];rfl
     rw [ab2] at bf;nofun;exact ⟨Sub.name,_,aB.of (bR _ _ cw),_,abX,_,rfl,_,c0.of (bR _ _ eq),_,cB (j:=1) rfl,bf⟩
    .have ml:(im ds s).length <= 8:=by unfold im;rw [a0];exact z'
     refine ⟨pl,rfl,im ds s,aB.of aX,?_,?_⟩
     .have:=AG kX;rw [fy];omega
     .rw [show pB (ae " ") (im ds s)=d4 cA (im ds s) from yv _ _];have uG:=al0 ds s bne;have iQ:(aL ((gE ds (aZ.take i)).map (d4 cA))).length <= 8:=by
       unfold aL gE;rw [a0,a0,a0,hE];omega
      refine ⟨wZ _ (by simp only [oe,t1,fy];omega),_,(bq cO) _ _ dH,gQ iQ (by decide),(bR.trans (bq cO)).fY gS,?_,?_⟩
      .rw [aX,uG,pz,uq];unfold gE aL;rw [fS,fS,fS];rfl
      .repeat (first | exact ⟨_,rfl⟩ | refine ⟨⟨_,rfl⟩,?_⟩)
   .rintro σ I bl;ac_rfl
    obtain ⟨bR,dH,gq,dB,eK,rfl⟩:=bl;subst ba;rw [a0,nz.cw,ig] at dH;exact cL _ _ ⟨bR,dH,_,_,_,rfl⟩
  rintro cz aw ⟨s2,dH,gq,dB,eK,rfl⟩;subst ba;nofun;have hg:∀ y ∈ (gE ds aZ).map (d4 cA),y.length <= 200:=fun y bh=>by
   obtain ⟨r,eg,rfl⟩:=b1.mp bh;obtain ⟨s,ay,rfl⟩:=b1.mp eg;obtain ⟨UW,Pz,bne,z',vg⟩:=X.bd s ay;have af:=yr (n:=s.lo) (by omega) (by omega);have aj:=yr (n:=s.ah) (by omega) (by omega);have kX:∀ y ∈ hV ds s,y.length <= 8:=fun y bh=>by
    unfold hV at bh;rcases hI.mp bh with z | z
    .have z:y=ae "stage" \/ y=num s.lo\/y=num s.ah:=by simpa using z
     rcases z with rfl | rfl | rfl
     .ac_nf
     .exact cP af (by decide)
     .exact cP aj (by decide)
    .obtain ⟨k,aC,rfl⟩:=b1.mp z;obtain ⟨d,hd⟩:=vg k aC;unfold h7;rw [hd];exact X.nm d (cH hd)
   have:=pw cA 8 (hV ds s) kX;rw [qm] at this;have aA:(hV ds s).length <= 11:=by
    unfold hV im;rw [ec,a0];show 3 + s.eS.length <= 11;omega
   omega
  refine ⟨_,aB.of dH,?_,?_⟩
  .have:=AG hg;rw [show (ae "\n").length=1 by ac_nf];have aA:((gE ds aZ).map (d4 cA)).length <= 8:=by
    unfold gE;rw [a0,a0];exact ade
   omega
  .rw [show pB (ae "\n") ((gE ds aZ).map (d4 cA))=d4 nl ((gE ds aZ).map (d4 cA)) from yv _ _];exact q _ s2
 .obtain ⟨wl,ds,bt,qs,ms,aZ,rfl,L,nz,X,bN,q⟩:=h;exact ⟨bN,wl,ds,bt,qs,ms,aZ,rfl,L,nz,X,fun I bR=>⟨bR,q⟩⟩
noncomputable def lZ (ds:List bj) (s:hb):ST:=⟨s.lo,s.ah,im ds s⟩
noncomputable def Gc (ds:List bj) (aZ:List hb):List ST:=aZ.map (lZ ds)
theorem ll (h:ds[i]? = some d):h7 ds i=d.name:=by unfold h7;rw [h];rfl
theorem FX (aG:(ds.map (·.name)).Nodup) (ah:i < ds.length) (aM:j < ds.length) (e:h7 ds i=h7 ds j):i=j:=by
 rw [ll (bc ah),ll (bc aM)] at e;exact ve aG ah aM (by rw [kL (bc ah),kL (bc aM)];exact e)
structure dQ (n:Int) (ds:List bj) (aZ:List hb):Prop where
 aG:(ds.map (·.name)).Nodup
 lU:Ce n ds aZ
 F6:ds.length <= 6
 cw:1 <= ds.length
 ok:∀ d ∈ ds,jV n d
theorem dQ.cR (h:dQ n ds aZ):(aZ.map (·.eS)).flatten.Nodup:=h.lU.bC.pm.nodup_iff.mpr List.nodup_range
theorem dQ.lt (h:dQ n ds aZ) (ay:s ∈ aZ) (ah:i ∈ s.eS):i < ds.length:=h.lU.bC.lt (b1.mpr ⟨s,ay,rfl⟩) ah
theorem dQ.len (h:dQ n ds aZ):aZ.length <= 6:=by
 have:=h.lU.bC.len.1;rw [a0] at this;have:=h.F6;omega
theorem dQ.jR (h:dQ n ds aZ):GS ds aZ:=by
 refine ⟨by have:=h.len;omega,fun s ay=>?_,fun d hd=>((nG (h.ok d hd).nm).1).2⟩;have b:=h.lU.bd s ay;have hm:s.eS ∈ aZ.map (·.eS):=b1.mpr ⟨s,ay,rfl⟩;have a5:=h.lU.bC.FN hm;have:=h.F6;exact ⟨⟨by omega,by omega⟩,⟨by omega,by omega⟩,h.lU.bC.ne _ hm,by omega,fun i ah=>⟨_,bc (h.lt ay ah)⟩⟩
theorem dQ.aau (h:dQ n ds aZ) (ay:s ∈ aZ):(im ds s).Nodup:=by
 have ag:s.eS.Nodup:=h.cR.sublist (YW (b1.mpr ⟨s,ay,rfl⟩));unfold im;refine Wy.mpr (anb (fun {a b} aO ab nq e=>?_) ag);exact nq (FX h.aG (h.lt ay aO) (h.lt ay ab) e)
theorem dQ.told (h:dQ n ds aZ) (ay:aZ[i]? = some s) {x:Str} (ag:x ∈ im ds s):told (Gc ds (aZ.take i)) x=false:=by
 cases e:My.told (Gc ds (aZ.take i)) x with
 | false=>rfl
 | true=>
  exfalso;unfold My.told at e;obtain ⟨r,ak,av⟩:=qV.mp e;obtain ⟨s',j3,rfl⟩:=b1.mp ak;have av:x ∈ im ds s':=by simpa [lZ] using av
  obtain ⟨k,aC,rfl⟩:=b1.mp ag;obtain ⟨pL,gN,XH⟩:=b1.mp av;have:=FX h.aG (h.lt (ua j3) gN) (h.lt (cH ay) aC) XH;subst this;obtain ⟨ah,uq⟩:=cv.mp ay;have hf:=h.cR;rw [<- Wc i aZ,fS,aeN,rM ah,uq,eN,vd] at hf;exact (DK.mp hf).2.2 pL (U1.mpr ⟨s'.eS,b1.mpr ⟨s',j3,rfl⟩,gN⟩) pL (yJ _ aC) rfl
theorem OJ:∀ {r:List Str} {j:Nat} {ms:List Str},(∀ x ∈ r,x ∈ alike)->(ms ++ r).Nodup->qP alike r j ms=.ok (ms ++ r)
 | [],j,ms,_,_=>by
  show ql ms=_;rw [ur]
 | x :: r,j,ms,aO,aY=>by
  unfold qP;have ag:x ∉ ms:=fun z=>(DK.mp aY).2.2 x z x (lp ..) rfl
  rw [if_pos ⟨aO x (lp ..),ag⟩,OJ (fun y bh=>aO y (hS _ bh)) (by rw [pG];exact aY),pG];rfl
theorem dQ.left (h:dQ n ds aZ) (ay:aZ[i]? = some s) {x:Str} (ag:x ∈ im ds s):x ∈ gV ds (Gc ds (aZ.take i)):=by
 unfold gV;refine kV.mpr ⟨?_,by rw [h.told ay ag];rfl⟩;obtain ⟨k,aC,rfl⟩:=b1.mp ag;have gN:=h.lt (cH ay) aC;rw [ll (bc gN)];exact b1.mpr ⟨_,jq gN,rfl⟩
theorem dQ.aeX (h:dQ n ds aZ) (ay:aZ[i]? = some s):Op ds (Gc ds (aZ.take i)) (hV ds s)=.ok (lZ ds s):=by
 have hm:=cH ay;have b:=h.lU.bd s hm;have bX:=h.lU.bC.ne s.eS (b1.mpr ⟨s,hm,rfl⟩);obtain ⟨k,r,av⟩:=tO bX;have kX:im ds s=h7 ds k :: r.map (h7 ds):=by unfold im;rw [av];rfl
 have hw:hV ds s=ae "stage" :: num s.lo :: num s.ah :: h7 ds k :: r.map (h7 ds):=by unfold hV;rw [kX];rfl
 have ct:k9 ds (gV ds (Gc ds (aZ.take i))) (hV ds s)=.ok (im ds s):=by
  have hf:h7 ds k ∈ im ds s:=by rw [kX];exact lp ..
  have a':az (hV ds s) 3=h7 ds k:=by rw [hw];rfl
  have c7:(hV ds s).drop 4=r.map (h7 ds):=by rw [hw];rfl
  unfold k9;rw [a',c7,if_pos (h.left ay hf),OJ (fun x ag=>?_) (by have:=h.aau hm;rw [kX] at this;exact this),kX]
  .rfl
  .have pd:x ∈ im ds s:=by rw [kX];exact hS _ ag
   refine kV.mpr ⟨h.left ay pd,decide_eq_true ?_⟩;obtain ⟨cT,ac1,rfl⟩:=b1.mp ag;have Lv:cT ∈ s.eS:=by rw [av];exact hS _ ac1
   have Vb:k ∈ s.eS:=by rw [av];exact lp ..
   have cw:=bc (h.lt hm Vb);have cN:=bc (h.lt hm Lv);have al:=h.lU.bC.al s.eS (b1.mpr ⟨s,hm,rfl⟩) cT Lv k Vb _ _ cN cw;show (iJ ds (h7 ds cT)).map h1=(iJ ds (h7 ds k)).map h1;rw [ll cw,ll cN,lI h.aG cw,lI h.aG cN];have:=vj.mp al;show some (h1 _)=some (h1 _);unfold h1;by_cases c:(ds[cT]'(h.lt hm Lv)).k=2
   .rw [if_pos c,if_pos (this.mp c)]
   .rw [if_neg c,if_neg (fun z=>c (this.mpr z))]
 have h0:az (hV ds s) 0=ae "stage" := by rw [hw];rfl
 have af:az (hV ds s) 1=num s.lo:=by rw [hw];rfl
 have aj:az (hV ds s) 2=num s.ah:=by rw [hw];rfl
 have aq:ke (num s.lo) 1 60=some s.lo:=WI (Tm (by omega) (by omega) (by omega) (by omega));have aD:ke (num s.ah) s.lo 60=some s.ah:=WI (Tm (by omega) (by omega) (by omega) (by omega));unfold Op;rw [h0,af,aj,ct,if_pos (gg.mpr rfl),aq];show (ke (num s.ah) s.lo 60).elim _ _=_;rw [aD];rfl
theorem dQ.parse (h:dQ n ds aZ):∀ (m i:Nat),aZ.length - i=m->i <= aZ.length->pp ds ((gE ds aZ).drop i) i (Gc ds (aZ.take i))=.ok (Gc ds aZ)
 | 0,i,hm,ah=>by
  have:i=aZ.length:=by omega
  subst this;have aA:(gE ds aZ).length=aZ.length:=by unfold gE;rw [a0]
  rw [<- aA,xv,aA,ig];rfl
 | m + 1,i,hm,ah=>by
  have fu:i < aZ.length:=by omega
  have ay:aZ[i]? = some aZ[i]:=bc fu;have aA:i < (gE ds aZ).length:=by unfold gE;rw [a0];exact fu
  have a5:(gE ds aZ)[i]=hV ds aZ[i]:=(cv.mp (show (gE ds aZ)[i]? = some (hV ds aZ[i]) by unfold gE;rw [da,ay];rfl)).2;rw [rM aA,a5];unfold pp;have il:=h.len;rw [if_neg (by unfold Gc;rw [a0,hE];omega),h.aeX ay];have b':=h.parse m (i + 1) (by omega) fu;rw [j_ ay] at b';unfold Gc at b' ⊢;rw [fS] at b';exact b'
theorem dQ.none (h:dQ n ds aZ):(gV ds (Gc ds aZ)).head? = tp/\sX ds (Gc ds aZ)=tp/\vi n ds (Gc ds aZ)=tp:=by
 refine ⟨?_,?_,?_⟩
 .have:gV ds (Gc ds aZ)=[]:=by
   unfold gV;refine MK.mpr fun x ag=>?_
   obtain ⟨d,hd,rfl⟩:=b1.mp ag;obtain ⟨k,aC⟩:=iN hd;have tB:=(cv.mp aC).1;have hf:=h.lU.bC.pm.mem_iff.mpr (n_.mpr tB);obtain ⟨g,a5,ahT⟩:=U1.mp hf;obtain ⟨s,ay,rfl⟩:=b1.mp a5;have:My.told (Gc ds aZ) d.name=true:=by
    unfold My.told;refine qV.mpr ⟨lZ ds s,b1.mpr ⟨s,ay,rfl⟩,?_⟩;have:d.name ∈ im ds s:=b1.mpr ⟨k,ahT,ll aC⟩;simpa [lZ] using this
   rw [this];simp
  rw [this];rfl
 .unfold sX;refine Ex.mpr fun d hd=>?_
  unfold wN;cases aC:ip (Gc ds aZ) d.name with
  | none=>rfl
  | some k=>
   rw [rA];cases ak:(Gc ds aZ)[k]? with
   | none=>rfl
   | some r=>
    rw [rA];have ag:My.told (Gc ds aZ) d.name=true:=by
     have:=TA (Gc ds aZ) d.name;rw [<- this];unfold ip at aC;cases e:cY (gZ ((Gc ds aZ).map (·.mem))) (bT d.name) with
     | none=>rw [e] at aC;cases aC
     | some v=>rfl
    obtain ⟨pL,cV,_,gN,eg,hm⟩:=ox ag;rw [aC] at gN;cases gN;rw [ak] at eg;cases eg;obtain ⟨s,ay,rfl⟩:=cf ak;obtain ⟨i,ah,zR⟩:=b1.mp hm;have nS:=cH ay;have iQ:=h.lt nS ah;rw [ll (bc iQ)] at zR;obtain ⟨j,aM⟩:=iN hd;have:i=j:=ve h.aG iQ (cv.mp aM).1 (by rw [kL (bc iQ),kL aM,zR]);subst this;have:=h.lU.le s nS i ah d aM;show (if s.lo < d.least then some (d,k) else tp)=tp;rw [if_neg (show ¬ s.lo < d.least by omega)]
 .unfold vi;refine Ex.mpr fun e he=>?_
  obtain ⟨r,k⟩:=e;have ak:r ∈ Gc ds aZ:=List.fst_mem_of_mem_zipIdx he;obtain ⟨s,ay,rfl⟩:=b1.mp ak;unfold bv;refine Ex.mpr fun x ag=>Ex.mpr fun y bh=>?_
  obtain ⟨i,ah,rfl⟩:=b1.mp ag;obtain ⟨j,aM,rfl⟩:=b1.mp bh;unfold oq;rw [if_neg];rintro ⟨ez,d9⟩;have li:=bc (h.lt ay ah);have EC:=bc (h.lt ay aM);unfold oO at d9;rw [ll li,ll EC,lI h.aG li,lI h.aG EC] at d9;have:=h.lU.bC.CI s.eS (b1.mpr ⟨s,ay,rfl⟩) i ah j aM (fun z=>ez (by rw [z])) _ _ li EC;replace d9:mt n _ _=true:=d9;rw [this] at d9;cases d9
def Rf (P:Program) (w:World) (t:bM):bP:=fun vs H Q _=>∃ c n ds aZ,vs=[.ref c,.str (rm ds aZ)]/\fh t H c n ds/\(4 <= n/\n <= 99)/\dQ n ds aZ/\aP H/\∀ a I,aS H I->aP I->gp P w t I a c n ds (Gc ds aZ)->Q (.ref a) I
theorem dQ.plain (h:dQ n ds aZ):∀ r ∈ gE ds aZ,r ≠ []/\r.length <= 11/\∀ x ∈ r,pS x:=fun r ak=>by
 obtain ⟨s,ay,rfl⟩:=b1.mp ak;obtain ⟨UW,Pz,bne,z',vg⟩:=h.jR.bd s ay;refine ⟨by unfold hV;simp,?_,fun x ag=>?_⟩
 .unfold hV im;rw [ec,a0];show 3 + s.eS.length <= 11;omega
 .unfold hV at ag;rcases hI.mp ag with z | z
  .have z:x=ae "stage" \/ x=num s.lo\/x=num s.ah:=by simpa using z
   rcases z with rfl | rfl | rfl
   .unfold pS;ac_nf
   .exact kR (by omega) (by omega)
   .exact kR (by omega) (by omega)
  .obtain ⟨k,aC,rfl⟩:=b1.mp z;obtain ⟨d,hd⟩:=vg k aC;rw [ll hd];exact He (h.ok d (cH hd)).nm
theorem dQ.rows (h:dQ n ds aZ) (bX:aZ ≠ []):hj (rm ds aZ)=gE ds aZ:=by
 unfold rm;exact Rw (by unfold gE;simpa using bX) (fun r ak=>(h.plain r ak).1) (fun r ak=>(h.plain r ak).2.2)
theorem dQ.ne (h:dQ n ds aZ):aZ ≠ []:=fun e=>by
 have:=h.lU.bC.len.2;rw [e] at this;simp at this;have:=h.cw;omega
theorem dQ.txt (h:dQ n ds aZ):(rm ds aZ).length <= 20000:=by
 have hg:∀ y ∈ (gE ds aZ).map (d4 cA),y.length <= 200:=fun y bh=>by
  obtain ⟨r,ak,rfl⟩:=b1.mp bh;obtain ⟨_,aj,a'⟩:=h.plain r ak;have:=pw cA 8 r fun x ag=>(a' x ag).1
  rw [qm] at this;omega
 have:=pw nl 200 _ hg;rw [xJ,a0] at this;have aA:(gE ds aZ).length <= 6:=by unfold gE;rw [a0];exact h.len
 unfold rm;omega
theorem aeP:cu P base T 7 t.vn t.xf xQ (Rf P w t):=by
 refine (aft T).imp fun vs H Q E h=>?_
 obtain ⟨c,n,ds,aZ,rfl,C,aY,X,bN,q⟩:=h;obtain ⟨ez,d9,vu⟩:=X.none;have bX:∀ d ∈ ds,d.name ≠ ae "" := fun d hd e=>by
  have h:=(nG (X.ok d hd).nm).1.1;rw [e] at h;exact absurd h (by ac_nf)
 have cL:ya ds:=fun d hd=>by
  obtain ⟨af,aj⟩:=nG (X.ok d hd).nm;exact ⟨⟨cP af.2 (by decide),fun c av=>by have:=aj c av;omega⟩,(X.ok d hd).k,(X.ok d hd).of.1,by have:=(X.ok d hd).of;omega⟩
 have ar:=X.parse aZ.length 0 rfl (fC _);rw [Yi,r5,show Gc ds []=[] from rfl] at ar;refine ⟨c,n,ds,_,_,rfl,C,by omega,cL,bX,X.txt,by rw [X.rows X.ne];unfold gE;rw [a0];have:=X.len;omega,fun r ak=>?_,bN,by rw [X.rows X.ne];exact ar,ajE.mp ez,d9,vu,fun a I s' ih dC=>q a I s' ih dC⟩;rw [X.rows X.ne] at ak;obtain ⟨af,aj,a'⟩:=X.plain r ak;exact ⟨af,by omega,fun y bh=>cP (a' y bh).1 (by decide)⟩
theorem ME (aG:(ds.map (·.name)).Nodup) (ay:∀ i ∈ s.eS,i < ds.length) {k:Nat} (aC:ds[k]? = some d):d.name ∈ im ds s↔k ∈ s.eS:=by
 have tB:=(cv.mp aC).1;refine ⟨fun h=>?_,fun h=>b1.mpr ⟨k,h,ll aC⟩⟩;obtain ⟨j,aM,e⟩:=b1.mp h;rw [<- ll aC] at e;rw [<- FX aG (ay j aM) tB e];exact aM
theorem YF (h0:0 <= i) (af:i < 4):∃ r:Int,(2 <= r/\r <= 20)/\f3 [V.int 2,V.int 4,V.int 9,V.int 20] i=some (.int r):=by
 have:i=0\/i=1\/i=2\/i=3:=by omega
 rcases this with rfl | rfl | rfl | rfl
 .exact ⟨2,by decide,cB (j:=0) rfl⟩
 .exact ⟨4,by decide,cB (j:=1) rfl⟩
 .exact ⟨9,by decide,cB (j:=2) rfl⟩
 .exact ⟨20,by decide,cB (j:=3) rfl⟩
def NN (K:a_) (a:Addr) (ns:List Int):bP:=fun vs H Q _=>∃ (turn:Int) (wl:Addr) (ds:List bj),vs=[.ref a,.int turn,.ref wl]/\Sc K a ns H/\(0 <= turn/\turn <= 100)/\iz H wl ds/\ds.length <= 12 /\
 ∀ p xs I,aS H I->aP I->H p=none->I p=some (.lst (aL xs))->xs.length <= 13->(∀ x ∈ xs,x ∈ ds.map (·.name))->Q (.ref p) I
theorem ZD (a:Addr) (ns:List Int) (gx:ns.length <= 63):cu P base T 2 t.Ar t.Ap yV (NN K a ns):=by
 refine cy (xE T a ns gx) fun eE=>?_;exists T.HV.ok Dh,9
 obtain ⟨turn,wl,ds,rfl,S,abB,JB,fj,q⟩:=h;obtain ⟨qs,u1,ED,ze⟩:=JB;refine ⟨_,(aW (b5 (i:=3) Dh.aG (cq lc (ha (ai aR (ai aR (ai aR (ai aR aE))))) (cn eE ak T.fm T.eU.bH T.fs (ai (U 0) (ai aR (ai aR aE))))))
   (aW (b5 (i:=4) Dh.aG (ha aE))
   (aW (fU gi rfl (nY rfl T.oB (ai (gD h4 rfl T.hR hW (ai (U 2) aE)) aE)) (Db (i:=5) Dh.aG) (a6 (dK (c_ e5 (cn eE ak T.fm T.eU.bH T.fs (ai (U 0) (ai (bF dT (bF dT aR (bF jt aR (U 1))) (U 5)) (ai (U 3) aE)))) aR (cC _)) (a6 (dS (gm ie zw IJ Cn (U 4) (ai (cn eE ak T.fm T.eU.bH T.fs (ai (U 0) (ai (bF dT (bF dT aR (U 1)) (bF jt aR (U 5))) (ai (bF dT (gD h4 rfl T.hR hW (ai (U 4) aE)) aR) aE)))) (ai (cq fP (cq lc (U 2) (U 5)) aR) aE))))) eu)))
   (aW (dK (hH.pt (pO (c_ qN (gD h4 rfl T.hR hW (ai (U 4) aE)) aR (cC _)) (pC (c_ e5 (cn eE ak T.fm T.eU.bH T.fs (ai (U 0) (ai (bF dT aR (U 1)) (ai aR aE)))) aR (cC _))))) (a6 (dS (gm ie lE mK Re (U 4) (ai (cq lc (U 4) aR) aE)))) eu)
   (a6 (cg (U 4))))))),?_⟩
 exists (fun ax I=>aS H I/\Sc K a ns I/\∃ pv:Int,(2 <= pv/\pv <= 20)/\ax=[~~~a,some (.int turn),~~~wl,some (.int pv),none,none]),3
 ·(nofun; repeat (dsimp only [hJ];nofun));refine ⟨by decide,fun p ar=>⟨S.new ar,by decide,by decide,by decide,?_⟩⟩;obtain ⟨r,ajY,acp⟩:=YF (g8 ns 4 (m:=4) (by decide)) (gX ns 4 (m:=4) (by decide));exact ⟨_,aB.of aX,_,acp,cL _ _ ⟨bq ar,S.new ar,r,ajY,rfl⟩⟩
 rintro f_ H1 ⟨s1,lJ,pv,lW,rfl⟩;subst ba;exists (fun ax I=>aS H I/\Sc K a ns I/\∃ p,H p=none/\I p=some (.lst (aL []))/\ax=[~~~a,some (.int turn),~~~wl,some (.int pv),~~~p,none]),3
 .nofun;exact ⟨by decide,fun p ar=>cL _ _ ⟨s1.trans (bq ar),lJ.new ar,p,s1.free ar,aX,rfl⟩⟩
 rintro cz aw ⟨s2,lV,p,ar,eY,rfl⟩;subst ba;exists (fun ax I=>aS H I/\Sc K a ns I/\∃ xs y,xs.length <= 12/\(∀ x ∈ xs,x ∈ ds.map (·.name))/\I p=some (.lst (aL xs))/\ax=[~~~a,some (.int turn),~~~wl,some (.int pv),~~~p,y]),3
 .have dH:=s2 _ _ u1;have od:(qs.map V.ref).length=ds.length:=by rw [a0,ED]
  nofun;refine ⟨_,.inl (aB.of dH),by omega,by omega,?_⟩;rw [od,qp];refine d3.range (fun i σ I=>aS H I/\Sc K a ns I/\∃ xs y,xs.length <= i/\(∀ x ∈ xs,x ∈ ds.map (·.name))/\I p=some (.lst (aL xs))/\σ=[~~~a,some (.int turn),~~~wl,some (.int pv),~~~p,y]) ⟨s2,lV,[],_,fC _,fun x ag=>by simp at ag,eY,rfl⟩ ?_ ?_
  .rintro i σ I ah bl;ac_rfl
   obtain ⟨s',sS,xs,y,hn,hF,ju,rfl⟩:=bl;have hd:=bc ah;have aI:=bc (show i < qs.length by omega);have aaN:=s' _ _ (ze i _ _ aI hd);have d8:=s' _ _ u1;have o2:(aL xs).length=xs.length:=eF ..;subst ba;nofun;refine dW (decide (dh ns (400 + 17 * turn + (0 + (i:Int))) pv=0)) (fun jf a8=>?_) (fun ab=>?_) (fun ab=>?_)
   ·(nofun; repeat (dsimp only [hJ];nofun));exact ⟨.inr ⟨by omega,by omega⟩,sS,by omega,by omega,by omega,by simpa using a8⟩
   ·(nofun; repeat (dsimp only [hJ];nofun));have ew:=g8 ns (900 + turn + 5 * (i:Int)) (m:=(xs.length:Int) + 1) (by omega);have e':=gX ns (900 + turn + 5 * (i:Int)) (m:=(xs.length:Int) + 1) (by omega);refine ⟨.inl ⟨_,aB.of ju⟩,.inl ⟨by omega,by omega⟩,_,.inl (aB.of ju),sS,by omega,by omega,by omega,_,aB.of d8,_,cB (by rw [da,aI];rfl),_,rfl,_,c0.of aaN,_,cB (j:=1) rfl,_,ju,?_⟩;rw [o2];generalize dh ns (900 + turn + 5 * (i:Int)) ((xs.length:Int) + 1)=g at ew e';have fu:g.toNat <= xs.length:=by omega
    have e:(aL xs).take g.toNat ++ V.str ds[i].name :: (aL xs).drop g.toNat=aL (ins xs g.toNat ds[i].name):=by
     unfold aL;rw [FE];rfl
    rw [e];refine ⟨ew,by omega,by omega,gQ (show xs.length <= 12 by omega) (by decide),s'.fY ar,sS.set ju (by intro _ _ z;cases z),_,by rw [LX fu];omega,fun x ag=>?_,aX,_,rfl⟩;rcases mL ag with rfl | ag
    .exact b1.mpr ⟨_,jq ah,rfl⟩
    .exact hF x ag
   .nofun;exact ⟨s',sS,xs,by omega,hF,ju,_,rfl⟩
  .rintro σ I bl;ac_rfl
   obtain ⟨s',sS,xs,y,hn,hF,ju,rfl⟩:=bl;subst ba;exact cL _ _ ⟨s',sS,xs,y,by omega,hF,ju,rfl⟩
 rintro gb bw ⟨s3,nF,xs,y,hn,hF,j9,rfl⟩;subst ba;exists (fun ax I=>aS H I/\Sc K a ns I/\∃ xs y,xs.length <= 13/\(∀ x ∈ xs,x ∈ ds.map (·.name))/\I p=some (.lst (aL xs))/\ax=[~~~a,some (.int turn),~~~wl,some (.int pv),~~~p,y]),3
 .have o2:(aL xs).length=xs.length:=eF ..;nofun;refine dW (decide (0 < xs.length) && decide (dh ns (1300 + turn) 7=0)) (fun jf a8=>?_) (fun ab=>?_) (fun ab=>?_)
  ·(nofun; repeat (dsimp only [hJ];nofun));refine ⟨_,.inl (aB.of j9),?_⟩;rw [o2];by_cases bZ:0 < xs.length
   .rw [if_pos (decide_eq_true (by omega))];rw [decide_eq_true bZ,lK] at a8;exact ⟨nF,by omega,by omega,by decide,a8⟩
   .rw [if_neg (by simpa using bZ)];rw [decide_eq_false bZ,mu] at a8;exact a8
  .nofun;have h0:0 < xs.length:=by
    rw [iE,decide_eq_true_eq] at ab;exact ab.1
   obtain ⟨x,r,rfl⟩:∃ x r,xs=x :: r:=by
    cases xs with
    | nil=>cases h0
    | cons x r=>exact ⟨x,r,rfl⟩
   refine ⟨.inl ⟨_,aB.of j9⟩,_,aB.of j9,_,cB (j:=0) rfl,_,j9,by rw [o2];exact gQ hn (by decide),?_⟩;refine cL _ _ ⟨s3.fY ar,nF.set j9 (by intro _ _ z;cases z),(x :: r) ++ [x],y,by rw [ec];exact Nat.succ_le_succ hn,fun z aJ=>?_,?_,rfl⟩
   .rcases hI.mp aJ with aJ | aJ
    .exact hF z aJ
    .rw [gg.mp aJ];exact hF x (.head _)
   .rw [aX];unfold aL;rw [fS];rfl
  .nofun;exact cL _ _ ⟨s3,nF,xs,y,by omega,hF,j9,rfl⟩
 rintro kT cS ⟨s4,iB,xs,y,hn,hF,aew,rfl⟩;subst ba;nofun;exact q p xs cS s4 iB.2 ar aew hn hF
noncomputable def nN (aZ:List hb) (j:Nat):List Nat:=((aZ[j]?).map (·.eS)).getD []
theorem Hm {x:hb} (h:aZ[j]? = some x):nN aZ j=x.eS:=by unfold nN;rw [h];rfl
noncomputable def OA (ds:List bj) (i:Nat):Bool:=decide ((ds[i]?).map (·.k)=some 2)
noncomputable def M6 (ds:List bj) (aZ:List hb) (j:Nat):Bool:=OA ds ((nN aZ j).headD 0)
theorem dQ.six {n:Int} {ds:List bj} {aZ:List hb} (h:dQ n ds aZ) {j:Nat} (aM:j < aZ.length):aZ[j].eS ≠ []/\aZ[j].eS.length <= 8:=by
 obtain ⟨_,_,a,b,_⟩:=h.jR.bd _ (jq aM);exact ⟨a,b⟩
section
variable {n:Int} {ds:List bj} {aZ:List hb}
theorem dQ.tell (X:dQ n ds aZ) {d:bj} (hd:d ∈ ds):My.told (Gc ds aZ) d.name=true:=by
 have h:gV ds (Gc ds aZ)=[]:=ajE.mp X.none.1;unfold gV at h;have:=MK.mp h d.name (b1.mpr ⟨d,hd,rfl⟩);simpa using this
theorem Sz {j k:Nat} (h:k ∈ nN aZ j):∃ x,aZ[j]? = some x/\k ∈ x.eS:=by
 unfold nN at h;cases e:aZ[j]? with
 | none=>rw [e] at h;simp at h
 | some x=>rw [e] at h;exact ⟨x,rfl,h⟩
theorem dQ.uniq (X:dQ n ds aZ) {j i k:Nat} (af:k ∈ nN aZ j) (aj:k ∈ nN aZ i):j=i:=by
 have half:∀ {a b:Nat},a < b->k ∈ nN aZ a->k ∈ nN aZ b->False:=fun {a b} nq aO ab=>by
  obtain ⟨x,ag,tr⟩:=Sz aO;obtain ⟨y,bh,afn⟩:=Sz ab;have hf:=X.told bh (x:=h7 ds k) (b1.mpr ⟨k,afn,rfl⟩);have pd:x ∈ aZ.take b:=cH (by rw [uS nq];exact ag);have:My.told (Gc ds (aZ.take b)) (h7 ds k)=true:=by
   unfold My.told;refine qV.mpr ⟨lZ ds x,b1.mpr ⟨x,pd,rfl⟩,?_⟩;have hm:h7 ds k ∈ im ds x:=b1.mpr ⟨k,tr,rfl⟩;simpa [lZ] using hm
  rw [hf] at this;cases this
 rcases abb j i with h | h | h
 .exact (half h af aj).elim
 .exact h
 .exact (half h aj af).elim
theorem dQ.ai5 (X:dQ n ds aZ) {j k:Nat} {d:bj} (hd:ds[k]? = some d):ip (Gc ds aZ) d.name=some j↔k ∈ nN aZ j:=by
 obtain ⟨hT,r,_,aC,iX,hm⟩:=ox (X.tell (cH hd));unfold Gc at iX;rw [da] at iX;obtain ⟨x,ag,rfl⟩:=vf.mp iX;have hm:d.name ∈ im ds x:=hm;have tr:k ∈ x.eS:=(ME X.aG (fun i ah=>X.lt (cH ag) ah) hd).mp hm;have fN:k ∈ nN aZ hT:=by rw [Hm ag];exact tr
 rw [aC];constructor
 .intro e;cases e;exact fN
 .intro h;rw [X.uniq h fN]
theorem dQ.sort (X:dQ n ds aZ) {j:Nat} (aM:j < aZ.length):h8 ds (Gc ds aZ) j=if M6 ds aZ j=true then eC else k5:=by
 have ag:=bc aM;obtain ⟨jr,r,e⟩:=tO (X.six aM).1;have i3:jr ∈ aZ[j].eS:=by rw [e];exact .head _
 have i7:=bc (X.lt (jq aM) i3);unfold h8 Gc;rw [da,ag];show dO ds (lZ ds aZ[j])=_;unfold dO lZ im;rw [e,eN,ll i7];show (((iJ ds _).map h1).getD _)=_;rw [lI X.aG i7];show h1 _=_;unfold h1 M6 OA;rw [Hm ag,e];show _=if decide ((ds[jr]?).map (·.k)=some 2)=true then eC else k5;rw [i7,C0];by_cases h:(ds[jr]'(X.lt (jq aM) i3)).k=2
 .rw [if_pos h,if_pos (decide_eq_true (congrArg some h))]
 .rw [if_neg h,if_neg (fun z=>h (dU (of_decide_eq_true z)))]
end
theorem TJ {ds:List bj} {aZ:List hb} {j:Nat} {x:hb} (h:aZ[j]? = some x):(Gc ds aZ)[j]? = some (lZ ds x):=by unfold Gc;rw [da,h];rfl
theorem iz.p8 {H I:au} {wl:Addr} {ds:List bj} (h:iz H wl ds) (s:iA H I):iz I wl ds:=by
 obtain ⟨qs,aq,aD,bL⟩:=h;exact ⟨qs,s.lst aq,aD,fun i q d a b=>s.tup (bL i q d a b)⟩
theorem nc.p8 {H I:au} {bt:Addr} {qs ms:List Addr} {aZ:List hb} (h:nc H bt qs ms aZ) (s:iA H I):nc I bt qs ms aZ:=
 ⟨s.lst h.at_,h.cw,h.cN,fun i q m x a b c=>⟨s.tup (h.al i q m x a b c).1,s.lst (h.al i q m x a b c).2⟩⟩
theorem dQ.TK {n:Int} {ds:List bj} {aZ:List hb} (X:dQ n ds aZ):qU ds (Gc ds aZ):=by
 refine ⟨fun d hd=>X.tell hd,fun r ak=>?_,fun r ak=>?_,by have:=X.F6;omega⟩
 .obtain ⟨x,ag,rfl⟩:=b1.mp ak;show (im ds x).length <= 12;unfold im;rw [a0];have:=(X.jR.bd x ag).2.2.2.1;omega
 .obtain ⟨x,ag,rfl⟩:=b1.mp ak;obtain ⟨j,aM,e⟩:=Ga ag;have:=X.sort aM;unfold h8 at this;rw [TJ (bc aM),e] at this;have this:dO ds (lZ ds x)=_:=this;rw [this];split
  .exact .inl rfl
  .exact .inr rfl
section
open PySem.Spec PyProof.Rows
variable {X:a3}
noncomputable def TY:V->List V->au->cJ->Prop:=fun x vs H Q=>∃ z,x=.str z/\vs=[]/\VY (tb z).length=false/\Q (.str (tb z)) H
theorem amh:uh X "str.upper" TY:=by
 intro aa s σ H x xs v us Q J bb cG h;obtain ⟨z,rfl,rfl,aJ,q⟩:=h;obtain ⟨t,rfl⟩:=bb;cases cG;exact PySem.SC.upper aJ ⟨.str _,H,J.tok _,⟨_,rfl⟩,q⟩
end
noncomputable def ou (x:Str):Str:=⟨(x.cps.toList.map fun c=>c - 32).toArray⟩
theorem Pj:∀ l:List Nat,(∀ c ∈ l,97 <= c/\c <= 122)->tb ⟨l.toArray⟩=⟨(l.map fun c=>c - 32).toArray⟩
 | [],_=>by ac_nf
 | c :: l,h=>by
  have av:=h c (.head _);have e:(⟨(c :: l).toArray⟩:Str)=⟨#[c]⟩ ++ ⟨l.toArray⟩:=alQ (by rw [k3];simp);rw [e,aot,ao8 (by omega),if_pos av,Pj l fun x ag=>h x (.tail _ ag)];exact alQ (by rw [k3];simp)
theorem aad {x:Str} (h:made x jJ 8=true):tb x=ou x/\VY (tb x).length=false:=by
 obtain ⟨⟨aj,a'⟩,af⟩:=nG h;have e:tb x=ou x:=by
  have:=Pj x.cps.toList af;rw [Array.toArray_toList] at this;rw [show (⟨x.cps⟩:Str)=x from rfl] at this;rw [this];rfl
 refine ⟨e,?_⟩;rw [e];have aA:(ou x).length=x.length:=by
  unfold ou;show ((x.cps.toList.map fun c=>c - 32).toArray).size=x.cps.size;simp
 unfold VY;rw [aA];exact decide_eq_false (RJ.mpr (cP a' (by decide)))
def kB (x:Str):Prop:=x.length <= 1000/\∀ c ∈ x.cps.toList,c < 16 ^ 8
def mB (ds:List bj) (x:Str):Prop:=∀ d ∈ ds,d.name ≠ x
def L9 (t:bM) (x:Str) (H:au) (E:dZ):Prop:=∀ ao I,aS H I->(aP H->aP I)->I ao=some (.ext (ka ao [(ae "name",.str x)]))->E (.ref t.lj) (some ao) I
def MF (t:bM):bP:=fun vs H Q _=>∃ x n,vs=[.ref x,.str n]/\kB n/\H x=some (.ext (fH x t.lj none)) /\
 ∀ ao,H ao=none->ao ≠ x->Q .bO (upd (upd H x (.ext (fH x t.lj (some ao)))) ao (.ext (ka ao [(ae "name",.str n)])))
def QZ (t:bM):bP:=fun vs H Q E=>∃ c n ds x,vs=[.ref c,.str x]/\fh t H c n ds/\kB x/\((∃ i:Nat,∃ d,ds[i]? = some d/\x=d.name/\Q (.int (i:Nat)) H)\/(mB ds x/\L9 t x H E))
def Uo (t:bM):bP:=fun vs H Q E=>∃ c n ds x,vs=[.ref c,.str x]/\fh t H c n ds/\kB x/\((∃ i:Nat,∃ d,ds[i]? = some d/\x=d.name/\∀ a,eB t H a d->Q (.ref a) H)\/(mB ds x/\L9 t x H E))
theorem YM:cu P base T 1 t.x_ t.A7 gL (MF t):=by
 exists T.Nb.ok ajM,9
 obtain ⟨x,n,rfl,aY,ag,q⟩:=h;refine ⟨_,(aW (dS (aaI rfl T.ahY T.aeY (ai (U 0) (ai (agJ (ack (aa2 (U 1) aeG)) (by rw [sizeLine_eq];decide)) aE))))
   (a6 (abd (U 0) (U 1) rfl))),?_⟩
 nofun;refine ⟨aY.1,aY.2,fun y=>⟨_,_,ag,T.Ca,?_⟩⟩;exact ⟨_,ag,T.Ca,T.Sa,q⟩
theorem Y8 (T:Txt w K mg t):b_ P w K mg base (kz P w) 3 t.sZ t.yA gL (QZ t):=by
 have aks:b_ P w K mg base dr 1 t.x_ t.A7 gL (MF t):=YM T;exists T.IT.Hs WK,9
 obtain ⟨c,n,ds,x,rfl,⟨⟨e7,fj⟩,ao,wl,aG,aq,aD,bL⟩,nS,aI⟩:=h;have br:=hh ak;refine ⟨_,(aW (dK (yC (Fg br (U 1) (bB (U 0) rfl))) (a6 (Zi (aeO T.wE aks ak rfl T.R6 T.ZT (ai (U 1) aE)) aip)) eu)
   (a6 (cg (ny br (bB (U 0) rfl) (U 1) (fun _ _=>rfl))))),?_⟩
 rcases aI with ⟨i,d,hd,rfl,q⟩ | ⟨ay,q⟩
 .have aF:cY (jX ds ds.length) (bT d.name)=some (.int i):=by
   rw [<- kL hd];exact Vi e7 (cv.mp hd).1 (bW _)
  have a5:fT H aG (.str d.name) (some (.int i)):=by rw [<- aF];exact fT.k (k:=bT d.name) bL
  nofun;refine dW false (fun Q a8=>?_) (fun av=>nomatch av) (fun _=>?_)
  .nofun;refine ⟨_,u0 T aq,_,rfl,_,a5,?_⟩;exact a8
  .nofun;exact ⟨_,u0 T aq,_,rfl,_,a5,q⟩
 .have aF:cY (jX ds ds.length) (bT x)=none:=ak2 ay (bW _);have a5:fT H aG (.str x) none:=by rw [<- aF];exact fT.k (k:=bT x) bL
  nofun;refine dW true (fun Q a8=>?_) (fun _=>?_) (fun av=>nomatch av)
  .nofun;refine ⟨_,u0 T aq,_,rfl,_,a5,?_⟩;exact a8
  .nofun;refine ⟨cP (show 1 <= 1000 by decide) (by decide),fun a aO=>⟨a,x,rfl,nS,aX,fun d hd bX=>?_⟩⟩;have j0:H d=none:=by rw [aH bX] at hd;exact hd
   refine ⟨rfl,t.lj,some d,by rw [aH (dg bX),aX],T.Ca,q d _ (fun b u e=>?_) (fun bN=>(((bN.upd).upd).upd).upd) (by rw [aH bX,aX])⟩;rw [aH (dj e aO),aH (dj e j0),aH (dj e aO),aH (dj e aO)];exact e
theorem acf (T:Txt w K mg t):b_ P w K mg base (kz P w) 4 t.r4 t.tm gL (Uo t):=by
 have ahQ:b_ P w K mg base (kz P w) 3 t.sZ t.yA gL (QZ t):=Y8 T;exists T.E8.Hs R5,9
 obtain ⟨c,n,ds,x,rfl,C,nS,aI⟩:=h;obtain ⟨⟨e7,fj⟩,ao,wl,aG,aq,⟨as,c9,dH,al⟩,bL⟩:=id C;refine ⟨_,(a6 (cg (cq lc (bB (U 0) rfl) (eX (U 0) T.hq T.RE ahQ ak T.Pe .nil WD (ai (U 1) aE))))),?_⟩;nofun;refine ⟨_,E9 T aq,_,_,aq,jk _ _ _ (by ac_nf),⟨c,n,ds,x,rfl,C,nS,?_⟩⟩;rcases aI with ⟨i,d,hd,ex,q⟩ | ⟨ay,q⟩
 .refine .inl ⟨i,d,hd,ex,?_⟩;have ah:i < as.length:=by rw [dH];exact (cv.mp hd).1
  have aO:as[i]? = some as[i]:=bc ah;nofun;refine ⟨_,aB.of c9,_,cB (show (as.map V.ref)[i]? = some (V.ref as[i]) by rw [da,aO];rfl),?_⟩;exact q as[i] (al i _ d aO hd)
 .exact .inr ⟨ay,q⟩
theorem Yo {x:Str} (h:made x jJ 8=true):kB x:=by
 obtain ⟨⟨_,a'⟩,af⟩:=nG h;exact ⟨by omega,fun c av=>by have:=af c av;omega⟩
def Rh (P:Program) (w:World) (t:bM):bP:=fun vs H Q E=>∃ k aU az aT s c n ds rows a ys x zs,vs=[.ref k,.ref a]/\d_ t H k aU az aT s/\gp P w t H aU c n ds rows/\H a=some (.lst (aL (ys ++ x :: zs)))/\(∀ d ∈ ds,kB d.name)/\(∀ y ∈ ys,y ∈ ds.map (·.name))/\mB ds x/\kB x/\L9 t x H E
theorem ZI (T:Txt w K mg t) (cj:mS base t.n' Pt) (hg:base.BuiltinsAt mg Pt):b_ P w K mg base (kz P w) 5 t.rJ t.s6 tx (Rh P w t):=by
 have aeW:b_ P w K mg base (kz P w) 4 t.r4 t.tm gL (Uo t):=acf T;have pA:b_ P w K mg base dr 4 t.uL t.xx ["self"] (GF P w t):=BB T;have Ma:b_ P w K mg base dr 4 t.x2 t.zv pe (R8 P w t Pt):=Q6 T cj hg;exists T.JL.Hs mC,9
 obtain ⟨k,aU,az,aT,s',c,n,ds,rows,a,ys,x,zs,rfl,e8,dC,aO,nS,v',ag,me,q⟩:=h;obtain ⟨_,ao,bG,cT,dY⟩:=id e8;obtain ⟨jN,le,mo,c4,c1,aQ,ch,ms,kvs,aq,C,bL,ek,fG,es,gw,j8,kq⟩:=id dC;obtain ⟨⟨e7,fj⟩,CC,wl,aG,cc,_,_⟩:=id C;have br:=hh ak;refine ⟨_,(aW (fU (Ol ⟨rfl,rfl⟩) rfl (eA (U 1)) (Db (i:=2) mC.aG) (a6 (dS (eX (bB (bB (U 0) rfl) rfl) T.hq T.mW aeW ak T.mM .nil WD (ai (U 2) aE)))))
   (aW (b5 (i:=3) mC.aG (gc (U 0) T.dI T.tN pA ak T.td .nil cx))
   (aW (b5 (i:=4) mC.aG am)
   (aW (fU (Ol ⟨rfl,rfl⟩) rfl (eA (U 1)) (Db (i:=2) mC.aG) (a6 (dK (c_ e5 (ny br (U 3) (U 2) (fun _ _=>rfl)) cX (cC _)) (a6 (b5 (i:=4) mC.aG am)) (a6 (p0 br (bB (U 0) rfl) (U 2) am rfl)))))
   (aW (dS (eX (U 0) T.dI T.VP Ma ak T.Ou .nil cx (ai (U 4) aE)))
   (a6 (cg (U 3)))))))),?_⟩
 simp only [dG];refine qK (fun ax I=>False) (fun fk cL _ _ _=>?_) (fun ax I h=>h.elim);nofun;refine ⟨⟨_,aB.of aO⟩,?_⟩;refine d3.list (xs:=aL (ys ++ x :: zs)) (fun i σ I=>I=H/\i <= ys.length/\∃ NC Lq uf,σ=[~~~k,~~~a,NC,Lq,uf]) ⟨rfl,fC _,_,_,_,rfl⟩ (fun i σ I ah h=>?_) ?_ ?_
 .rw [h.1];exact aB.of aO
 .rintro i v σ I aF bl;ac_rfl
  obtain ⟨rfl,ah,NC,Lq,uf,rfl⟩:=bl;subst ba;unfold aL at aF;obtain ⟨z,aJ,rfl⟩:=cf aF;simp only [ht,ly,k'];nofun;refine ⟨_,iq T bG,_,rfl,_,vp T aq,_,rfl,_,_,cc,jk _ _ _ (by ac_nf),c,n,ds,z,rfl,C,?_⟩;rcases Nat.lt_or_eq_of_le ah with af | af
  .rw [tP af] at aJ;obtain ⟨d,hd,ho⟩:=b1.mp (v' z (cH aJ));obtain ⟨j,aM⟩:=iN hd;exact ⟨by rw [<- ho];exact nS d hd,.inl ⟨j,d,aM,ho.symm,fun a W=>⟨rfl,af,_,rfl⟩⟩⟩
  .rw [af,sf (bW _),Nat.sub_self] at aJ;cases aJ;exact ⟨me,.inr ⟨ag,q⟩⟩
 .rintro σ I ⟨_,ah,_⟩;rw [eF,ec,hi] at ah;omega
noncomputable def JM (x:Str):Str:=ae "no " ++ x
def acm (P:Program) (w:World) (t:bM):bP:=fun vs H Q _=>∃ k aU az aT s c n ds rows a ys x zs,vs=[.ref k,.ref a]/\d_ t H k aU az aT s/\gp P w t H aU c n ds rows/\H a=some (.lst (aL (ys ++ x :: zs)))/\(∀ d ∈ ds,kB d.name)/\(∀ y ∈ ys,y ∈ ds.map (·.name))/\mB ds x/\kB x/\aP H/\∀ I,aS H I->aP I->Q (.str (JM x)) I
theorem aiV (cj:mS base t.n' Pt) (hg:base.BuiltinsAt mg Pt):cu P base T 6 t.GR t.Hl Jh (acm P w t):=by
 have aj0:b_ P w K mg base (kz P w) 5 t.rJ t.s6 tx (Rh P w t):=ZI T cj hg;exists T.H_.ok yT,9
 obtain ⟨k,aU,az,aT,s',c,n,ds,rows,a,ys,x,zs,rfl,e8,dC,aO,nS,v',ag,me,bN,q⟩:=h;obtain ⟨_,ao,bG,cT,dY⟩:=id e8;have br:=hh ak;refine ⟨_,(aW (b5 (i:=2) yT.aG cX)
   (aW (XX (i:=3) (fun _ _=>⟨_,(a6 (dS (aeK (U 0) T.dI T.Ng aj0 ak T.Sd .nil abz (ai (U 1) aE)))),by first | rfl | (dsimp only [a3.i0,a3.aY];done) | (dsimp only [a3.i0,a3.aY];exact rfl)⟩) rfl T.R6 (fun _=>⟨_,(a6 (b5 (i:=2) yT.aG (bF jM cX (aaK (U 3) rfl)))),by first | rfl | (dsimp only [a3.i0,a3.aY];done) | (dsimp only [a3.i0,a3.aY];exact rfl)⟩) yT.aG rfl rfl)
   (a6 (cg (U 2))))),?_⟩
 nofun;refine ⟨_,_,bG,ib _ _ _ _ _ _ _ _ (by ac_nf),k,aU,az,aT,s',c,n,ds,rows,a,ys,x,zs,rfl,e8,dC,aO,nS,v',ag,me,fun aoJ I bR akw hd=>?_⟩;nofun;refine ⟨_,rfl,T.aaC,fun e he=>?_⟩;nofun;exact ⟨_,_,he,_,hd,T.Ca,T.Sa,_,rfl,_,rfl,cP (show _ <= 1003 by have:=me.1;rw [show (ae "no ").length=3 by ac_nf];omega) (by decide),q I bR (akw bN)⟩
theorem eq_str {K:a_} {H:au} {k:Nat} (x:Str):e0 K H k (.str x) (.str x) true:=by
 have:=e0.flat (K:=K) (H:=H) (k:=k) (x:=.str x) (y:=.str x) rfl rfl;rwa [show iW (.str x) (.str x)=true by simp [iW]] at this
theorem Ss {H I:au} {l:Addr} {as:List Addr} {kvs:List (Key × V)} (h:Ec H I l as kvs) (bN:aP H):aP I:=fun b o e=>by
 rcases h.only b o e with z | rfl | ⟨q,_,rfl⟩
 .exact bN b o z
 .rfl
 .rfl
def lF (H:au) (l:Addr) (ds:List bj) (f:bj->Str):Prop:=∃ as:List Addr,H l=some (.lst (as.map V.ref))/\as.length=ds.length/\∀ (m:Nat) (a:Addr) (d:bj),as[m]? = some a->ds[m]? = some d->H a=some (.tup [.str d.name,.str (f d)])
theorem lF.of (h:Ec H I l as (eG ds f)):lF I l ds f:=
 ⟨as,h.at_,by rw [h.len];unfold eG;rw [a0],fun m a d aO hd=>h.al m a (bT d.name,.str (f d)) aO (by unfold eG;rw [da,hd];rfl)⟩
theorem lF.keep (h:lF H l ds f) (af:∀ u,H l=some u->I l=some u) (aj:∀ q xs,H q=some (.tup xs)->I q=some (.tup xs)):lF I l ds f:=by
 obtain ⟨as,a1,a2,fX⟩:=h;exact ⟨as,af _ a1,a2,fun m a d aO hd=>aj _ _ (fX m a d aO hd)⟩
theorem lF.eq2 {K:a_} {l cN:Addr} (h:lF H l ds f) (g:lF H cN ds f):e0 K H 2 (.ref l) (.ref cN) true:=by
 obtain ⟨as,aq,af,a1⟩:=h;obtain ⟨qs,aD,aj,a2⟩:=g;have:=e0.lst (k:=1) (e:=fun _=>true) (aB.of (K:=K) aq) (aB.of aD) (by rw [a0,a0,af,aj]) (fun j x y ag bh=>by
  obtain ⟨a,aO,rfl⟩:=cf ag;obtain ⟨q,aI,rfl⟩:=cf bh;have aM:j < ds.length:=by rw [<- af];exact (cv.mp aO).1
  have hd:ds[j]? = some ds[j]:=bc aM;have:=e0.tup (k:=0) (e:=fun _=>true) (c0.of (K:=K) (a1 j a _ aO hd)) (c0.of (a2 j q _ aI hd)) (fun j x y af aj=>by
   match j,af,aj with
   | 0,af,aj=>cases af;cases aj;exact eq_str _
   | 1,af,aj=>cases af;cases aj;exact eq_str _
   | j + 2,af,_=>simp at af)
  exact this)
 rwa [show ((fF (as.map V.ref).length).all fun _=>true)=true from nX.mpr fun _ _=>rfl] at this
theorem aiD {K:a_} {b e9 l cN c9 dH:Addr} {b6:Option Nat} (af:H b=some (.tup [jd b6,.ref l,.ref c9])) (aj:H e9=some (.tup [jd b6,.ref cN,.ref dH])) (i1:lF H l ds f) (i2:lF H cN ds f) (aq:H c9=some (.lst (aL xs))) (aD:H dH=some (.lst (aL xs))):e0 K H 8 (.ref b) (.ref e9) true:=by
 have hf:iT (jd b6)=true:=by cases b6 <;> rfl
 have w:e0 K H 7 (.ref c9) (.ref dH) true:=by
  have:=e0.Mo (k:=6) (aB.of (K:=K) aq) (aB.of aD) (fun a aO b ab=>by
   unfold aL at aO ab;obtain ⟨x,_,rfl⟩:=b1.mp aO;obtain ⟨y,_,rfl⟩:=b1.mp ab
   rfl)
  rwa [decide_eq_true rfl] at this
 have s:e0 K H 7 (jd b6) (jd b6) true:=by
  have:=e0.flat (K:=K) (H:=H) (k:=7) hf hf;rwa [D' hf] at this
 have i:e0 K H 7 (.ref l) (.ref cN) true:=(i1.eq2 i2).mono (by decide);have:=e0.tup (k:=7) (e:=fun _=>true) (c0.of (K:=K) af) (c0.of aj) (fun j x y a b=>by
  match j,a,b with
  | 0,a,b=>cases a;cases b;exact s
  | 1,a,b=>cases a;cases b;exact i
  | 2,a,b=>cases a;cases b;exact w
  | j + 3,a,_=>simp at a)
 exact this
theorem R9 (h:∀ d ∈ ds,jV n d) (bh:¬ ((1 <= y.length/\y.length <= 8)/\∀ c ∈ y.cps.toList,97 <= c/\c <= 122)):mB ds y:=fun d hd e=>bh (by rw [<- e];exact nG (h d hd).nm)
theorem Io (h:∀ d ∈ ds,jV n d) (aA:y.length <= 40) (av:c ∈ y.cps.toList) (aY:c < 97) (ay:∀ c ∈ y.cps.toList,c <= 1000):kB y/\mB ds y:=
 ⟨⟨by omega,fun c av=>by have:=ay c av;omega⟩,R9 h fun z=>by have:=z.2 c av;omega⟩
theorem DB {x:Str} (h:made x jJ 8=true):x.length <= 8/\1 <= x.length/\∀ c ∈ x.cps.toList,c <= 1000:=by
 obtain ⟨⟨af,aj⟩,a'⟩:=nG h;exact ⟨aj,af,fun c av=>by have:=a' c av;omega⟩
theorem ajS (h:∀ d ∈ ds,jV n d) {x:Str} (ag:made x jJ 8=true):kB (ou x)/\mB ds (ou x):=by
 obtain ⟨⟨af,aj⟩,a'⟩:=nG ag;have e:(ou x).cps.toList=x.cps.toList.map fun c=>c - 32:=by unfold ou;simp
 have Mm:(ou x).length=x.length:=by
  show (ou x).cps.size=x.cps.size;rw [<- nt,e,a0,nt]
 obtain ⟨c,r,av⟩:∃ c r,x.cps.toList=c :: r:=by
  cases de:x.cps.toList with
  | nil=>
   have:x.cps.size=0:=by rw [<- nt,de];rfl
   have af:1 <= x.cps.size:=af;omega
  | cons c r=>exact ⟨c,r,rfl⟩
 have sr:=a' c (by rw [av];exact .head _);refine Io h (c:=c - 32) (by rw [Mm];omega) (by rw [e,av];exact .head _) (by omega) fun z aJ=>?_
 rw [e] at aJ;obtain ⟨hv,gk,rfl⟩:=b1.mp aJ;have:=a' hv gk;omega
theorem ags (h:∀ d ∈ ds,jV n d) {x:Str} (ag:made x jJ 8=true):kB (ae "A" ++ x)/\mB ds (ae "A" ++ x):=by
 obtain ⟨af,_,a'⟩:=DB ag;have e:(ae "A" ++ x).cps.toList=65 :: x.cps.toList:=by rw [k3,lX];rfl
 have Mm:(ae "A" ++ x).length=x.length + 1:=by
  show (ae "A" ++ x).cps.size=x.cps.size + 1;rw [<- nt,e,hi,nt]
 refine Io h (c:=65) (by omega) (by rw [e];exact .head _) (by decide) fun z aJ=>?_
 rw [e] at aJ;rcases fi.mp aJ with z | z
 .omega
 .exact a' _ z
theorem ahX (h:∀ d ∈ ds,jV n d) {x:Str} (ag:made x jJ 8=true):kB (x ++ ae " ")/\mB ds (x ++ ae " "):=by
 obtain ⟨af,_,a'⟩:=DB ag;have e:(x ++ ae " ").cps.toList=x.cps.toList ++ [32]:=by rw [k3,lX];rfl
 have Mm:(x ++ ae " ").length=x.length + 1:=by
  show (x ++ ae " ").cps.size=x.cps.size + 1;rw [<- nt,e,ec,nt];rfl
 refine Io h (c:=32) (by omega) (by rw [e];exact ko _ (.head _)) (by decide) fun z aJ=>?_
 rw [e] at aJ;rcases hI.mp aJ with z | z
 .exact a' _ z
 .rw [gg.mp z];decide
theorem afA (h:∀ d ∈ ds,jV n d):kB (ae "")/\mB ds (ae ""):=
 ⟨⟨by ac_nf,fun c av=>by rw [show (ae "").cps.toList=[] by ac_nf] at av;cases av⟩,R9 h fun z=>absurd z.1.1 (by ac_nf)⟩
theorem abU (h0:0 <= i) (af:i < 4) {p:Str->Prop} (Bz:p v0) (fc:p v1) (eY:p v2) (j9:p Wg):∃ y,p y/\f3 [V.str v0,V.str v1,V.str v2,V.str Wg] i=some (.str y):=by
 have:i=0\/i=1\/i=2\/i=3:=by omega
 rcases this with rfl | rfl | rfl | rfl
 .exact ⟨v0,Bz,cB (j:=0) rfl⟩
 .exact ⟨v1,fc,cB (j:=1) rfl⟩
 .exact ⟨v2,eY,cB (j:=2) rfl⟩
 .exact ⟨Wg,j9,cB (j:=3) rfl⟩
theorem V1 (h:xs[xs.length - 1]? = some v):f3 xs (-1)=some v:=by
 have aA:0 < xs.length:=by have:=(cv.mp h).1;omega
 unfold f3 pH;rw [if_neg (by decide),if_pos (by omega)];rw [show ((-1 + (xs.length:Int)).toNat)=xs.length - 1 by omega];exact h
def T6 (P:Program) (w:World) (K:a_) (t:bM) (a:Addr) (ns:List Int):bP:=fun vs H Q _=>∃ turn:Int,∃ k wl ap aU az aT s c n ds rows xs,vs=[.ref a,.int turn,.ref k,.ref wl,.ref ap]/\Sc K a ns H/\(0 <= turn/\turn <= 100)/\iz H wl ds/\(∀ d ∈ ds,jV n d)/\(1 <= ds.length/\ds.length <= 12)/\d_ t H k aU az aT s/\gp P w t H aU c n ds rows/\(∀ d ∈ ds,told rows d.name=true)/\z4 rows s/\H ap=some (.lst (aL xs))/\xs.length <= 13/\(∀ x ∈ xs,x ∈ ds.map (·.name))/\∀ I,aS H I->aP I->Q (.bo true) I
theorem ajh (a:Addr) (ns:List Int) (gx:ns.length <= 63) (cj:mS base t.n' Pt) (hg:base.BuiltinsAt mg Pt):cu P base T 7 t.Bf t.Bd CA (T6 P w K t a ns):=by
 refine cy (xE T a ns gx) fun eE=>cy (aiV T cj hg) fun agq=>cy (akX T) fun OW=>cy (BB T) fun pA=>cy (UA T) fun Dl=>?_;exists T.HA.ok BH,9
 obtain ⟨turn,k,wl,ap,aU,az,aT,s',c,n,ds,rows,xs,rfl,S,abB,JB,a4,fj,e8,dC,kr,xX,Fv,hn,hF,q⟩:=h;obtain ⟨qs,u1,ED,ze⟩:=JB;have br:=hh ak;have rS:=Ql ak;refine ⟨_,(aW (b5 (i:=5) BH.aG (cq lc (ha (ai cX (ai (vP sH PySem.F.slot_str_upper PySem.F.type_str_upper amh (cq fP (cq lc (U 3) aR) aR)) (ai (bF jM cX (cq fP (cq lc (U 3) (Ko J3 aR)) aR)) (ai (bF jM (cq fP (cq lc (U 3) aR) aR) cX) aE))))) (cn eE ak T.fm T.eU.bH T.fs (ai (U 0) (ai (bF dT aR (U 1)) (ai aR aE))))))
   (aW (b5 (i:=6) BH.aG (lg Oe rfl T.yc yd (ai (U 4) aE)))
   (aW (dS (gm ie zw IJ Cn (U 6) (ai (cn eE ak T.fm T.eU.bH T.fs (ai (U 0) (ai (bF dT aR (U 1)) (ai (bF dT (gD h4 rfl T.hR hW (ai (U 4) aE)) aR) aE)))) (ai (U 5) aE))))
   (aW (dS (gm ie lE mK Re (U 6) (ai cX aE)))
   (aW (b5 (i:=7) BH.aG (ls (ai (gc (U 2) T.dI T.Sg OW ak T.NH .nil cx) (ai (lg (Nj rfl) rfl T.yc yd (ai (vP E7 FD Rk HG (gc (U 2) T.dI T.tN pA ak T.td .nil cx)) aE)) (ai (gc (U 2) T.dI T.F' Dl ak T.EP .nil cx) aE)))))
   (aW (dK (c_ qO (cn agq ak T.Z' T.H_.bH T.ajC (ai (U 2) (ai (U 6) aE))) (bF jM cX (U 5)) (cC _)) (a6 (cg am)) eu)
   (a6 (cg (hO (ahI rS) (U 7) (ls (ai (gc (U 2) T.dI T.Sg OW ak T.NH .nil cx) (ai (lg (Nj rfl) rfl T.yc yd (ai (vP E7 FD Rk HG (gc (U 2) T.dI T.tN pA ak T.td .nil cx)) aE)) (ai (gc (U 2) T.dI T.F' Dl ak T.EP .nil cx) aE)))) (cC _)))))))))),?_⟩
 obtain ⟨i7,j0⟩:∃ d,ds[0]? = some d:=⟨_,bc (show 0 < ds.length by omega)⟩;obtain ⟨R1,Qi⟩:∃ d,ds[ds.length - 1]? = some d:=⟨_,bc (show ds.length - 1 < ds.length by omega)⟩;have yM:=(a4 i7 (cH j0)).nm;have NM:=(a4 R1 (cH Qi)).nm;obtain ⟨Q',oD⟩:∃ q,qs[0]? = some q:=⟨_,bc (show 0 < qs.length by omega)⟩;obtain ⟨abT,Vp⟩:∃ q,qs[ds.length - 1]? = some q:=⟨_,bc (show ds.length - 1 < qs.length by omega)⟩;have t0:=ze 0 _ _ oD j0;have tz:=ze _ _ _ Vp Qi;obtain ⟨mU,Dn⟩:=aad yM;exists (fun ax I=>aS H I/\Sc K a ns I/\∃ y,(kB y/\mB ds y)/\ax=[~~~a,some (.int turn),~~~k,~~~wl,~~~ap,some (.str y),none,none]),3
 ·(nofun; repeat (dsimp only [hJ];nofun));simp only [TY];nofun;have aon:=(DB yM).1;have aoU:=(DB NM).1;have MG:f3 (qs.map V.ref) 0=some (.ref Q'):=cB (j:=0) (by rw [da,oD];rfl);have ag2:f3 (qs.map V.ref) (-1)=some (.ref abT):=V1 (by rw [a0,ED,da,Vp];rfl);have small:∀ k:Nat,k <= 1000->k <= sizeLine:=fun k h=>cP h (by decide)
  have apc:(ae "A").length=1:=by ac_nf
  have aoq:(ae " ").length=1:=by ac_nf
  refine ⟨_,aB.of u1,_,MG,_,rfl,_,c0.of t0,_,cB (j:=1) rfl,trivial,_,rfl,Dn,_,aB.of u1,_,ag2,_,rfl,_,c0.of tz,_,cB (j:=1) rfl,_,rfl,small _ (by omega),_,aB.of u1,_,MG,_,rfl,_,c0.of t0,_,cB (j:=1) rfl,_,rfl,small _ (by omega),by decide,fun p ar=>⟨S.new ar,by omega,by omega,by decide,?_⟩⟩;obtain ⟨y,bh,aeC⟩:=abU (g8 ns (1500 + turn) (m:=4) (by decide)) (gX ns (1500 + turn) (m:=4) (by decide)) (p:=fun y=>kB y/\mB ds y) (afA a4) (v1:=tb i7.name) (by rw [mU];exact ajS a4 yM) (ags a4 NM) (ahX a4 yM);exact ⟨_,aB.of aX,_,aeC,cL _ _ ⟨bq ar,S.new ar,y,bh,rfl⟩⟩
 rintro f_ H1 ⟨s1,lJ,y,⟨MJ,akA⟩,rfl⟩;subst ba;exists (fun ax I=>aS H I/\Sc K a ns I/\∃ ar,H ar=none/\I ar=some (.lst (aL xs))/\ax=[~~~a,some (.int turn),~~~k,~~~wl,~~~ap,some (.str y),~~~ar,none]),3
 .nofun;exact ⟨_,.inl (aB.of (s1 _ _ Fv)),fun l aA=>cL _ _ ⟨s1.trans (bq aA),lJ.new aA,l,s1.free aA,aX,rfl⟩⟩
 rintro cz aw ⟨s2,lV,ar,sI,gB,rfl⟩;subst ba;exists (fun ax I=>aS H I/\Sc K a ns I/\∃ ys zs,I ar=some (.lst (aL (ys ++ y :: zs)))/\(∀ x ∈ ys,x ∈ ds.map (·.name))/\(ys ++ y :: zs).length <= 14/\ax=[~~~a,some (.int turn),~~~k,~~~wl,~~~ap,some (.str y),~~~ar,none]),3
 ·(nofun; repeat (dsimp only [hJ];nofun));have Xj:(aL xs).length=xs.length:=eF ..;have g1:=g8 ns (1600 + turn) (m:=(xs.length:Int) + 1) (by omega);have g2:=gX ns (1600 + turn) (m:=(xs.length:Int) + 1) (by omega);refine ⟨oj ⟨_,aB.of gB⟩,_,.inl (aB.of (s2 _ _ Fv)),lV,by omega,by omega,by omega,_,gB,?_⟩;rw [Xj];generalize dh ns (1600 + turn) ((xs.length:Int) + 1)=g at g1 g2;refine ⟨g1,by omega,by omega,gQ hn (by decide),cL _ _ ⟨s2.fY sI,lV.set gB (by intro _ _ z;cases z),xs.take g.toNat,xs.drop g.toNat,?_,fun x ag=>hF x (ua ag),?_,rfl⟩⟩
  .rw [aX];unfold aL;rw [fS,eN,UJ,ahu]
  .rw [ec,hi,hE,sl];omega
 rintro gb bw ⟨s3,nF,ys,zs,yz,v',vc,rfl⟩;subst ba;exists (fun ax I=>aS H I/\Sc K a ns I/\∃ zs,I ar=some (.lst (aL (ys ++ y :: zs)))/\ax=[~~~a,some (.int turn),~~~k,~~~wl,~~~ap,some (.str y),~~~ar,none]),3
 .nofun;refine ⟨oj ⟨_,aB.of yz⟩,_,yz,by rw [eF];exact gQ vc (by decide),cL _ _ ⟨s3.fY sI,nF.set yz (by intro _ _ z;cases z),zs ++ [ae "zzzzzzzzz"],?_,rfl⟩⟩;rw [aX];unfold aL;rw [<- yD,<- pG,fS (l₁:=ys ++ y :: zs)];rfl
 rintro kT cS ⟨s4,iB,aey,Ky,rfl⟩;subst ba;exists (fun ax I=>aS cS I/\aP I/\∃ wz l wp,I wz=some (.tup [jd s'.b6,.ref l,.ref wp])/\lF I l ds (fB n ds rows s')/\I wp=some (.lst (aL ((ds.map (·.name)).filter fun x=>decide (x ∈ s'.wt))))/\ax=[~~~a,some (.int turn),~~~k,~~~wl,~~~ap,some (.str y),~~~ar,~~~wz]),3
 .nofun;have l5:=e8.same s4;obtain ⟨_,BG,Q4,_,_⟩:=id l5;refine ⟨_,_,Q4,ib _ _ _ _ _ _ _ _ (by ac_nf),k,aU,az,aT,s',rfl,l5,_,_,Q4,ib _ _ _ _ _ _ _ _ (by ac_nf),k,aU,az,aT,s',c,n,ds,rows,rfl,l5,dC.same s4,kr,xX,iB.bN,fun p fL HF Yq anh EW=>⟨.inr (.inr (.inl (.inl ⟨_,EW⟩))),p,rfl,_,EW,fun cW iL=>⟨_,aX,_,(bq iL) _ _ EW,fun l as g9 r2=>?_⟩⟩⟩;have vH:=(HF.trans (bq iL)).trans r2.same;have lL:=Ss r2 Yq.upd;have Tu:=l5.same vH;obtain ⟨_,adt,ad9,_,_⟩:=id Tu;refine ⟨_,_,ad9,ib _ _ _ _ _ _ _ _ (by ac_nf),k,aU,az,aT,s',c,n,ds,rows,rfl,Tu,dC.same (s4.trans vH),fun wp fM n4 ZP dP alj=>⟨by decide,fun wz zC=>cL _ _ ⟨(vH.trans n4).trans (bq zC),(ZP lL).upd,wz,l,wp,aX,(lF.of r2).keep (fun u e=>(n4.trans (bq zC)) _ _ e) (fun q xs e=>(n4.trans (bq zC)) _ _ e),(bq zC) _ _ alj,rfl⟩⟩⟩
 rintro rO d1 ⟨s5,jC,wz,apI,wp,afQ,abM,yG,rfl⟩;have yO:=s4.trans s5;have pq:=e8.same yO;subst ba;simp only [dG];refine tI (fun l4 fL=>l4=false/\aS d1 fL/\aP fL) (fun jf a8=>?_) (fun fL r=>(by cases r.1)) (fun fL r=>?_)
 .nofun;refine ⟨k,aU,az,aT,s',c,n,ds,rows,ar,ys,y,aey,rfl,pq,dC.same yO,s5 _ _ Ky,fun d hd=>Yo (a4 d hd).nm,v',akA,MJ,jC,fun fL HF kk=>?_⟩;refine ⟨cP (show _ <= 1003 by have:=MJ.1;rw [show (ae "no ").length=3 by ac_nf];omega) (by decide),rfl,?_⟩;show jf (!decide (V.str (JM y)=V.str (JM y))) fL;rw [decide_eq_true rfl];exact a8 _ _ ⟨rfl,HF,kk⟩
 obtain ⟨_,h2,kk⟩:=r;have qz:=yO.trans h2;have t4:=e8.same qz;obtain ⟨_,ae7,V',_,_⟩:=id t4;simp only [iy];nofun;refine ⟨_,_,V',ib _ _ _ _ _ _ _ _ (by ac_nf),k,aU,az,aT,s',rfl,t4,_,_,V',ib _ _ _ _ _ _ _ _ (by ac_nf),k,aU,az,aT,s',c,n,ds,rows,rfl,t4,dC.same qz,kr,xX,kk,fun p g9 vH agX amZ L'=>⟨.inr (.inr (.inl (.inl ⟨_,L'⟩))),p,rfl,_,L',fun cW iL=>⟨_,aX,_,(bq iL) _ _ L',fun l as fM r2=>?_⟩⟩⟩;have n4:=(vH.trans (bq iL)).trans r2.same;have ry:=Ss r2 agX.upd;have um:=t4.same n4;obtain ⟨_,UM,aaT,_,_⟩:=id um;refine ⟨_,_,aaT,ib _ _ _ _ _ _ _ _ (by ac_nf),k,aU,az,aT,s',c,n,ds,rows,rfl,um,dC.same (qz.trans n4),fun QV mi tM adu ao0 ab_=>⟨by decide,fun an7 Kd=>?_⟩⟩;have xA:=((h2.trans n4).trans tM).trans (bq (o:=.tup [jd s'.b6,.ref l,.ref QV]) Kd);have MU:=tM.trans (bq (o:=.tup [jd s'.b6,.ref l,.ref QV]) Kd);exact ⟨_,aiD (xA _ _ afQ) aX (abM.keep (fun u e=>xA _ _ e) (fun q xs e=>xA _ _ e)) ((lF.of r2).keep (fun u e=>MU _ _ e) (fun q xs e=>MU _ _ e)) (xA _ _ yG) ((bq Kd) _ _ ab_),q _ (yO.trans xA) (adu ry).upd⟩
theorem X8 {rows:List ST} (R:qU ds rows) (k:i9 ds rows s) (h:q2 n ds rows s own s') (ay:s.b6=some g) (a5:s'.b6=some g):s' = { s with c5:=s.c5 + 1 }:=by
 have cK:=k.told R;rcases h with ⟨h0,_⟩ | ⟨g_,cV,j3,eg,fO,rfl⟩ | ⟨g_,cV,g',zM,j3,eg,fO,P,I8,rfl⟩
 .rw [ay] at h0;cases h0
 .rfl
 .exfalso;rw [ay] at j3;cases j3;have o7:g' ≠ g:=fun e=>by
   obtain ⟨x,ag,de⟩:=Hd cK P.1;exact (k.b6 g ay).2 x ag (e ▸ de)
  unfold kU at a5;split at a5
  .cases a5
  .exact o7 (dU a5)
theorem YY {rows:List ST} (h:q2 n ds rows s own s') (a5:s'.b6=none):s'.wt=s.wt:=by
 rcases h with ⟨h0,r,ak,rfl⟩ | ⟨g_,cV,j3,eg,fO,rfl⟩ | ⟨g_,cV,g',zM,j3,eg,fO,P,I8,rfl⟩
 .unfold kU at a5 ⊢;split
  .rfl
  .rename_i c;rw [if_neg c] at a5;cases a5
 .rfl
 .unfold kU at a5 ⊢;split
  .rfl
  .rename_i c;rw [if_neg c] at a5;cases a5
theorem ZO {rows:List ST} (k:i9 ds rows s) (h:q2 n ds rows s own s') (ay:s.b6 ≠ some g) (a5:s'.b6=some g) (hm:∀ r,rows[g]? = some r->∀ x ∈ ds.map (·.name),(x ∈ r.mem↔ip rows x=some g)):∀ x,x ∈ s'.wt↔x ∈ s.wt/\ip rows x ≠ some g:=by
 have fin:∀ (u:f') (r:ST),u.b6=none->u.wt=s.wt->rows[u.bC]? = some r->(kU n ds rows u r.mem).b6=some g->∀ x,x ∈ (kU n ds rows u r.mem).wt↔x ∈ s.wt/\ip rows x ≠ some g:=fun u r h0 hw ak a5 x=>by
  unfold kU at a5 ⊢;split
  .rename_i c;rw [if_pos c,h0] at a5;cases a5
  .rename_i c;rw [if_neg c] at a5;have e:u.bC=g:=dU a5;show x ∈ u.wt.filter _↔_;rw [kV,hw];refine and_congr_right fun ag=>?_
   have:=hm r (e ▸ ak) x (k.az x ag);rw [Bool.not_eq_true',decide_eq_false_iff_not];exact not_congr this
 rcases h with ⟨h0,r,ak,rfl⟩ | ⟨g_,cV,j3,eg,fO,rfl⟩ | ⟨g_,cV,g',zM,j3,eg,fO,P,I8,rfl⟩
 .exact fin _ _ h0 rfl ak a5
 .exact absurd a5 ay
 .exact fin (Bb s g_ g' (dO ds zM)) zM rfl rfl I8 a5
section
variable {n:Int} {ds:List bj} {aZ:List hb}
theorem dQ.aiz (X:dQ n ds aZ) (ak:(Gc ds aZ)[g]? = some r) {x:Str} (ag:x ∈ ds.map (·.name)):x ∈ r.mem↔ip (Gc ds aZ) x=some g:=by
 obtain ⟨d,hd,rfl⟩:=b1.mp ag;obtain ⟨k,aC⟩:=iN hd;unfold Gc at ak;rw [da] at ak;obtain ⟨y,bh,rfl⟩:=vf.mp ak;rw [X.ai5 aC,Hm bh];exact ME X.aG (fun i ah=>X.lt (cH bh) ah) aC
end
theorem adU (X:dQ n ds aZ) (k:i9 ds (Gc ds aZ) s) (h:q2 n ds (Gc ds aZ) s own s') (x:Str):x ∈ s'.wt↔x ∈ s.wt/\hK (Gc ds aZ) s' x=false:=by
 have R:=X.TK;cases ay:s'.b6 with
 | none=>
  rw [YY h ay];unfold hK;rw [ay];simp
 | some g=>
  have ahk:hK (Gc ds aZ) s' x=decide (ip (Gc ds aZ) x=some g):=by unfold hK;rw [ay]
  rw [ahk];by_cases aC:s.b6=some g
  .have aV:=X8 R k h aC ay;have hw:s'.wt=s.wt:=by rw [aV]
   rw [hw];refine ⟨fun ag=>⟨ag,decide_eq_false ((k.b6 g aC).2 x ag)⟩,fun ag=>ag.1⟩
  .rw [ZO k h aC ay (fun r ak x ag=>X.aiz ak ag) x];exact and_congr_right fun _=>by rw [decide_eq_false_iff_not]
noncomputable def qC (ys:List Str) (x:Str):List Str:=if x ∈ ys then ys else ys ++ [x]
theorem aj9 (ys:List Str) (x z:Str):z ∈ qC ys x↔z ∈ ys\/z=x:=by
 unfold qC;split
 .rename_i h;exact ⟨.inl,fun u=>u.elim id fun e=>e ▸ h⟩
 .simp
theorem Yj (ys:List Str) (x:Str):eb (ef ys) (bT x) (.bo true)=ef (qC ys x):=by
 unfold qC;split
 .rename_i h;unfold eb;have C':((ef ys).any fun cD=>decide (cD.1=bT x))=true:=qV.mpr ⟨(bT x,.bo true),b1.mpr ⟨x,h,rfl⟩,decide_eq_true rfl⟩;rw [if_pos C'];unfold ef;rw [k_];refine SU fun y bh=>?_
  show (if (bT y:Key)=bT x then ((bT y:Key),V.bo true) else (bT y,V.bo true))=_;split <;> rfl
 .rename_i h;have sD:((ef ys).any fun cD=>decide (cD.1=bT x))=false:=by
   rw [J0];intro p ar z;obtain ⟨b,ab,rfl⟩:=b1.mp ar;exact h (n2 (of_decide_eq_true z) ▸ ab)
  unfold eb;rw [if_neg (by rw [sD];exact fK)];unfold ef;rw [fS];rfl
theorem ajx {ys:List Str} {x:Str} {l:List Str} (aY:ys.Nodup) (ay:∀ y ∈ ys,y ∈ l) (ag:x ∈ l):(qC ys x).Nodup/\∀ y ∈ qC ys x,y ∈ l:=by
 unfold qC;split
 .exact ⟨aY,ay⟩
 .rename_i h;refine ⟨?_,fun y bh=>?_⟩
  .rw [DK];refine ⟨aY,by simp,fun a aO b ab e=>?_⟩;rw [gg.mp ab] at e;exact h (e ▸ aO)
  .rcases hI.mp bh with z | z
   .exact ay y z
   .rw [gg.mp z];exact ag
section
open PySem.Spec PyProof.Rows
noncomputable def Itm (d:Addr) (o:Obj) (kvs:List (Key × V)):jm:=
 ⟨fun i H=>H d=some (.d6 o (.bx kvs))/\i < kvs.length,fun i H v I=>∃ p k x,H p=none/\v=.ref p/\kvs[i]? = some (k,x)/\I=upd H p (.tup [cM k,x]),fun i H=>H d=some (.d6 o (.bx kvs))/\kvs.length <= i⟩
theorem alE {kvs:List (Key × V)} {vs:List (Key × Value)} (r:ee kvs vs) {i:Nat} {k:Key} {x:V} (h:kvs[i]? = some (k,x)):∃ u,vs[i]? = some (k,u)/\bD x u:=by
 induction r generalizing i with
 | nil=>simp at h
 | cons ar _ b'=>
  cases i with
  | zero=>
   cases h;exact ⟨_,congrArg some (Prod.ext ar.1.symm rfl),ar.2⟩
  | succ i=>exact b' h
theorem abN {P:Program} {w:World} {K:a_} {aV:List Expr} {jw} {pos:Pos} {d it:Addr} {o:Obj} {ep:Nat} {kvs:List (Key × V)} {vs:List (Key × Value)} (bX:d ≠ it) (rel:ee kvs vs)
  (qX:∀ h:Heap,h.get? d=some o->h.DictAt (gM P w) d vs ep):oR P w K (.Tuple aV jw pos) (Itm d o kvs) [it] it (fun i h=>∃ ok d0,IsItemIter h it d i vs.length ep ok d0) where
 mem:=by simp
 obj:=fun i h ⟨ok,d0,he⟩ b ab=>by
  have e:b=it:=by simpa using ab
  subst e;exact ⟨_,he,fun v z=>by
   have hv:U_ _=SF v:=z;cases hv⟩
 keep:=fun i h h' ⟨ok,d0,he⟩ k=>⟨ok,d0,k it (by simp) _ he⟩
 item:=by
  intro X ct hw fl av i aa s σ H E J hf ⟨ok,d0,he⟩ a5;subst ct hw fl;obtain ⟨aI,ag⟩:=a5;have j0:s.heap.get? d=some o:=(J.a4 d _ aI).1;obtain ⟨⟨k,x⟩,tr⟩:∃ q,kvs[i]? = some q:=⟨_,bc ag⟩;obtain ⟨u,br,eo⟩:=alE rel tr;refine wpAny_pyNext_items_item he (qX _ j0) br fun key af LS KY IB CE vE=>⟨_,rfl,?_⟩
  refine wpAny_letOwnedTupleGo_items KY fun aj Mu jh=>?_
  replace jh:t_ it af aj:=jh;have w6:it < s.heap.objs.size:=dJ he;have aC:∀ b o,b ∉ [it]->s.heap.get? b=some o->aj.get? b=some o:=fun b o ab q=>by
   have f5:b ≠ it:=fun z=>ab (by simp [z])
   exact jh.extBut _ _ f5 (vE b o f5 q)
  have aN:Inv X aa σ H { s with heap:=aj,toks:=s.toks }:=J.Dc aC hf;have hu:je X aa H s.heap.objs.size:=J.nH (bW _) (J.a4.fresh (bW _));have JY:aj.get? s.heap.objs.size=some { cls:=.type "tuple",data:=.seq #[key,u] }:=(jh.2 _ (te w6)).trans IB;have bu:=aN.adopt (o:=.tup [cM k,x]) hu ⟨by show 2 <= sizeLine;decide,[key,u],.cons (N_ LS) (.cons eo .nil),⟨_,JY,rfl,_,rfl⟩⟩;refine ⟨.ref s.heap.objs.size,_,bu,rfl,⟨_,k,x,hu.1,rfl,tr,rfl⟩,⟨_,_,Mu⟩,fun b ab=>?_⟩;have e:b=it:=by simpa using ab
  subst e;rw [aH (fR w6)];exact (hf b ab).1
 done:=by
  intro X ct hw fl av i aa s σ H E J hf ⟨ok,d0,he⟩ a5;subst ct hw fl;obtain ⟨aI,ag⟩:=a5;have j0:s.heap.get? d=some o:=(J.a4 d _ aI).1;exact wpAny_pyNext_items_end (J.ok.hd av) he (qX _ j0) (by rw [VV];rw [<- rel.length];exact ag) fun h' eO=>⟨rfl,J.Dc (t':=s.toks) (fun b o ab q=>eO b o (fun z=>ab (by simp [z])) q) hf⟩
 self:=fun _ _ _ _ _ ⟨_,_,he⟩ h=>PySem.W.kcp_self he h
noncomputable def PG (cZ:TE):TI:=fun σ H R=>cZ σ H fun x H1=>∃ p d kvs,x=.ref p/\H1 p=some (.ext (kM p d))/\H1 d=some (.bx kvs)/\∀ o,R (Itm d o kvs) (upd H1 d (.d6 o (.bx kvs)))
theorem alL {jw} {cZ:TE} (aA:bp X l cZ):oF X (.Tuple aV jw vT) l (PG cZ):=by
 intro aa s σ H R J h;refine bA (aA aa s σ H _ J h) fun v s1 ⟨x,H1,aN,cE,bS⟩=>?_
 obtain ⟨p,d,kvs,e,ep,ho,q⟩:=bS;subst e;cases cE;obtain ⟨_,hd,vs,rel,b7⟩:=nK aN.a4 ho;obtain ⟨Dr,dat⟩:=b7.dictAt;obtain ⟨o,wa,g,rest⟩:=id dat;have bu:=Wn aN ho g;have aF:s1.heap.IsItemsView p d:=(aN.a4 p _ ep).1;refine wpAny_pyIter_items aF dat ?_;refine ⟨s1.heap.objs.size,[s1.heap.objs.size],_,_,_,rfl,bu.kept (t':=s1.toks) fun b o e=>dE _ e,abN (fR (dJ g)) rel (fun h e=>⟨o,wa,e,rest⟩),⟨_,_,hc _ rfl⟩,fun b ab=>?_,q o⟩;have e:b=s1.heap.objs.size:=by simpa using ab
 subst e;exact bu.nH (bW _) (bu.a4.fresh (bW _))
end
section
open PySem.Spec PyProof.Rows
variable {X:a3}
noncomputable def Oj:eQ:=fun x y H Q=>∃ a b kvs,x=.ref a/\y=.ref b/\H a=some (.bx kvs)/\H b=some (.bx kvs)/\(kvs.map (·.1)).Nodup/\(∀ cD ∈ kvs,iT cD.2=true)/\Q (.bo false) H
theorem amo (br:X.A.units + 1 < cLine):hs X (compareOp .NotEq) Oj:=by
 intro aa s σ H x y v u Q J bb bg h;obtain ⟨a,b,kvs,rfl,rfl,ei,eO,aG,cR,q⟩:=h;cases bb;cases bg;obtain ⟨_,c5,ac6,jH,qX⟩:=nK J.a4 ei;obtain ⟨_,alm,qi,uP,db⟩:=nK J.a4 eO;have aA:ac6.length=qi.length:=jH.length.symm.trans uP.length;refine PySem.W.keq_ne (r:=true) c5 alm qX db (by omega) (fun _=>aj7 aG cR uP jH fun _ h=>h) ?_;rw [aA,beq_self_eq_true];exact ⟨.bo false,H,J,rfl,q⟩
noncomputable def Pm:List V->au->cJ->Prop:=fun xs H Q=>∃ d kvs,xs=[.ref d]/\H d=some (.bx kvs)/\∀ l,H l=none->Q (.ref l) (upd H l (.lst (kvs.map fun q=>cM q.1)))
theorem Zq (av:X.calm=true):k7 X (.type "list") Pm:=by
 intro aa s σ H xs us Q J r h;obtain ⟨d,kvs,rfl,ho,q⟩:=h;obtain ⟨u,rfl,eo⟩:=kP r;cases eo;obtain ⟨z,hd,vs,rel,b7⟩:=nK J.a4 ho;obtain ⟨Dr,qX⟩:=b7.dictAt;have hlen:=rel.length;refine PySem.W.kdl_call (PySem.W.kdl_dict (knd:=gM X.prog X.w) (kvs:=vs) (ep:=Dr) hd) (J.ok.hd av) qX (by omega) fun h' tk acc c aC dM wq=>?_
 refine ⟨.ref _,_,J.laid (o:=.lst (kvs.map fun q=>cM q.1)) (t':=tk) aC (bW _) ⟨by rw [a0];exact z,acc.toList,c,?_,dM⟩,rfl,q _ (J.a4.fresh (bW _))⟩;have aF:=ZY (f:=fun i=>((kvs[i]?).map fun q=>cM q.1).getD .bO) (fun i v aF=>by
  obtain ⟨k,x,aq,aD⟩:=aF;obtain ⟨a,bL,ek,_⟩:=cr rel aq;rw [bL];show bD (cM a.1) v;rw [ek];exact UZ aD) wq
 have v8:(fF vs.length).map (fun i=>((kvs[i]?).map fun q=>cM q.1).getD .bO)=kvs.map fun q=>cM q.1:=by
  rw [<- hlen];refine afX (by simp) fun i af aj=>?_
  rw [vQ,List.getElem_range,vQ,bc (by simpa using aj)];rfl
 rw [v8] at aF;exact aF
end
def Qx (K:a_) (Pt:Addr):bP:=fun vs H Q _=>∃ a ns,vs=[.ref a]/\Sc K a ns H/\ns.length <= 63/\kJ Pt H/\∀ I,Q (.bo true) I
theorem ajO {Pt:Addr} (cj:mS base t.n' Pt) (hg:base.BuiltinsAt mg Pt):cu P base T 12 t.Ht t.zk ["_law_script"] (Qx K Pt):=by
 exists T.ahe.ok k1,9
 obtain ⟨a,ns,rfl,AH,gx,ahE,q⟩:=h;have br:=hh ak;have rS:=Ql ak;have ajX:b_ P w K mg base dr 11 t.Aw t.Av zU (NE K a ns):=(acC T a ns gx).mono (by decide);have aeU:b_ P w K mg base dr 11 t.CU t.CB zp (VS K):=(aej T).mono (by decide);have alA:b_ P w K mg base dr 11 t.By t.A8 ["text"] (NB t):=(ZW T).mono (by decide);have alB:b_ P w K mg base dr 11 t.zg t.AX y1 (RZ K):=(ah2 T).mono (by decide);have alc:b_ P w K mg base dr 11 t.CR t.Bl zA V4:=(Xh T).mono (by decide);have adn:b_ P w K mg base dr 11 t.vn t.xf xQ (Rf P w t):=(aeP T).mono (by decide);have ab0:b_ P w K mg base dr 10 t.vV t.AU xI (Q3 P w t):=(afF T).mono (by decide);have afZ:b_ P w K mg base dr 11 t.rJ t.s6 tx (SE P w K t Pt):=(abq T cj hg).mono (by decide);have af6:b_ P w K mg base dr 11 t.Ar t.Ap yV (NN K a ns):=(ZD T a ns gx).mono (by decide);have eE:b_ P w K mg base dr 11 t.yt t.xG wI (hJ K a ns):=(xE T a ns gx).mono (by decide);have XD:b_ P w K mg base dr 11 t.Bf t.Bd CA (T6 P w K t a ns):=(ajh T a ns gx cj hg).mono (by decide);have pA:b_ P w K mg base dr 11 t.uL t.xx ["self"] (GF P w t):=(BB T).mono (by decide);have Dl:b_ P w K mg base dr 11 t.xu t.Cb ["self"] (NL P w t):=(UA T).mono (by decide);refine ⟨_,(aW (alC (cn ajX ak T.amL T.JP.bH T.ado (ai (U 0) (ai aR aE))) (lC (K:=K) (n:=2) rfl rfl (ft (Db (i:=1) k1.aG) (ft (Db (i:=2) k1.aG) lS))))
   (aW (b5 (i:=3) k1.aG (cn alB ak T.alZ T.Er.bH T.afg (ai (U 0) (ai (U 1) (ai (U 2) aE)))))
   (aW (b5 (i:=4) k1.aG (rX T.amI ab0 ak rfl T.ag0 T.acM .nil cx (ai (cn adn ak T.alb T.DV.bH T.aky (ai (cn alA ak T.aam T.JK.bH T.alp (ai (cn aeU ak T.XI T.Ez.bH T.ads (ai (U 1) (ai (U 2) aE))) aE)) (ai (cn alc ak T.akB T.G5.bH T.Yn (ai (U 2) (ai (U 3) aE))) aE))) aE)))
   (aW (oT (i:=5) k1.aG rfl (m3 rfl) vM)
   (aW (fU gi rfl (nY rfl T.oB (ai aR aE)) (Db (i:=6) k1.aG) (aW (b5 (i:=7) k1.aG (cn af6 ak T.aaj T.HV.bH T.ah9 (ai (U 0) (ai (U 6) (ai (U 2) aE)))))
   (aW (dK (hH.pt (pO (c_ e5 (cn eE ak T.fm T.eU.bH T.fs (ai (U 0) (ai (bF dT aR (U 6)) (ai aR aE)))) aR (cC _)) (pC (tH (oJ (cn XD ak T.W' T.HA.bH T.XZ (ai (U 0) (ai (U 6) (ai (U 4) (ai (U 2) (ai (U 7) aE))))))))))) (a6 (cg am)) eu)
   (aW (b5 (i:=8) k1.aG (gc (U 4) T.dI T.tN pA ak T.td .nil cx))
   (aW (b5 (i:=9) k1.aG (lg Oe rfl T.yc yd (ai (U 7) aE)))
   (aW (b5 (i:=10) k1.aG (eX (U 4) T.dI T.Ng afZ ak T.Sd .nil cx (ai (U 9) aE)))
   (aW (dK (hH.pt (qw (c_ (amo br) (U 10) (U 8) (cC _)) (qw (c_ (HI rS) (lg (Zq rfl) rfl T.yc yd (ai (U 10) aE)) (hl rfl (eA (U 2)) (gz (sc:=bz B9) rfl (by ac_nf)) (N:=["_law_way"]) (sel:=[none]) (gA (M:=Il) (by ac_nf)) (fA.of (fun _ _ _ _=>(Db (i:=0) (er (N:=["_law_way"]) (by ac_nf) rfl))) (fun _ _ _ _=>⟨_,ix,by walk_at "B"⟩) (fun _ _ _ _=>⟨_,(cq fP (U 0) aR),by walk_at "B"⟩))) (cC _)) (tg (c_ (HI rS) (U 9) (U 7) (cC _)))))) (a6 (cg am)) eu)
   (aW (dS (vP ie aah PySem.F.type_list_clear YP (U 9)))
   (aW (fU gi rfl (eA (U 7)) (Db (i:=11) k1.aG) (a6 (dK (c_ qO (ny br (U 10) (U 11) (fun _ _=>rfl)) cX (cC _)) (a6 (p0 br (U 5) (U 11) am rfl)) eu)))
   (aW (fU gi rfl (alL (vP E7 FD Rk HG (gc (U 4) T.dI T.tN pA ak T.td .nil cx))) (lC (K:=K) (n:=2) rfl rfl (ft (Db (i:=11) k1.aG) (ft (Db (i:=12) k1.aG) lS))) (a6 (dK (c_ e5 (U 12) cX (cC _)) (a6 (dS (VX (U 5) (U 11) qb ⟨rfl,rfl,rfl,rfl⟩))) eu)))
   (a6 (dK (c_ (HI rS) (gc (U 4) T.dI T.F' Dl ak T.EP .nil cx) (hl rfl (eA (U 2)) (gz (sc:=bz B9) rfl (by ac_nf)) (N:=["_law_way","_law_waiting"]) (sel:=[none,some 5]) (gA (M:=Il) (by ac_nf)) (fA.of (fun _ _ _ _=>(Db (i:=0) (er (N:=["_law_way","_law_waiting"]) (by ac_nf) rfl))) (fun _ _ _ _=>⟨_,(sG (yC (KM br (cq fP (U 0) aR) (U 1)))),by walk_at "B"⟩) (fun _ _ _ _=>⟨_,(cq fP (U 0) aR),by walk_at "B"⟩))) (cC _)) (a6 (cg am)) eu))))))))))))
   (a6 (cg am))))))),?_⟩
 exists (fun ax I=>aS H I/\Sc K a ns I/\∃ wl n ds,iz I wl ds/\rD n ds/\(∀ d ∈ ds,d.least <= 4)/\(4 <= n/\n <= 99)/\(1 <= ds.length/\ds.length <= 6)/\ax=[~~~a,some (.int n),~~~wl,none,none,none,none,none,none,none,none,none,none]),3
 .nofun;exact ⟨5,rfl,by decide,AH,fun ia wl n ds I s1 lJ aq L D hle aY aA=>⟨ia,rfl,_,c0.of aq,rfl,_,_,rfl,_,_,rfl,rfl,cL _ _ ⟨s1,lJ,wl,n,ds,L,D,hle,aY,by omega,rfl⟩⟩⟩
 rintro f_ H1 ⟨s1,lJ,wl,n,ds,L,D,hle,aY,fj,rfl⟩;have Xg:∀ {aZ:List hb},Ce n ds aZ->dQ n ds aZ:=fun h=>⟨D.aG,h,fj.2,fj.1,fun d hd=>(D.al d hd).1⟩
 subst ba;exists (fun ax I=>aS H1 I/\Sc K a ns I/\∃ fc bS jD b3,nc I fc bS jD b3/\dQ n ds b3/\ax=[~~~a,some (.int n),~~~wl,~~~fc,none,none,none,none,none,none,none,none,none]),3
 .nofun;exact ⟨a,ns,n,wl,ds,rfl,gx,lJ.seq,lJ.bN,L,D,hle,by omega,fun fc bS jD b3 I s3 dA Hh aiA=>cL _ _ ⟨s3,lJ.same s3 dA,fc,bS,jD,b3,Hh,Xg aiA,rfl⟩⟩
 rintro cz aw ⟨s2,lV,fc,bS,jD,b3,Hh,X,rfl⟩;have L2:=L.same s2;have R:=X.TK;have bX:0 < b3.length:=Va.mpr X.ne;have Su:=bc bX;subst ba;exists (fun ax I=>∃ eV iO c k az aT,aS aw eV/\gp P w t eV iO c n ds (Gc ds b3)/\eV k=none/\eV az=none/\eV aT=none/\aS eV I/\Sc K a ns I/\d_ t I k iO az aT (Tw ds (lZ ds b3[0]))/\ax=[~~~a,some (.int n),~~~wl,~~~fc,~~~k,none,none,none,none,none,none,none,none]),3
 .nofun;refine ⟨n,wl,ds,rfl,L2,D,by omega,by omega,lV.bN,n,ds,rfl,D.Ue (by omega) (by omega),lV.bN,fun c I s3 dA sU=>⟨wl,ds,fc,bS,jD,b3,rfl,L2.same s3,Hh.same s3,X.jR,dA,c,n,ds,b3,rfl,sU,aY,X,dA,fun iO d1 s5 jC VT k ao aC xp X3=>?_⟩⟩;have bR:aS d1 (upd (upd d1 ao (.own k)) k (.ins t.c3 ao [])):=(bq xp).trans (bq (by rw [aH (dg X3)];exact aC));exact ⟨k,ao,iO,c,n,ds,_,_,rfl,aX,VT.same bR,TJ Su,R.c1 _ (b1.mpr ⟨_,jq bX,rfl⟩),jC.upd.upd,fun az aT fL eL kk nW mA t4=>⟨rfl,cL _ _ ⟨d1,iO,c,k,az,aT,s3.trans s5,VT,aC,bR.free nW,bR.free mA,fun b u e=>eL _ _ (dj e aC) (bR _ _ e),lV.same (fun b u e=>eL _ _ (dj ((s3.trans s5) _ _ e) aC) (bR _ _ ((s3.trans s5) _ _ e))) kk,t4,rfl⟩⟩⟩
 rintro gb bw ⟨eV,iO,c,k,az,aT,m9,dC,i3,gG,hC,s3,nF,sM,rfl⟩;subst ba;exists (fun ax I=>aS bw I/\Sc K a ns I/\∃ wp,bw wp=none/\I wp=some (.bx [])/\ax=[~~~a,some (.int n),~~~wl,~~~fc,~~~k,~~~wp,none,none,none,none,none,none,none]),3
 .nofun;exact fun wp dP=>cL _ _ ⟨bq dP,nF.new dP,wp,dP,aX,rfl⟩
 rintro kT cS ⟨s4,iB,wp,u4,g0,rfl⟩;have hlen:(Gc ds b3).length=b3.length:=by unfold Gc;rw [a0]
 have Pc:kJ Pt eV:=ahE.step ((s1.trans s2).trans m9);have QS:aS (hU eV) bw:=(Vq eV).trans s3;have abm:aS (hU eV) cS:=QS.trans s4;have Nt:hU eV k=none:=Ey i3;have QT:hU eV az=none:=Ey gG;have M4:hU eV aT=none:=Ey hC;have Ur:hU eV Pt=none:=abe Pc;have Vh:hU eV wp=none:=QS.free u4;have xM:=dC.p8 (J4 eV);have rg:=(L2.same m9).p8 (J4 eV);have EV:Sc K a ns (hU eV):=aj3 (lV.same m9 (fun b u e=>nF.2 b u (s3 _ _ e))) (J4 eV) (fun b u e=>nF.2 b u (s3 _ _ (Vq eV _ _ e)));obtain ⟨dP,DW,aoh,af0,Yc⟩:=id sM;have Ee:wp ≠ az:=fun z=>by rw [z,af0] at u4;cases u4
 have F3:wp ≠ aT:=fun z=>by rw [z,Yc] at u4;cases u4
 have agn:kJ Pt cS:=(Pc.step s3).step s4;have l5:=sM.same s4;have e7:(ds.map (·.name)).Nodup:=D.aG;subst ba;simp only [dG];refine qK (fun ax I=>True) (fun fk cL lW _ _=>?_) ?_
 .nofun;refine ⟨by decide,by decide,?_⟩;refine d3.range (fun j σ I=>aP I/\aS (hU eV) I/\kJ Pt I/\(∃ s ws,d_ t I k iO az aT s/\i9 ds (Gc ds b3) s/\I wp=some (.bx (ef ws))/\ws.Nodup/\(∀ x ∈ ws,x ∈ (ds.map (·.name)))/\∀ x,x ∈ ws↔x ∈ s.wt)/\∃ Nm WE KZ A3 vt iM kE,σ=[~~~a,some (.int n),~~~wl,~~~fc,~~~k,~~~wp,Nm,WE,KZ,A3,vt,iM,kE]) ?_ ?_ ?_
  .exact ⟨iB.2,abm,agn,⟨_,[],l5,⟨Kx,fun x h=>(by cases h),fun i h=>(by cases h;exact ⟨by rw [hlen];exact bX,fun x h=>(by cases h)⟩),fun h=>(by cases h)⟩,g0,Kx,(fun x h=>by cases h),fun x=>Iff.rfl⟩,_,_,_,_,_,_,_,rfl⟩
  .rintro j σ I aM bl;ac_rfl
   obtain ⟨ac_,gf,MO,⟨sK,ws,Bs,mH,adl,akq,ac8,aaH⟩,Nm,WE,KZ,A3,vt,iM,kE,rfl⟩:=bl;have aM:j < 40:=aM;obtain ⟨amY,amT,LY,Pd,Qh⟩:=id Bs;subst ba;simp only [ht,dG,ly,k',ro];refine r6 (fun ax H1=>aS I H1/\aP H1/\∃ ap xs,I ap=none/\H1 ap=some (.lst (aL xs))/\xs.length <= 13/\(∀ x ∈ xs,x ∈ (ds.map (·.name)))/\ax=[~~~a,some (.int n),~~~wl,~~~fc,~~~k,~~~wp,some (.int j),~~~ap,KZ,A3,vt,iM,kE]) (fun fk cQ=>?_) ?_
   .nofun;exact ⟨_,wl,ds,rfl,EV.same gf ac_,by omega,rg.same gf,by omega,fun p xs H1 bR nm ar k2 hn hF=>cQ _ _ ⟨bR,nm,p,xs,ar,k2,hn,hF,rfl⟩⟩
   rintro cz sL bl;ac_rfl
   obtain ⟨t1,Jf,ap,xs,Fv,Cp,hn,hF,rfl⟩:=bl;have wo:=Bs.same t1;have xX:z4 (Gc ds b3) sK:=fun h=>mH.ch h
   subst ba;simp only [dG];refine tI (fun l4 aw=>l4=false/\aS sL aw/\aP aw) (fun jf a8=>?_) (fun aw r=>(by cases r.1)) (fun aw r=>?_)
   ·(nofun; repeat (dsimp only [hJ];nofun));refine ⟨EV.same (gf.trans t1) Jf,by omega,by omega,by decide,?_⟩;split
    .exact ⟨_,k,wl,ap,iO,az,aT,sK,c,n,ds,Gc ds b3,xs,rfl,EV.same (gf.trans t1) Jf,⟨by omega,by omega⟩,rg.same (gf.trans t1),X.ok,⟨fj.1,by omega⟩,wo,xM.same (gf.trans t1),R.cZ,xX,Cp,hn,hF,fun aw bR nm=>⟨true,rfl,a8 _ _ ⟨rfl,bR,nm⟩⟩⟩
    .exact a8 _ _ ⟨rfl,fun _ _ e=>e,Jf⟩
   obtain ⟨_,fy,iZ⟩:=r;have rQ:=t1.trans fy;simp only [iy,dG];refine r6 (fun ax bw=>aS aw bw/\aP bw/\∃ ar,aw ar=none/\bw ar=some (.bx (eG ds (fB n ds (Gc ds b3) sK)))/\ax=[~~~a,some (.int n),~~~wl,~~~fc,~~~k,~~~wp,some (.int j),~~~ap,~~~ar,A3,vt,iM,kE]) (fun fk cQ=>?_) ?_
   .nofun;exact ⟨_,_,rQ _ _ LY,ib _ _ _ _ _ _ _ _ (by ac_nf),k,iO,az,aT,sK,c,n,ds,Gc ds b3,rfl,Bs.same rQ,xM.same (gf.trans rQ),R.cZ,xX,iZ,fun p bw bR nm ar k2=>cQ _ _ ⟨bR,nm,p,ar,k2,rfl⟩⟩
   rintro gb ub bl;ac_rfl
   obtain ⟨t3,qY,ar,sI,yz,rfl⟩:=bl;subst ba;simp only [dG];refine r6 (fun ax cS=>aS ub cS/\aP cS/\∃ ej,ub ej=none/\cS ej=some (.lst (aL xs))/\ax=[~~~a,some (.int n),~~~wl,~~~fc,~~~k,~~~wp,some (.int j),~~~ap,~~~ar,~~~ej,vt,iM,kE]) (fun fk cQ=>?_) ?_
   .nofun;exact ⟨_,.inl (aB.of ((fy.trans t3) _ _ Cp)),fun l aA=>cQ _ _ ⟨bq aA,qY.upd,l,aA,aX,rfl⟩⟩
   rintro kT n0 bl;ac_rfl
   obtain ⟨Iu,C9,ej,pN,PJ,rfl⟩:=bl;have nU:=rQ.trans (t3.trans Iu);subst ba;simp only [dG];refine r6 (fun ax d1=>∃ oN s',q2 n ds (Gc ds b3) (xk (Gc ds b3) sK xs) (xs.any (hK (Gc ds b3) sK)) s'/\Kl k az aT Pt n0 d1/\n0 oN=none/\d1 oN=some (.bx (eG ds (fB n ds (Gc ds b3) sK)))/\aP d1/\kJ Pt d1/\d_ t d1 k iO az aT s'/\ax=[~~~a,some (.int n),~~~wl,~~~fc,~~~k,~~~wp,some (.int j),~~~ap,~~~ar,~~~ej,~~~oN,iM,kE]) (fun fk cQ=>?_) ?_
   .nofun;exact ⟨_,_,nU _ _ LY,ib _ _ _ _ _ _ _ _ (by ac_nf),hU eV,k,iO,az,aT,sK,c,n,ds,Gc ds b3,ej,xs,rfl,Bs.same nU,xM,gf.trans nU,Nt,QT,M4,Ur,R,mH,PJ,by omega,hF,MO.step nU,C9,fun p s' aw Co DH ar k2 pU si Dd=>cQ _ _ ⟨p,s',Co,DH,ar,k2,pU,si,Dd,rfl⟩⟩
   rintro rO m4 bl;ac_rfl
   obtain ⟨oN,s',Co,DH,Qc,AR,DE,Fi,pq,rfl⟩:=bl;obtain ⟨aoI,iC,_⟩:=MO.step nU;have Rz:aS (hU eV) m4:=fun b u e=>DH _ _ (dj e Nt) (dj e QT) (dj e M4) (dj e Ur) ((gf.trans nU) _ _ e)
   have FG:∀ {b:Addr} {u:e2},n0 b=some u->b ≠ az->b ≠ aT->(∀ x y z,u ≠ .ins x y z)->(∀ ps,u ≠ .gF ps)->m4 b=some u:=fun {b u} e af aj a' c7=>DH _ _ (fun z=>by rw [z,nU _ _ LY] at e;exact a' _ _ _ (dU e).symm) af aj (fun z=>by rw [z,iC] at e;exact c7 _ (dU e).symm) e
   have aas:n0 ap=some (.lst (aL xs)):=((fy.trans t3).trans Iu) _ _ Cp;have lstK:∀ {b:Addr} {ys:List V},n0 b=some (.lst ys)->m4 b=some (.lst ys):=fun {b ys} e=>FG e (b0 e (nU _ _ Pd) (by intro z;cases z)) (b0 e (nU _ _ Qh) (by intro z;cases z)) (fun _ _ _ z=>by cases z) (fun _ z=>by cases z)
   have Wi:=lstK aas;have oE:=lstK PJ;have Ky:=Iu _ _ yz;have iw:ar ≠ az:=fun z=>by rw [z,rQ _ _ Pd] at sI;cases sI
   have Fx:ar ≠ aT:=fun z=>by rw [z,rQ _ _ Qh] at sI;cases sI
   have agO:=FG Ky iw Fx (fun _ _ _ z=>by cases z) (fun _ z=>by cases z);have P7:=nU _ _ adl;have vU:m4 wp=some (.bx (ef ws)):=FG P7 Ee F3 (fun _ _ _ z=>by cases z) (fun _ z=>by cases z);have Zc:((eG ds (fB n ds (Gc ds b3) sK)).map (·.1)).Nodup:=by
    unfold eG;rw [k_];refine Wy.mpr ((Wy.mp e7).imp fun {x y} al5 e=>al5 (n2 e))
   have afy:∀ cD ∈ eG ds (fB n ds (Gc ds b3) sK),iT cD.2=true:=fun cD pK=>by
    unfold eG at pK;obtain ⟨d,_,rfl⟩:=b1.mp pK;rfl
   have V7:=Us hF mH;subst ba;simp only [dG];refine tI (fun l4 fL=>l4=false/\aS m4 fL/\aP fL) (fun jf a8=>?_) (fun fL r=>(by cases r.1)) (fun ab9 r=>?_)
   .nofun;simp only [Oj,Pm];nofun;refine ⟨_,AR,agO,Zc,afy,_,AR,fun l aA=>?_⟩;rw [amD];have MC:=bq (o:=.lst (aL (ds.map (·.name)))) aA;obtain ⟨JE,yl,EJ,Iz⟩:=rg.same (Rz.trans MC);have Nq:∀ {I:au} {b e9:Addr} {zs:List Str},I b=some (.lst (aL zs))->I e9=some (.lst (aL zs))->e0 K I 8 (.ref b) (.ref e9) true:=fun {I b e9 zs} aq aD=>by
     have:=e0.Mo (k:=7) (aB.of (K:=K) aq) (aB.of aD) (fun a aO b ab=>by
      unfold aL at aO ab;obtain ⟨x,_,rfl⟩:=b1.mp aO;obtain ⟨y,_,rfl⟩:=b1.mp ab
      rfl)
     rwa [decide_eq_true rfl] at this
    refine ⟨⟨_,aB.of yl⟩,?_⟩;refine c6.lR (xs:=JE.map V.ref) (zs:=aL (ds.map (·.name))) (aB.of yl) (by rw [a0];exact cP (show _ <= 12 by omega) (by decide)) (by rw [eF,a0,a0,EJ]) (fun i v z N aF aJ bf=>?_) (fun p k2=>?_)
    .obtain ⟨cW,iL,rfl⟩:=cf aF;have iQ:i < ds.length:=by have:=(cv.mp iL).1;omega
     have sy:=bc iQ;unfold aL at aJ;rw [da,da,sy] at aJ;cases aJ;nofun;exact ⟨Sub.name,_,c0.of (Iz i cW _ iL sy),_,cB (j:=1) rfl,bf⟩
    .have tW:=MC.trans (bq (o:=.lst (aL (ds.map (·.name)))) k2);refine ⟨p,rfl,_,Nq ((bq k2) _ _ aX) aX,?_⟩;rw [if_neg (by decide)];exact ⟨_,Nq (tW _ _ oE) (tW _ _ Wi),a8 _ _ ⟨rfl,tW,DE.upd.upd⟩⟩
   obtain ⟨_,Fm,Cj⟩:=r;simp only [iy,dG];refine r6 (fun ax g9=>g9=upd ab9 ej (.lst [])/\ax=[~~~a,some (.int n),~~~wl,~~~fc,~~~k,~~~wp,some (.int j),~~~ap,~~~ar,~~~ej,~~~oN,iM,kE]) (fun fk cQ=>?_) ?_
   .nofun;exact ⟨oj ⟨_,aB.of (Fm _ _ oE)⟩,_,Fm _ _ oE,cQ _ _ ⟨rfl,rfl⟩⟩
   rintro kn C3 ⟨QC,rfl⟩;have sq:∀ {b:Addr} {u:e2},b ≠ ej->m4 b=some u->C3 b=some u:=fun {b u} ab e=>by rw [QC,aH ab];exact Fm _ _ e
   have GB:aP C3:=by rw [QC];exact Cj.upd
   have XO:ej ≠ ap:=fun z=>by have:=(fy.trans t3) _ _ Cp;rw [<- z,pN] at this;cases this
   have RK:=sq (b0 vU oE (by intro z;cases z)) vU;have W_:=sq (b0 AR oE (by intro z;cases z)) AR;have Ju:=sq (dg XO) Wi;simp only [dG];refine r6 (fun ax fM=>(∀ b u,b ≠ wp->C3 b=some u->fM b=some u)/\aP fM/\(∃ ff,fM wp=some (.bx (ef ff))/\ff.Nodup/\(∀ x ∈ ff,x ∈ (ds.map (·.name)))/\∀ x,x ∈ ff↔x ∈ (xk (Gc ds b3) sK xs).wt)/\∃ iM,ax=[~~~a,some (.int n),~~~wl,~~~fc,~~~k,~~~wp,some (.int j),~~~ap,~~~ar,~~~ej,~~~oN,iM,kE]) (fun fk cQ=>?_) ?_
   .nofun;refine ⟨⟨_,aB.of Ju⟩,?_⟩;refine d3.list (xs:=aL xs) (fun i σ fM=>(∀ b u,b ≠ wp->C3 b=some u->fM b=some u)/\aP fM/\(∃ ff,fM wp=some (.bx (ef ff))/\ff.Nodup/\(∀ x ∈ ff,x ∈ (ds.map (·.name)))/\∀ x,x ∈ ff↔x ∈ kS (Gc ds b3) sK sK.wt (xs.take i))/\∃ iM,σ=[~~~a,some (.int n),~~~wl,~~~fc,~~~k,~~~wp,some (.int j),~~~ap,~~~ar,~~~ej,~~~oN,iM,kE]) ⟨fun _ _ _ e=>e,GB,⟨ws,RK,akq,ac8,aaH⟩,_,rfl⟩ ?_ ?_ ?_
    .rintro i σ fM ah ⟨nC,_⟩;exact aB.of (nC _ _ (b0 Ju RK (by intro z;cases z)) Ju)
    .rintro i v σ fM aF bl;ac_rfl
     obtain ⟨nC,u2,⟨ff,o9,q7,qt,p9⟩,iM,rfl⟩:=bl;subst ba;unfold aL at aF;obtain ⟨x,ag,rfl⟩:=cf aF;have pd:=hF x (cH ag);obtain ⟨d,s8,rfl⟩:=b1.mp pd;obtain ⟨aoW,hd⟩:=iN s8;have X7:oN ≠ wp:=fun z=>by rw [z,P7] at Qc;cases Qc
     have GZ:=fT.k (k:=bT d.name) (nC _ _ X7 W_);rw [PA (f:=fB n ds (Gc ds b3) sK) e7 hd] at GZ;have fw:kS (Gc ds b3) sK sK.wt (xs.take (i + 1))=m_ (Gc ds b3) sK (kS (Gc ds b3) sK sK.wt (xs.take i)) d.name:=by rw [j_ ag,R7]
     have gs:ff.length <= 12:=by
      have:=q7.length_le_of_subset qt;rw [a0] at this;omega
     simp only [ht,ly,k'];refine dW (!hK (Gc ds b3) sK d.name) (fun jf a8=>?_) (fun ab=>?_) (fun ab=>?_)
     .nofun;refine ⟨_,GZ,rfl,?_⟩;rw [L6];exact a8
     .have hf:hK (Gc ds b3) sK d.name=false:=by simpa using ab
      obtain ⟨dN,ps⟩:=ajx q7 qt pd;nofun;refine ⟨_,kf.k (k:=bT d.name) o9 (by unfold ef;rw [a0];exact gQ gs (by decide)),fun b u af e=>by rw [aH af];exact nC _ _ af e,u2.upd,⟨qC ff d.name,by rw [aX,Yj],dN,ps,fun x=>?_⟩,_,rfl⟩;rw [aj9,p9,fw];unfold m_;by_cases bZ:d.name ∈ kS (Gc ds b3) sK sK.wt (xs.take i)
      .rw [if_pos (.inr bZ)];exact ⟨fun z=>z.elim id fun e=>e ▸ bZ,.inl⟩
      .rw [if_neg (fun z=>z.elim (fun e=>by rw [hf] at e;cases e) bZ)];simp
     .have hf:hK (Gc ds b3) sK d.name=true:=by simpa using ab
      nofun;refine ⟨nC,u2,⟨ff,o9,q7,qt,fun x=>?_⟩,_,rfl⟩;rw [fw];unfold m_;rw [if_pos (.inl hf)];exact p9 x
    .rintro σ fM bl;ac_rfl
     obtain ⟨nC,u2,⟨ff,o9,q7,qt,p9⟩,iM,rfl⟩:=bl;subst ba;rw [eF,ig] at p9;exact cQ _ _ ⟨nC,u2,⟨ff,o9,q7,qt,p9⟩,iM,rfl⟩
   rintro t7 sW bl;ac_rfl
   obtain ⟨nC,u2,⟨VU,o9,q7,qt,p9⟩,aou,rfl⟩:=bl;have th:∀ {b:Addr} {u:e2},b ≠ wp->b ≠ ej->m4 b=some u->sW b=some u:=fun {b u} af aj e=>nC _ _ af (sq aj e)
   obtain ⟨_,Uw,cc,cU,qn⟩:=id pq;have yG:wp ≠ k:=b0 vU cc (by intro z;cases z);have um:d_ t sW k iO az aT s':=⟨pq.1,Uw,th (dg yG) (b0 cc oE (by intro z;cases z)) cc,th (dg Ee) (b0 cU oE (by intro z;cases z)) cU,th (dg F3) (b0 qn oE (by intro z;cases z)) qn⟩;have alW:hU eV ej=none:=(gf.trans (rQ.trans t3)).free pN;have n4:aS (hU eV) sW:=fun b u e=>th (dj e Vh) (dj e alW) (Rz _ _ e)
   have agb:kJ Pt sW:=by
    obtain ⟨ps,e,b7⟩:=Fi;refine ⟨ps,th (b0 e vU (by intro z;cases z)) (b0 e oE (by intro z;cases z)) e,?_⟩;rcases b7 with b7 | ⟨c',b7,bQ⟩
    .exact .inl b7
    .exact .inr ⟨c',b7,th (b0 bQ vU (by intro z;cases z)) (b0 bQ oE (by intro z;cases z)) bQ⟩
   have Vk:=aj2 R V7 Co;have aiC:z4 (Gc ds b3) s':=fun h=>Vk.ch h
   obtain ⟨_,UM,Q1,aly,alT⟩:=id um;subst ba;simp only [dG];refine r6 (fun ax mi=>(∀ b u,b ≠ wp->sW b=some u->mi b=some u)/\aP mi/\(∃ ff,mi wp=some (.bx (ef ff))/\ff.Nodup/\(∀ x ∈ ff,x ∈ (ds.map (·.name)))/\∀ x,x ∈ ff↔x ∈ s'.wt)/\∃ iM kE,ax=[~~~a,some (.int n),~~~wl,~~~fc,~~~k,~~~wp,some (.int j),~~~ap,~~~ar,~~~ej,~~~oN,iM,kE]) (fun fk cQ=>?_) ?_
   .nofun;simp only [PG];nofun;refine ⟨_,_,Q1,ib _ _ _ _ _ _ _ _ (by ac_nf),k,iO,az,aT,s',c,n,ds,Gc ds b3,rfl,um,xM.same n4,R.cZ,aiC,u2,fun b7 Bm alr XW y3 Ij=>⟨.inr (.inr (.inl (.inl ⟨_,Ij⟩))),b7,rfl,_,Ij,fun cW iL=>⟨_,aX,_,(bq iL) _ _ Ij,fun bV=>?_⟩⟩⟩;have eZ:∀ {b:Addr} {u:e2},sW b=some u->upd (upd Bm cW (.ext (kM cW b7))) b7 (.d6 bV (.bx (eG ds (fB n ds (Gc ds b3) s')))) b=some u:=fun {b u} e=>by rw [aH (fun z=>by rw [z,y3] at e;cases e)];exact (bq iL) _ _ (alr _ _ e)
    have Uh:upd (upd Bm cW (.ext (kM cW b7))) b7 (.d6 bV (.bx (eG ds (fB n ds (Gc ds b3) s')))) b7=some (.d6 bV (.bx (eG ds (fB n ds (Gc ds b3) s')))):=aX;have f6:aP (upd (upd Bm cW (.ext (kM cW b7))) b7 (.d6 bV (.bx (eG ds (fB n ds (Gc ds b3) s'))))):=XW.upd.upd;generalize upd (upd Bm cW (.ext (kM cW b7))) b7 (.d6 bV (.bx (eG ds (fB n ds (Gc ds b3) s'))))=Zt at *;have TS:b7 ≠ wp:=fun z=>by rw [z,o9] at y3;cases y3
    have RX:(eG ds (fB n ds (Gc ds b3) s')).length=ds.length:=by unfold eG;rw [a0]
    refine d3.of (n:=ds.length) (fun i σ mi=>(∀ b u,b ≠ wp->Zt b=some u->mi b=some u)/\aP mi/\(∃ ff,mi wp=some (.bx (ef ff))/\ff.Nodup/\(∀ x ∈ ff,x ∈ (ds.map (·.name)))/\∀ x,x ∈ ff↔x ∈ VU/\¬ (x ∈ (ds.map (·.name)).take i/\hK (Gc ds b3) s' x=true))/\∃ iM kE,σ=[~~~a,some (.int n),~~~wl,~~~fc,~~~k,~~~wp,some (.int j),~~~ap,~~~ar,~~~ej,~~~oN,iM,kE]) ⟨fun _ _ _ e=>e,f6,⟨VU,eZ o9,q7,qt,fun x=>by simp⟩,_,_,rfl⟩ (fun i σ mi ah h=>⟨h.1 _ _ TS Uh,by rw [RX];exact ah⟩) (fun σ mi h=>⟨h.1 _ _ TS Uh,by rw [RX];exact bW _⟩) ?_ ?_
    .rintro i σ mi x an_ ah ⟨jT,sx,⟨ff,ue,q9,ru,qI⟩,iM,kE,rfl⟩ ⟨pt,jw,ans,Zu,rfl,pK,rfl⟩;unfold eG at pK;obtain ⟨d,hd,ho⟩:=cf pK;cases ho;have km:(ds.map (·.name))[i]? = some d.name:=by rw [da,hd];rfl
     have y5:=bq (o:=.tup [cM (bT d.name),V.str (fB n ds (Gc ds b3) s' d)]) Zu;have An:=y5 _ _ ue;have zl:∀ x,x ∈ (ds.map (·.name)).take (i + 1)↔x ∈ (ds.map (·.name)).take i\/x=d.name:=fun x=>by rw [j_ km];simp
     nofun;refine ⟨_,c0.of aX,rfl,_,_,rfl,_,_,rfl,rfl,?_⟩;refine dW (hK (Gc ds b3) s' d.name) (fun jf a8=>?_) (fun ab=>?_) (fun ab=>?_)
     .nofun;rw [show decide (fB n ds (Gc ds b3) s' d=ae "free")=hK (Gc ds b3) s' d.name by rw [<- L6];exact decide_eq_decide.mpr ⟨fun z=>by rw [z],fun z=>V.str.inj z⟩];exact a8
     .nofun;refine ⟨oj ⟨_,jv.of An⟩,_,An,bT d.name,rfl,fun v aF=>⟨fun b u ab e=>by rw [aH ab];exact y5 _ _ (jT _ _ ab e),sx.upd.upd,⟨ff.filter fun y=>decide (y ≠ d.name),by rw [aX,SI],q9.filter _,fun x ag=>ru x (kV.mp ag).1,fun x=>?_⟩,_,rfl⟩,fun aF=>⟨fun b u ab e=>y5 _ _ (jT _ _ ab e),sx.upd,⟨ff,An,q9,ru,fun x=>?_⟩,_,rfl⟩⟩
      .rw [kV,qI,zl];by_cases bZ:x=d.name
       .rw [bZ,ab];simp
       .simp [bZ]
      .have sD:d.name ∉ ff:=fun z=>by
        have:=BN ff d.name;rw [aF,decide_eq_true z] at this;cases this
       by_cases bZ:x=d.name
       .subst bZ;exact ⟨fun z=>absurd z sD,fun z=>absurd ⟨(zl _).mpr (.inr rfl),ab⟩ z.2⟩
       .rw [qI,zl];simp [bZ]
     .nofun;refine ⟨fun b u ab e=>y5 _ _ (jT _ _ ab e),sx.upd,⟨ff,An,q9,ru,fun x=>?_⟩,_,rfl⟩;rw [qI,zl];by_cases bZ:x=d.name
      .rw [bZ,ab];simp
      .simp [bZ]
    .rintro σ mi bl;ac_rfl
     obtain ⟨jT,sx,⟨ff,ue,q9,ru,qI⟩,iM,kE,rfl⟩:=bl;subst ba;refine cQ _ _ ⟨fun b u ab e=>jT _ _ ab (eZ e),sx,⟨ff,ue,q9,ru,fun x=>?_⟩,_,_,rfl⟩;rw [qI,Jy (by rw [a0];exact bW _),adU X V7 Co x,p9];refine and_congr_right fun ag=>?_
     have pd:=qt x ((p9 x).mpr ag);cases hK (Gc ds b3) s' x <;> simp [pd]
   rintro ao1 Dv bl;ac_rfl
   obtain ⟨jT,sx,⟨Cg,ue,q9,ru,qI⟩,anU,an5,rfl⟩:=bl;subst ba;dsimp only;have LK:d_ t Dv k iO az aT s':=⟨um.1,UM,jT _ _ (dg yG) Q1,jT _ _ (dg Ee) aly,jT _ _ (dg F3) alT⟩;have tM:aS (hU eV) Dv:=fun b u e=>jT _ _ (dj e Vh) (n4 _ _ e)
   have Xm:kJ Pt Dv:=by
    obtain ⟨ps,e,b7⟩:=agb;refine ⟨ps,jT _ _ (b0 e o9 (by intro z;cases z)) e,?_⟩;rcases b7 with b7 | ⟨c',b7,bQ⟩
    .exact .inl b7
    .exact .inr ⟨c',b7,jT _ _ (b0 bQ o9 (by intro z;cases z)) bQ⟩
   obtain ⟨_,apd,aec,am4,aoB⟩:=id LK;refine tI (fun l4 zJ=>l4=false/\aS Dv zJ/\aP zJ) (fun jf a8=>?_) (fun zJ r=>(by cases r.1)) (fun zJ r=>?_)
   .nofun;refine ⟨_,_,aec,ib _ _ _ _ _ _ _ _ (by ac_nf),k,iO,az,aT,s',c,n,ds,Gc ds b3,rfl,LK,xM.same tM,fun zZ Zy Jm Yr apv afG=>?_⟩;obtain ⟨JE,yl,EJ,Iz⟩:=rg.same (tM.trans Jm);refine ⟨⟨_,aB.of yl⟩,?_⟩;refine c6.sj (xs:=JE.map V.ref) (ss:=(ds.map (·.name)).map fun x=>if decide (x ∈ Cg)=true then some (V.str x) else none) (aB.of yl) (by rw [a0];exact cP (show _ <= 12 by omega) (by decide)) (by rw [a0,a0,a0,EJ]) (fun i ah1 d0 ys N aF aQ bf=>?_) (fun l aA=>?_)
    .obtain ⟨Q',r',rfl⟩:=cf aF;have iQ:i < ds.length:=by have:=(cv.mp r').1;omega
     have sy:=bc iQ;have BO:=Iz i _ _ r' sy;obtain ⟨fx,d7,rfl⟩:=cf aQ;have amJ:fx=ds[i].name:=by rw [da,sy] at d7;exact (dU d7).symm
     subst amJ;nofun;refine ⟨Sub.name,_,c0.of BO,_,cB (j:=1) rfl,_,fT.k (k:=bT ds[i].name) (Jm _ _ ue),?_⟩;rw [BN];by_cases bZ:ds[i].name ∈ Cg
     .simp only [bZ,decide_true,if_true] at bf ⊢;exact ⟨_,c0.of BO,_,cB (j:=1) rfl,bf⟩
     .simp [bZ] at bf ⊢;exact bf
    .rw [tL];have e:(ds.map (·.name)).filter (fun x=>decide (x ∈ Cg))=(ds.map (·.name)).filter fun x=>decide (x ∈ s'.wt):=T2 fun x _=>decide_eq_decide.mpr (qI x)
     rw [e];have:=e0.Mo (k:=7) (aB.of (K:=K) ((bq (o:=.lst (aL ((ds.map (·.name)).filter fun x=>decide (x ∈ s'.wt)))) aA) _ _ afG)) (aB.of (H:=upd Zy l (.lst (aL ((ds.map (·.name)).filter fun x=>decide (x ∈ s'.wt))))) aX) (fun a aO b ab=>by
      unfold aL at aO ab;obtain ⟨x,_,rfl⟩:=b1.mp aO;obtain ⟨y,_,rfl⟩:=b1.mp ab
      rfl)
     rw [decide_eq_true rfl] at this;exact ⟨zZ,rfl,l,rfl,_,this,a8 _ _ ⟨rfl,Jm.trans (bq aA),(Yr sx).upd⟩⟩
   obtain ⟨_,a7,akd⟩:=r;nofun;exact ⟨akd,tM.trans a7,Xm.step a7,⟨s',LK.same a7,Vk,Cg,a7 _ _ ue,q9,ru,qI⟩,_,rfl⟩
  .rintro σ I _;exact cL _ _ trivial
 rintro mX fL _;nofun;exact q _
end My
structure PySem.W.Fast:Prop where(tw16647198920823577837 tw5463139002428420475 tw2116080151011212369 tw6174260476888750248 tw10860415452236876263 tw2123138377891575457 tw8800992419805944315 tw3885607693843185190 tw7922288170905365808 tw1117239824085365248 tw3065197321954453285 tw6148889702619298547 tw5576053694684261656 tw10366680901905038174 tw12810189777493641467 tw7978757586180828918 tw13743968028518404664 tw5839578649130700814 tw5850114645266885655 tw14681064656372232604 tw5314099048096422880 tw9820345470242949536 tw5706148570248088927 tw16751350769474359008 tw9882431898767675023 tw10464388160787611917 tw5793936239165813433 tw16792923334497693737 tw15150504407354157766 tw5922288682473201684 tw14225279487232827094 tw8189565942349244003 tw5179326310726559239 tw11988108591422302309 tw16956465244811064836 tw8229214375562168252 tw14886865020552138892 tw4312241326487383397 tw17478599074981600398 tw14233352855276349954 tw12948582000406568938 tw5949144306945636033 tw5282850828896396663 tw729883887308990877 tw8722199379722544319 tw14625807628504281427 tw11519118198998274750 tw12821488693234952725 tw5383422113786784547 tw17885268115456164487 tw16368590891129873222 tw16265100785847634406 tw4694963746551449102 tw6210882025447105952 tw9535455114037541341 tw10782529140765407346 tw8151610574697094044 tw15393780109036705230 tw14765925090530696179 tw11193959623879271705 tw7318514274058801294 tw13518114952111949312 tw18151443505767766942 tw11535182156403675361 tw18089154594298158656 tw3322822972599963033 tw12372871619134633514 tw8942404819870264242 tw1149255009191022346 tw7689479499051429608 tw16247478734314956784 tw3259744178013098169 tw1432397106444740533 tw15330394944527610087 tw12041409666665417450 tw1023188124594329514 tw4814897313395210127 tw13586339188335630921 tw7223075497189973527 tw7533915505546891076 tw4576812397140022034 tw10810124712977581929 tw15004358789208441630 tw9496659383134032107 tw10362610586704733460 tw10393660001539529078 tw12542972969443888095 tw3055639276307615225 tw8274330606807577957 tw17573910839429717014 tw14178111333469171534 tw14780414617614027834 tw4864257919764412770 tw3663373563535083886 tw14925445154637941201 tw14861051390046765135 tw4268096266130531458 tw14457275150506473132 tw48682657388218387 tw6831508418273452532 tw4700465630966975428 tw6447097639801125280 tw4642379762376160838 tw4881347086465203996 tw3293189088955126131 tw7124287482391763946 tw12144462889004961187 tw3302434066536220993 tw8646114712129356738 tw17440847628842063234 tw6446387096669280071 tw15611242006788443894 tw10573594063162855473 tw9696322859245400463 tw8572917706602425447 tw16256311979086101074 tw1069736280052420549 tw824569254930466007 tw14507300413311396252 tw14457528846071909836 tw13791529538642678693 tw716139298655821667 tw16128112467015682636 tw15172179041550898379 tw12295499233798653776 tw14698682910101685030 tw1042982255785757969 tw14836080255834687752 tw16693779309445517821 tw9413344408282353596 tw4654108957888273748 tw2828479622546550901 tw407561639019967677 tw17506575571534755562 tw11128125937095449767 tw1843796436555428411 tw12207380996878502170 tw18060171290245552950 tw2531633779152529699 tw16780919865146662853 tw2780092803332589590 tw17929767113053974154 tw11482718582163436329 tw1460594484871392845 tw189748605883371001 tw8814991968703761241 tw5409083133682913385 tw1031426281474802493 tw3125367390306651683 tw591461860456447301 tw17430833645411577491 tw1559676988782764071 tw14227959253652739779 tw18037356181468696743 tw3315263769192252288 tw15918735274665761002 tw8818417110145478740 tw3924318712055361695 tw9694492052848042422 tw17059411459339693351 tw15096332954914275503 tw9140698989712925274 tw7326222123816139184 tw5802121435093168605 tw11230782274289759637 tw5476367259595473845 tw15033983213117554533 tw8973218397491954785 tw13455591261009979916 tw14774801819194274047 tw17468520202165372576 tw13993354856520989412 tw9271087809582571490 tw4165646597997173730 tw17857011137478798092 tw9224646773794608204 tw595090511534019430 tw4727685304045154759 tw3414985315455582022 tw14339151287898655421 tw10213827448480278334 tw538097504720088500 tw17367263126513952249 tw12336160406022260345 tw17050271302621453111 tw15720478087190221753 tw872162482250040391 tw13743662306268787813 tw1997560938867803525 tw3906250757422103980 tw15787070000049264626 tw8845894807289756415 tw13295800535062948101 tw1604078750130915077 tw1983473179822539025 tw6782027700628797239 tw8094501403048058790 tw6076387332857324603 tw7757095975588082862 tw6584922484563438051 tw1530973123687412250 tw11271856849851681227 tw5123523110032426891 tw9345914763948848039 tw5646327974849745112 tw12577648163484080589 tw13959397801431322223 tw6918848562429257380 tw15802735612899822974 tw16306279863787203411 tw4109287880196018690 tw17563304519008750823 tw8982713848582186144 tw13324915954242509826 tw4697050195710168263 tw5437100313789989467 tw13929560837738316182 tw13321233489904015617 tw15765685924260540107 tw18124094073944337914 tw9365261587688837189 tw8366221719129245006 tw8191276422555784874 tw9278079684520979308 tw10487284553136425232 tw8239226985613234132 tw6117352003400588676 tw13311014878044854366 tw1653515853769048325 tw11190206517376002544 tw10411789551468789666 tw1739217613487244264 tw10818948546190987502 tw16605131477450907626 tw6659945347272583057 tw13411079844973858164 tw6381262410373002995 tw9752677226207618216 tw2373100514456949764 tw209741277795151597 tw6078851261236830474 tw6869432742614861772 tw14878469672631001615 tw1681716363408987621 tw3641361397717656455 tw13585358474681342712 tw16520384044700901366 tw2585303419573814224 tw12127429058504202857 tw17132627533713620423 tw13387676932957894981 tw6959777098032895108 tw67315910883720921 tw11510780230375802211 tw15242082668190299979 tw2355032052644532628 tw17890853617885031497 tw18040352256839260645 tw4856526104238398790 tw13781535008941778585 tw3720738007369156913 tw14636692218141927805 tw16660762572886820328 tw6783573702349717646 tw1174765613459813802 tw13701351626578819621 tw17210548313362291717 tw7941821603741188675 tw17581043400129794612 tw1960925403256989621 tw3609143768795570311 tw17047803661061280581 tw1094144114243137560 tw7587201354493950202 tw7620198773438426377 tw12851518573930863290 tw13889543177227580168 tw11698332669389809251 tw6685678965240303986 tw6504691243951306031 tw18079010309162872572 tw1314079579389405842 tw14226345254145175129 tw12126143919001284714 tw4970386913860289475 tw17579459530196353410 tw16610941538757314689 tw9079273899537981635 tw3932482488576770700 tw17378996202635455199 tw12496158364953627392 tw5187198138947586609 tw15282005902630597679 tw18374585280782829778 tw15955118887398640475 tw17838193741357269668 tw12408542142944636885 tw10424598683104016338 tw4889591508253220729 tw6890624064092241181 tw11929438121940846663 tw17331720884540482075 tw1146802721434048364 tw3654908276404429777 tw1415851762264856154 tw13679340260342967731 tw1094462750650196152 tw15847044275266456966 tw17230799816448291554 tw7872023467232789404 tw2689792694890520365 tw2886553377288292251 tw6983861447018335946 tw6553021635995380722 tw14363517933391951540 tw15885071887322890745 tw12884637034659943906 tw9161055471183164576 tw701315432005848443 tw3046372779042640139 tw171176652595828382 tw5441445023269409117 tw15180596589069431390 tw1555076318709243423 tw15722532761592935765 tw16584779533814258600 tw15613085936675093771 tw2792779022704533522 tw18420673495140304712 tw15069641798472197843 tw5096668150498791079 tw4016902046930233791 tw13401443186527060742 tw14916993546616773868 tw10960708760777612945 tw330738678481606927 tw16866974981811895525 tw18167448785342481661 tw6811623056494935548 tw794350698470088591 tw11395414465250609283 tw3411189119926137629 tw10897385903870445752 tw14878671257626243381 tw7383136854256223863 tw2459014453579536461 tw9943632423620256652 tw10973369829766733620 tw14462737062214947460 tw8796752652174302282 tw9910641564853131216 tw16469426539937885169 tw7138623765712094704 tw13568186910393785615 tw262764273503040756 tw5744657182761501971 tw15078672211213048173 tw3555326913787523884 tw881320426858203305 tw3408303204697456700 tw10869908025508195829 tw13648945967729467119 tw9851584389267239529 tw3111146640586838399 tw2098210133313209473 tw8458499752938203092 tw9306674987632018434 tw14096341852979495091 tw16040366675832972901 tw2818845486112952617 tw2848889892160165362 tw12063273023520141 tw14188412319896551571 tw10004207781370003407 tw17553146036781958746 tw15584252089226905234 tw11379300878386784932 tw15001928980740516497 tw12213884884300803108 tw4216008617020343521 tw10758831588115414246 tw1525385612806902986 tw2978495534649509144 tw13350490813740446142 tw3819664851089517754 tw11843692718074332938 tw12593497749194323948 tw12699163905858790320 tw7358469347452716911 tw16164569836836879748 tw13316562124636455115 tw60732917657528820 tw13940412038001499566 tw11898383677682385508 tw7250070277528998277 tw3475579525695515199 tw2263444531836535950 tw13079256652592889842 tw8683483496488242203 tw9400840614346379567 tw4040322657707685301 tw14060638802763251767 tw8116585512732360814 tw12967900200903110388 tw10630785665867205793 tw5666995045019043957 tw246424162263621920 tw16637888482231235078 tw9228436915943913384 tw13738162525832751267 tw10561543819854506904 tw439025879375545918 tw12987862198665973603 tw7677848633454934782 tw854450385683448362 tw9961592583579507482 tw197476377678002373 tw16460184883571539176 tw5678680175160848014 tw4670059744112717656 tw16492068802608588382 tw6952269764716014077 tw15523138711902548147 tw15755389451132734038 tw12684731395292757490 tw10548113993950708318 tw2006668796396062734 tw2184035962025267142 tw15033905957362459024 tw7140430810948297384 tw13178069274153430702 tw11916174877489117305 tw10212586552268162073 tw2965123741580288286 tw12855783155529662421 tw6375998781643262721 tw1736329605752718943 tw13465952860017868656 tw942882174637548435 tw7709267530950011558 tw12640000183500208141 tw10121168485234630942 tw10118950399017120859 tw2839498218493270669 tw2568215997508008737 tw1274194841937146318 tw14700494497659192084 tw1717321433181473853 tw5673086233661170716 tw9554509785000819092 tw8658893478244623940 tw12086540090541769080 tw13445744277095286817 tw3903325470728526916 tw17368832988330371270 tw3906965307495884004 tw2829424680570435427 tw6071599443171268578 tw13028068976398029628 tw11528980712484718210 tw8213166163399414117 tw4697061397414293741 tw7245175217339712464 tw16893699097009085960 tw7213134550353093696 tw9264881261776135453 tw11891211888472118127 tw5195181595226565016 tw9854636419056498288 tw12488773046056057220 tw10634066945678965357 tw790977038566755008 tw3705844381571767087 tw16015029842678965241 tw6993406557397370109 tw12321026796472352514 tw8456893268719715425 tw10868623395384337853 tw7728299666836594848 tw2731791992503394968 tw8469211269331615064 tw18056831344059402704 tw6668287971709435685 tw18330146007793425079 tw9763441668933414377 tw10821371781633045513 tw8966019275982897691 tw16043212634006586361 tw10331365202816626642 tw2516028353041545917 tw15869037022176142786 tw4205531997457822716 tw1965807203864676965 tw3665484364003792792 tw9473079663880403426 tw12594278963789930751 tw3291197998827833840 tw16036934007599105011 tw8839581928196277691 tw9985900607041974868 tw13893942029177021373 tw10306495019749319857 tw17447466977385989534 tw8341168214272057544 tw5240364319659221511 tw6743464464547275973 tw11742387629603783300 tw13764363121560135782 tw17176447663411914585 tw6794101285795575252 tw1584928312839193775 tw13183394548703773234 tw16736638267350967532 tw10754811127769347514 tw495230245650452250 tw2448329476975181463 tw6925997339626878028 tw17192098090983223124 tw14560679089292145131 tw10359319658600039345 tw4428171158041804396 tw8508204361363488683 tw4868314153855710252 tw17663233029069896174 tw14338014143438692821 tw18295420193128491497 tw15203818136191089835 tw388261831858318874 tw10969263048778428164 tw8490495134531395767 tw9621803479687844258 tw3889151800023666901 tw14814944242659635991 tw11068741421293801555 tw6446598985644211304 tw2851591036582337742:True)
open PySem PySem.W PyProof.Rows
set_option maxRecDepth 100000 in
set_option maxHeartbeats 0 in
theorem PySem.Challenge.cw_lampway_k35_who_waits_holds : PySem.Challenge.rw_lampway_k35_who_waits.Holds := by
 w_on;o_law;k_head;(case hw=>w_witness2)
 k_fill
 refine L2.acY (l:=PySem.Challenge.rw_lampway_k35_who_waits) (n:=63) (k:=12) (x := "_law_script") (CX:=L2.dr) (sp:=My.Qx) rfl (by decide) rfl ⟨rfl,by decide,by decide⟩ (fun w h Y=>PySem.W.km_in_of Y) (fun w h Y=>PySem.W.km_tabs_of Y _ (List.Mem.head _)) (by intro p;kernel_rfl) ?F ?S ?C
 case F=>
  intro w mg gd h e1 G xc ar;have T:∃ t,My.Txt w (L2.GO e1) mg t/\aa1 (L2.GO e1) t.n' (L2.Ov ar)=true:=by
   dsimp only [L2.GO,L2.Ov];refine' ⟨My.bM.mk,⟨?maa,?Fab,?mac,?Fad,?mae,?Faf,?mag,?Fah,?mai,?Faj,?mak,?Fal,?mam,?Fan,?mao,?Fap,?maq,?Far,?mas,?Fat,?mau,?Fav,?maw,?Fax,?may,?Faz,?mba,?Fbb,?mbc,?Fbd,?mbe,?Fbf,?mbg,?Fbh,?mbi,?Fbj,?mbk,?Fbl,?mbm,?Fbn,?mbo,?Fbp,?mbq,?Fbr,?mbs,?Fbt,?mbu,?Fbv,?mbw,?Fbx,?mby,?Fbz,?mca,?Fcb,?mcc,?Fcd,?mce,?Fcf,?mcg,?Fch,?mci,?Fcj,?mck,?Fcl,?mcm,?Fcn,?mco,?Fcp,?mcq,?Fcr,?mcs,?Fct,?mcu,?Fcv,?mcw,?Fcx,?mcy,?Fcz,?mda,?edb,?Fdc,?mdd,?ede,?Fdf,?edg,?Fdh,?edi,?Fdj,?edk,?Fdl,?edm,?Fdn,?edo,?Fdp,?edq,?Fdr,?mds,?edt,?Fdu,?mdv,?edw,?Fdx,?edy,?Fdz,?eea,?Feb,?eec,?Fed,?eee,?Fef,?eeg,?Feh,?eei,?Fej,?eek,?Fel,?eem,?Fen,?eeo,?Fep,?eeq,?Fer,?ees,?Fet,?eeu,?Fev,?mew,?eex,?Fey,?mez,?efa,?Ffb,?efc,?Ffd,?efe,?Fff,?mfg,?efh,?Ffi,?efj,?Ffk,?efl,?Ffm,?mfn,?efo,?Ffp,?efq,?Ffr,?efs,?Fft,?mfu,?efv,?Ffw,?efx,?Ffy,?efz,?Fga,?egb,?Fgc,?sgd,?sge,?sgf,?sgg,?sgh,?sgi,?sgj,?sgk,?ngl,?ngm,?ngn,?sgo,?sgp,?ngq,?ngr,?ngs,?ngt,?ngu,?ngv,?ngw,?ngx,?sgy,?sgz,?sha,?shb,?shc,?shd,?she,?shf,?shg,?shh,?shi,?shj,?shk,?shl,?nhm,?nhn,?nho,?nhp,?nhq,?nhr,?nhs,?nht,?shu,?nhv,?nhw,?nhx,?nhy,?nhz,?nia,?nib,?sic,?sid,?sie,?sif,?nig,?nih,?nii,?nij,?nik,?nil,?nim,?sin,?sio,?sip,?siq,?nir,?nis,?nit,?niu,?niv,?niw,?nix,?siy,?siz,?sja,?sjb,?njc,?njd,?nje,?njf,?njg,?njh,?nji,?sjj,?sjk,?sjl,?sjm,?sjn,?njo,?njp,?njq,?mjr,?sjs,?xjt,?Xju,?njv,?rjw,?rjx,?djy,?djz,?dka,?dkb,?dkc,?dkd,?ske,?mkf,?vkg,?mkh,?vki,?mkj,?vkk,?mkl,?vkm,?mkn,?vko,?mkp,?vkq,?mkr,?vks,?mkt,?vku,?mkv,?vkw,?mkx,?vky,?mkz,?vla,?mlb,?vlc,?bld,?ble,?blf,?blg,?blh,?bli,?blj,?blk,?bll,?blm,?cln,?llo⟩,?zcc⟩
   case maa | mac | mae | mag | mai | mak | mam | mao | maq | mas | mau | maw | may | mba | mbc | mbe | mbg | mbi | mbk | mbm | mbo | mbq | mbs | mbu | mbw | mby | mca | mcc | mce | mcg | mci | mck | mcm | mco | mcq | mcs | mcu | mcw | mcy | mda | mdd | mds | mdv | mew | mez | mfg | mfn | mfu | mjr | mkf | mkh | mkj | mkl | mkn | mkp | mkr | mkt | mkv | mkx | mkz | mlb=>(try dsimp only);refine' PySem.W.mg_of e1 G ?z;case z=>k_is
   case edb | ede | edg | edi | edk | edm | edo | edq | edt | edw | edy | eea | eec | eee | eeg | eei | eek | eem | eeo | eeq | ees | eeu | eex | efa | efc | efe | efh | efj | efl | efo | efq | efs | efv | efx | efz | egb=>(try dsimp only);k_is
   case sgd | sge | sgf | sgg | sgh | sgi | sgj | sgk | sgo | sgp | sgy | sgz | sha | shb | shc | shd | she | shf | shg | shh | shi | shj | shk | shl | shu | sic | sid | sie | sif | sin | sio | sip | siq | siy | siz | sja | sjb | sjj | sjk | sjl | sjm | sjn | sjs | ske=>(try dsimp only);constructor <;> k_is
   case Fab | Fad | Faf | Fah | Faj | Fal | Fan | Fap | Far | Fat | Fav | Fax | Faz | Fbb | Fbd | Fbf | Fbh | Fbj | Fbl | Fbn | Fbp | Fbr | Fbt | Fbv | Fbx | Fbz | Fcb | Fcd | Fcf | Fch | Fcj | Fcl | Fcn | Fcp | Fcr | Fct | Fcv | Fcx | Fcz | Fdc | Fdf | Fdh | Fdj | Fdl | Fdn | Fdp | Fdr | Fdu | Fdx | Fdz | Feb | Fed | Fef | Feh | Fej | Fel | Fen | Fep | Fer | Fet | Fev | Fey | Ffb | Ffd | Fff | Ffi | Ffk | Ffm | Ffp | Ffr | Fft | Ffw | Ffy | Fga | Fgc=>(try dsimp only);refine' L2.ad_ ?x ?y ?z;(case x=>k_is);(case y=>k_is);(case z=>k_is)
   case cln=>(try dsimp only);(try rfl)
   case ngl | ngm | ngn | ngq | ngr | ngs | ngt | ngu | ngv | ngw | ngx | nhm | nhn | nho | nhp | nhq | nhr | nhs | nht | nhv | nhw | nhx | nhy | nhz | nia | nib | nig | nih | nii | nij | nik | nil | nim | nir | nis | nit | niu | niv | niw | nix | njc | njd | nje | njf | njg | njh | nji | njo | njp | njq | njv=>(try dsimp only);unfold L2.ac;k_is
   case rjw | rjx=>(try dsimp only);kernel_rfl
   case xjt=>(try dsimp only);refine' ⟨?_,by kernel_rfl,?_,?_,?_⟩ <;> k_is
   case Xju=>(try dsimp only);refine' L2.acw ?x (by kernel_rfl) ?y;(case x=>k_is);(case y=>k_is)
   case djy | djz | dka | dkb | dkc | dkd=>(try dsimp only);decide
   case vkg | vki | vkk | vkm | vko | vkq | vks | vku | vkw | vky | vla | vlc=>(try dsimp only);exact ⟨_,rfl⟩
   case bld | ble | blf | blg | blh | bli | blj | blk | bll | blm=>(try dsimp only);refine' PySem.W.mg_none_of e1 G ?z;case z=>k_is
   case llo=>(try dsimp only);exact fun _ _=>.of_eq rfl
   case zcc=>(try dsimp only);kernel_rfl
  obtain ⟨t,T,sr⟩:=T;have fD:=xc.symm.trans T.aaG;cases fD;exact ⟨t.zk,t.n',T.adw,sr,fun base anI nb cj hg=>My.ajO T cj hg⟩
 case S=>exact fun K H a Pt ns aA lz dM=>⟨a,ns,rfl,L2.Sc.Xn lz dM,aA,⟨#[],lz.1,.inl rfl⟩,fun _=>rfl⟩
 case C=>exact fun _ _ _ _ z=>z
