import PyProof.Rows.All
import Wide.All
import OpenK.AllK
import Wide.FinOn
import Lean
import PyProof.EqAt
import PyProof.EqKinds
import PyProof.TupleCall
import KE.KTryMore
import PyProof.NsDelKeeps
import PySem.Challenge.RW_lampway_k37_whole_safe_and_in_order
set_option compiler.extract_closed false
set_option Elab.async false
set_option linter.all false
set_option autoImplicit true
set_option maxRecDepth 100000
local macro_rules | `(tactic| ac_nf)=>`(tactic| decide +kernel)
local macro_rules | `(tactic| omega)=>`(tactic| first | with_reducible assumption | with_reducible exact Nat.le_of_lt (by assumption) | with_reducible exact Int.le_of_lt (by assumption) | with_reducible exact Int.natCast_nonneg _ | with_reducible exact Nat.zero_le _ | omega (splitDisjunctions := true))
open Array renaming append_assoc→ZA,getElem?_eq_none→ag9,getElem?_toList→aa_,length_toList→DB,toList→abc,toList_append→nq,toList_inj→Nx
open Bool renaming and_eq_true→hy,and_false→ZI,eq_iff_iff→kD,false_and→k2,false_eq_true→FF,false_ne_true→fB,false_or→kX,not_true→aeV,or_eq_false_iff→sT,or_eq_true→v5,or_false→SE,or_true→Ri,true_and→kG,true_or→q7
open Char renaming toNat→wO
open Except renaming ok→pF
open False renaming elim→iK
open ForInStep renaming yield→uO
open Int renaming emod_eq_of_lt→GZ,emod_lt_of_pos→w7,emod_nonneg→BQ,le_refl→Zp,le_trans→T3,mul_lt_mul'→XX,mul_nonneg→aia,toNat_natCast→nd,toNat_of_nonneg→pv,zero_add→oj
open List renaming all_cons→adT,all_eq_true→m7,all_map→adR,any_cons→ui,any_eq_false→NG,any_eq_true→p6,any_map→K_,append_assoc→o8,append_nil→z3,cons_append→Bj,contains_cons→Mx,dropLast_concat→ab',drop_eq_getElem_cons→q8,drop_length→uE,drop_zero→UT,exists_cons_of_ne_nil→sx,filterMap_cons→NM,filter_congr→TL,filter_cons→aal,filter_cons_of_neg→aiu,filter_cons_of_pos→afy,filter_eq_nil_iff→NF,find?→acz,find?_cons→rR,find?_eq_none→Xg,findSome?_cons→Jw,findSome?_eq_none_iff→DN,flatMap_append→yQ,flatMap_cons→wY,flatMap_nil→U4,flatten_append→abv,flatten_cons→ti,foldl_append→JA,foldl_cons→YF,foldl_nil→Yr,getD→As,getD_eq_getElem?_getD→iV,getElem?_append_left→gD,getElem?_append_right→i5,getElem?_cons_succ→A_,getElem?_eq_getElem→a',getElem?_eq_none→Ws,getElem?_eq_none_iff→DM,getElem?_eq_some_iff→b6,getElem?_map→dm,getElem?_of_mem→jv,getElem?_set_ne→A6,getElem?_set_self→H8,getElem?_take_of_lt→sq,getElem_inj→DE,getElem_map→H5,getElem_mem→jg,getElem_of_mem→C5,getLast?_concat→UQ,head?_eq_none_iff→Wq,length→pT,length_append→c6,length_cons→hQ,length_drop→tP,length_filter_le→Aj,length_map→aU,length_nil→tX,length_pos_iff→LF,length_pos_of_mem→WH,length_range→tr,length_set→IA,length_singleton→ju,length_take→hq,lookup→oh,lookup_cons→kk,map→rQ,map_append→fz,map_congr_left→ah1,map_cons→eV,map_map→pO,map_nil→qh,map_take→acK,mem_append→f5,mem_append_left→pg,mem_append_right→iz,mem_cons→fh,mem_cons_of_mem→hL,mem_cons_self→l4,mem_filter→lT,mem_filterMap→aeg,mem_flatten→Qf,mem_iff_getElem→Xr,mem_map→cp,mem_of_getElem?→cB,mem_of_mem_drop→WU,mem_of_mem_take→sV,mem_or_eq_of_mem_set→K7,mem_range→om,mem_singleton→eC,nil_append→uI,nodup_append→CN,nodup_cons→rr,nodup_nil→RY,not_mem_nil→o9,of_mem_zip→Mt,perm_append_comm→acd,perm_middle→YD,range→fL,range_succ→t_,replicate→JZ,reverse_cons→YS,set_cons_succ→jI,set_cons_zero→jX,size_toArray→eb,sublist_flatten_of_mem→abu,sum_cons→Pl,take_add_one→ov,take_append_drop→Rj,take_length→iq,take_of_length_le→Jz,take_zero→o5
open List.Pairwise renaming imp_of_mem→akl,nil→ajZ
open List.Perm renaming append_left→aet
open List.cons renaming inj→ue
open Nat renaming le_of_eq→aao,le_of_lt→nu,le_refl→bW,le_succ→Fp,le_trans→c4,log2_lt→Ug,lt_irrefl→nA,lt_of_le_of_lt→hp,lt_of_lt_of_le→hC,lt_succ_self→Fe,lt_trans→EC,min_eq_left→ac',ne_of_gt→Mo,ne_of_lt→gz,reduceAdd→Xl,reduceSub→abr,sub_self→mU,succ_mul→ag3,toDigits→sW,zero_add→Y4,zero_le→fk
open Ne renaming symm→eg
open Option renaming bind_some→uN,getD_none→ZC,isSome_iff_exists→agQ,isSome_map→UN,map_eq_some_iff→uL,map_some→BM,none→si,toList→yM
open Option.some renaming inj→dh
open Or renaming inl→oQ,inr→mM
open Prod.mk renaming inj→J_
open PyProof.Rows renaming callWith_builtin1→aiF,callWith_type1→Kd,iadd_int→ai1,slot_tuple_getitem→Q1,split_weight→ahO
open PySem renaming Within→BV,call→Ux,mem_of_lookup→t2
open PySem.Around renaming frames_deeper→abE,under→LG,under_plainId→Qp
open PySem.Builtin.Builtins renaming bindParams→ae2
open PySem.Builtin.Dict renaming dictSlotNone→akX,showsAll→ahi
open PySem.Builtin.Dict_items renaming ownsTuple→agB
open PySem.Builtin.List renaming listTooLong→Nu
open PySem.Builtin.Range renaming rangeSize→aiX
open PySem.Builtin.Slice renaming sliceAdjust→N_,sliceApplied→agw,sliceFields→akw,slicePartIndex→akY,slicePlaces→Hw
open PySem.Builtin.Str renaming occurrences→rJ,partsBetween→af5,strKind→Xa
open PySem.Builtin.Tuple renaming tupleExact→Ji,tupleItemsOf→ai2
open PySem.Calls renaming Name_function_global→Wj,callWith_builtin→aap,evalArgs_plain→Zn,spliced_cons→Lm,spliced_nil→aim
open PySem.CmpOp renaming NotIn→TO
open PySem.Code renaming frames→abW,isFrame→Mu
open PySem.Data renaming fields→S9
open PySem.EqMixed renaming eq_bool_str→akA,eq_int_str→ajW,eq_str_bool→akS,eq_str_int→akv,ne_bool_str→ajK,ne_int_str→alm,ne_str_bool→alj,ne_str_int→akm
open PySem.EqNone renaming eq_bool_none→ali,eq_int_none→alc,eq_none_bool→akG,eq_none_int→aiM,eq_none_none→ajO,eq_none_str→akz,eq_str_none→aj1,ne_bool_none→ak4,ne_int_none→ala,ne_none_bool→aka,ne_none_int→ajd,ne_none_none→akE,ne_none_str→ajS,ne_str_none→ajQ
open PySem.F renaming args_dict_keyiterator_next_1→af4,args_dict_pop_3→T5,args_str_split_2→Ph,entry_dict_keyiterator_next→aep,entry_dict_pop→WJ,entry_min_loop→Ro,entry_str_split→Rk,plainAttrs_list→iM,plainAttrs_str→tu,plain_min_loop→tY,slot_dict_getitem→Y2,slot_dict_iter→S6,slot_dict_keyiterator_next→xu,slot_dict_pop→QM,slot_list_append→kO,slot_list_extend→Ea,slot_list_insert→Dq,slot_str_join→BC,slot_str_split→zy,type_list_append→kT,type_list_extend→MJ,type_list_insert→QG,type_str_join→zb,type_str_split→XT
open PySem.Heap renaming SameBut→wi,get?_push_of_some→e2,get?_push_size→hN,get?_update_other→tm,get?_update_self→Xk,lt_size→eA,size_push→Nn
open PySem.Heap.IsSliceOf renaming new→alv
open PySem.Heap.SameBut renaming update→Yi
open PySem.NameKind renaming cell→Qc,free→qi
open PySem.NumText renaming digitsVal→RB
open PySem.Obj renaming data_mapFields→X7,mapFields→afs,mapSeq→pU
open PySem.Paired renaming length→IW,snoc→Ld
open PySem.PassesOwn renaming never→fm
open PySem.SeqAt renaming EqAt→Fq,RcAt→FQ
open PySem.SeqAt.EqAt renaming int_str→Wu,of_refs→J0,same→RW,str_int→ack
open PySem.SeqAt.RcNeAt renaming lists→ak9,lists_lengths→akP,tuples→ajl
open PySem.Str renaming cps_append→nh,join→dV,length→sO,ofString→aa
open PySem.StrLaws renaming glued_eq_join→uA,sliceText→tV
open PySem.Txt renaming join→o3,slice→lx,slice_le→sE,split→ik
open PySem.Value renaming bool→j4,bytes→ahq,float→abJ,int→oT,isInt→Vb,isStrOf→UR,none→qv,ref→fN,str→uV,type→ab1
open PySem.W renaming CodeHd→qo,Frag→ba,callWith_K→Hc,callWith_K0→VA,cellsFrom_some→Vv,clsIn→We,codeHdIn→ahL,codeIn→LD,emptyDict→pe,envX→HM,findCls→agi,findIn→dq,fnOf→v9,handedIn→TU,hasDictIn→x1,instObj→rm,isFn→KW,keepIn→qS,kla_fn→ace,kla_obj→vS,lookIn→Ga,makesIn→ab6,methodCall_KW→CK,methodObj→Qj,mroIn→EV,noTabs→T6,plainGet→B6,plainGet_of→Pr,plainOver→agG,readsIn→afH,specialIn→tb,tabObj→MA,takerIn→Sq,takesIn→IL,typeIn→ag_
open PySem.W.KIN renaming signs_num→abn
open PySem.W.Looks renaming here→akK
open PySem.W.WData renaming int→acX
open PySem.W.WShape renaming has→abf
open PySem.Walks renaming list→zW
open PySem.Within renaming cons→aiV
open Sum renaming inl→o',inr→bc
open Sum.inr renaming inj→rK
open True renaming intro→kQ
namespace L2
open PySem PySem.Spec PyProof.Rows
noncomputable abbrev Key:=Sum Int Str
noncomputable def sH:Key->Value->Bool
 | .inl k,v=>Vb k v
 | .inr x,v=>UR x v
noncomputable def T8 (w:World):Key->Int
 | .inl k=>hashInt k
 | .inr x=>hashStr w x
theorem nx:∀ {k:Key} {v:Value},sH k v=true->(∃ i t,k=o' i/\v=oT i t)\/(∃ x t,k=bc x/\v=uV x t)
 | .inl i,v,h=>by
  obtain ⟨t,e⟩:=Value.isInt_shape (k:=i) (v:=v) h;exact .inl ⟨i,t,rfl,e⟩
 | .inr x,v,h=>by
  obtain ⟨t,e⟩:=Value.isStrOf_shape (x:=x) (v:=v) h;exact .inr ⟨x,t,rfl,e⟩
theorem X6 (i:Int) (t:Tok):sH (.inl i) (.int i t)=true:=by simp [sH,Vb]
theorem aij (x:Str) (t:Tok):sH (.inr x) (.str x t)=true:=by simp [sH,UR]
theorem ad6 (a b:Int):decide ((o' a:Key)=o' b)=(a == b):=by
 by_cases e:a=b
 .subst e;simp
 .have h:¬ (o' a:Key)=o' b:=fun q=>e (Sum.inl.inj q)
  rw [decide_eq_false h];exact (beq_eq_false_iff_ne.mpr e).symm
theorem adv (a b:Str):decide ((bc a:Key)=bc b)=decide (a=b):=by
 by_cases e:a=b
 .subst e;simp
 .have h:¬ (bc a:Key)=bc b:=fun q=>e (rK q)
  rw [decide_eq_false h,decide_eq_false e]
theorem ag4 (a:Int) (b:Str):decide ((o' a:Key)=bc b)=false:=decide_eq_false (fun q=>nomatch q)
theorem XB (a:Str) (b:Int):decide ((bc a:Key)=o' b)=false:=decide_eq_false (fun q=>nomatch q)
noncomputable def hV (prog:Program) (w:World):PySem.KeyKind prog w Key where
 is:=sH
 hash:=T8 w
 inj:=fun v a b aX ae=>by
  rcases nx aX with ⟨i,t,rfl,rfl⟩ | ⟨x,t,rfl,rfl⟩
  .rcases nx ae with ⟨j,u,rfl,e⟩ | ⟨y,u,rfl,e⟩
   .injection e with au _;rw [au]
   .exact nomatch e
  .rcases nx ae with ⟨j,u,rfl,e⟩ | ⟨y,u,rfl,e⟩
   .exact nomatch e
   .injection e with au _;rw [au]
 byValue:=fun k v h=>by
  rcases nx h with ⟨i,t,rfl,rfl⟩ | ⟨x,t,rfl,rfl⟩ <;> rfl
 pyHash:=fun aK h=>by
  rcases nx aK with ⟨i,t,rfl,rfl⟩ | ⟨x,t,rfl,rfl⟩
  .exact wpAny_pyHash_int h
  .exact wpAny_pyHash_str h
 eqBool:=fun bq aK h=>by
  rcases nx bq with ⟨i,t,rfl,rfl⟩ | ⟨x,t,rfl,rfl⟩
  .rcases nx aK with ⟨j,u,rfl,rfl⟩ | ⟨y,u,rfl,rfl⟩
   .rw [ad6] at h;exact wpAny_eqBool_int h
   .rw [ag4] at h;exact Wu i t y u _ _ _ _ h
  .rcases nx aK with ⟨j,u,rfl,rfl⟩ | ⟨y,u,rfl,rfl⟩
   .rw [XB] at h;exact ack x t j u _ _ _ _ h
   .rw [adv] at h;exact wpAny_eqBool_str h
 «strs»:=fun k x t v h=>by
  rcases nx h with ⟨i,u,rfl,e⟩ | ⟨y,u,rfl,e⟩
  .exact nomatch e
  .injection e with au _;subst au;cases v <;> rfl
theorem V0 (prog:Program) (w:World) (i:Int) (t:Tok):(hV prog w).is (.inl i) (.int i t)=true:=X6 i t
theorem Ud (prog:Program) (w:World) (x:Str) (t:Tok):(hV prog w).is (.inr x) (.str x t)=true:=aij x t
inductive V where
 | bU | bl (b:Bool) | int (i:Int) | str (x:Str) | kH (b:Array UInt8) | tq (b:UInt64) | ref (a:Addr) | ty (n:String)
 deriving DecidableEq
noncomputable def bH:V->Value->Prop
 | .bU,u=>u=qv
 | .bl b,u=>u=j4 b
 | .int i,u=>∃ t,u=oT i t
 | .str x,u=>∃ t,u=uV x t
 | .kH b,u=>∃ t,u=ahq b t
 | .tq b,u=>∃ t,u=abJ b t
 | .ref a,u=>u=fN a
 | .ty n,u=>u=ab1 n
noncomputable abbrev bY:List V->List Value->Prop:=Paired bH
theorem bY.length (r:bY xs us):xs.length=us.length:=IW r
theorem bY.get:∀ {xs:List V} {us:List Value} {i:Nat} {x:V},bY xs us->xs[i]? = some x->∃ u,us[i]? = some u/\bH x u
 | _,_,_,_,.nil,e=>by simp at e
 | _,_,0,_,.cons r _,e=>by simp at e;subst e;exact ⟨_,rfl,r⟩
 | _,_,i + 1,x,.cons _ t,e=>by
  obtain ⟨u,af,ao⟩:=bY.get (i:=i) (x:=x) t (by simpa using e);exact ⟨u,by simpa using af,ao⟩
theorem bY.set {x:V} (r:bH x u):∀ {xs:List V} {us:List Value} (i:Nat),bY xs us->bY (xs.set i x) (us.set i u)
 | _,_,_,.nil=>.nil
 | _,_,0,.cons _ t=>.cons r t
 | _,_,i + 1,.cons q t=>.cons q (bY.set r i t)
theorem bY.append:∀ {xs ys:List V} {us ws:List Value},bY xs us->bY ys ws->bY (xs ++ ys) (us ++ ws)
 | _,_,_,_,.nil,s=>s
 | _,_,_,_,.cons r t,s=>.cons r (bY.append t s)
theorem bY.take:∀ {xs:List V} {us:List Value} (n:Nat),bY xs us->bY (xs.take n) (us.take n)
 | _,_,0,_=>.nil
 | _,_,_ + 1,.nil=>.nil
 | _,_,n + 1,.cons r t=>.cons r (bY.take n t)
theorem bY.drop:∀ {xs:List V} {us:List Value} (n:Nat),bY xs us->bY (xs.drop n) (us.drop n)
 | _,_,0,r=>r
 | _,_,_ + 1,.nil=>.nil
 | _,_,n + 1,.cons _ t=>bY.drop n t
theorem bY.none_of:∀ {xs:List V} {us:List Value} {i:Nat},bY xs us->xs[i]? = none->us[i]? = none:=fun {xs us i} r e=>by
 have af:=r.length;have ao:xs.length <= i:=DM.mp e;exact DM.mpr (by omega)
noncomputable def hD:Option V->Option Value->Prop
 | some v,some u=>bH v u
 | none,none=>True
 | _,_=>False
noncomputable def ez {ei:Type}:List (ei × V)->List (ei × Value)->Prop:=Paired fun (p:ei × V) (q:ei × Value)=>p.1=q.1/\bH p.2 q.2
noncomputable def dw:Key->V
 | .inl i=>.int i
 | .inr x=>.str x
inductive f6 where
  | lst (xs:List V)
  | tup (xs:List V)
  | bw (kvs:List (Key × V)) | fU (kvs:List (List Key × V))
  | set (S:Int->Bool) (n:Nat)
  | ins (C ar:Addr) (aH:List (Str × V))
  | own (x:Addr)
  | A5 (aH:List (Str × V))
  | met (f x:Addr)
  | ym (lo ah:Int)
  | eL (o:Obj) (u:f6)
  | gI (ps:Array Value)
  | ext (sX:Heap->Prop)
noncomputable abbrev aq:=Addr->Option f6
noncomputable def upd (H:aq) (a:Addr) (o:f6):aq:=fun b=>if b=a then some o else H b
theorem db:upd H a o a=some o:=by unfold upd;rw [if_pos rfl]
theorem aF (h:b ≠ a):upd H a o b=H b:=by unfold upd;rw [if_neg h]
theorem qY:upd (upd H a o) a u=upd H a u:=by
 funext b;unfold upd;split <;> rfl
theorem b8 {H:aq} {a b:Addr} {o u:f6} (h:H a=some o) (h':H b=some u) (d:o ≠ u):a ≠ b:=by
 intro e;subst e;rw [h] at h';exact d (dh h')
theorem dB {H:aq} {a b:Addr} {o:f6} (h:H a=some o) (h':H b=none):a ≠ b:=by
 intro e;subst e;rw [h] at h';cases h'
section
variable (P:Program) (w:World)
noncomputable def ek (H:aq) (h:Heap) (a:Addr):f6->Prop
 | .lst xs=>xs.length <= sizeLine/\∃ (a6:List Value) (n:Nat),bY xs a6/\h.get? a=some { cls:=.type "list",data:=.seq a6.toArray n }
 | .tup xs=>xs.length <= sizeLine/\∃ a6:List Value,bY xs a6/\IsTup h a a6.toArray
 | .bw kvs=>kvs.length <= sizeLine/\(a == sysModules)=false/\∃ vs,ez kvs vs/\h.DictOf (hV P w) a vs
 | .fU kvs=>kvs.length <= sizeLine/\(a == sysModules)=false/\∃ xs:List (List Key × Addr × Value),
   Paired (fun (p:List Key × V) (q:List Key × Addr × Value)=>p.1=q.1/\H q.2.1=some (.tup (p.1.map dw))/\bH p.2 q.2.2) kvs xs /\
   ∃ o a4 cF,h.get? a=some o/\o.ExactDict/\o.data=.dict a4 cF/\a4.toList=xs.map (entryOfKey (tupleKind (hV P w)))/\(xs.map (·.1)).Nodup
 | .set S n=>h.SetOf (intKind P w) a S n
 | .ins C ar aH=>H ar=some (.own a)/\aH.length <= 1000/\ar ≠ a/\h.get? a=some (rm C ar) /\
   ∃ dW,h.Ns1 ar dW/\(∀ f,hD (aH.lookup f) (dW f))/\BV dW (aH.map (·.1))
 | .own _=>∃ o,h.get? a=some o
 | .A5 aH=>∃ dW,h.Ns1 a dW/\∀ f,hD (aH.lookup f) (dW f)
 | .ym lo ah=>∃ t u v,h.get? a=some { cls:=.type "range",data:=.fields #[.int lo t,.int ah u,.int 1 v] }
 | .eL o u=>h.get? a=some o/\ek H h a u
 | .gI ps=>h.get? a=some { cls:=.none,data:=.fields ps }
 | .met f x=>h.get? a=some (Qj (.ref f) (.ref x))
 | .ext sX=>sX h/\(∃ o,h.get? a=some o)/\∀ af ao:Heap,sX af->(∀ o,af.get? a=some o->ao.get? a=some o)->sX ao
def ep (H:aq) (h:Heap):Prop:=∀ a o,H a=some o->ek P w H h a o
end
section
variable {P:Program} {w:World} {H I:aq} {h h':Heap} {a:Addr} {o:f6}
theorem ek.lt (x:ek P w H h a o):a < h.objs.size:=by
 cases o with
 | lst xs=>obtain ⟨_,_,_,_,e⟩:=x;exact eA e
 | tup xs=>obtain ⟨_,_,_,p⟩:=x;exact p.lt
 | bw kvs=>obtain ⟨_,_,_,_,o,_,_,e,_⟩:=x;exact eA e
 | fU kvs=>obtain ⟨_,_,_,_,o,_,_,e,_⟩:=x;exact eA e
 | set S n=>obtain ⟨o,_,_,_,e,_⟩:=x;exact eA e
 | ins C ar aH=>obtain ⟨_,_,_,e,_⟩:=x;exact eA e
 | own y=>obtain ⟨_,e⟩:=x;exact eA e
 | A5 aH=>obtain ⟨_,⟨_,_,_,e,_⟩,_⟩:=x;exact eA e
 | ym lo ah=>obtain ⟨_,_,_,e⟩:=x;exact eA e
 | eL bZ u=>obtain ⟨e,_⟩:=x;exact eA e
 | gI ps=>exact eA (show h.get? a=some _ from x)
 | met f y=>exact eA (show h.get? a=some _ from x)
 | ext sX=>obtain ⟨_,⟨_,e⟩,_⟩:=x;exact eA e
theorem Paired.qb:∀ {l₁:List α} {l₂:List β},Paired F l₁ l₂->(∀ a b,F a b->G a b)->Paired G l₁ l₂
 | _,_,.nil,_=>.nil
 | _,_,.cons r t,f=>.cons (f _ _ r) (Paired.qb t f)
theorem ek.nL (x:ek P w H h a o) (k:∀ b u,(b=a\/H b=some (.own a))->h.get? b=some u->h'.get? b=some u)
  (aS:∀ b,H b=some (.own a)->I b=some (.own a)) (cS:∀ b xs,H b=some (.tup xs)->I b=some (.tup xs)):ek P w I h' a o:=by
 induction o with
 | lst xs=>obtain ⟨z,a6,n,r,e⟩:=x;exact ⟨z,a6,n,r,k _ _ (.inl rfl) e⟩
 | tup xs=>obtain ⟨z,a6,r,bZ,e,c⟩:=x;exact ⟨z,a6,r,bZ,k _ _ (.inl rfl) e,c⟩
 | bw kvs=>obtain ⟨z,y,vs,r,bZ,a4,cF,e,c⟩:=x;exact ⟨z,y,vs,r,bZ,a4,cF,k _ _ (.inl rfl) e,c⟩
 | fU kvs=>
  obtain ⟨z,y,xs,r,bZ,a4,cF,e,c⟩:=x;exact ⟨z,y,xs,Paired.qb r fun p q z=>⟨z.1,cS _ _ z.2.1,z.2.2⟩,bZ,a4,cF,k _ _ (.inl rfl) e,c⟩
 | set S n=>obtain ⟨bZ,a4,cF,t,e,c⟩:=x;exact ⟨bZ,a4,cF,t,k _ _ (.inl rfl) e,c⟩
 | ins C ar aH=>
  obtain ⟨d,z,ne,e,dW,⟨dp,a4,cF,aI,c⟩,r⟩:=x;exact ⟨aS _ d,z,ne,k _ _ (.inl rfl) e,dW,⟨dp,a4,cF,k _ _ (.inr d) aI,c⟩,r⟩
 | own y=>obtain ⟨bZ,e⟩:=x;exact ⟨bZ,k _ _ (.inl rfl) e⟩
 | A5 aH=>obtain ⟨dW,⟨dp,a4,cF,e,c⟩,r⟩:=x;exact ⟨dW,⟨dp,a4,cF,k _ _ (.inl rfl) e,c⟩,r⟩
 | ym lo ah=>obtain ⟨t,u,v,e⟩:=x;exact ⟨t,u,v,k _ _ (.inl rfl) e⟩
 | eL bZ u b9=>obtain ⟨e,q⟩:=x;exact ⟨k _ _ (.inl rfl) e,b9 q⟩
 | gI ps=>
  have e:h.get? a=some { cls:=.none,data:=.fields ps }:=x;show h'.get? a=some { cls:=.none,data:=.fields ps };exact k a _ (.inl rfl) e
 | met f y=>
  have e:h.get? a=some (Qj (.ref f) (.ref y)):=x;show h'.get? a=some (Qj (.ref f) (.ref y));exact k a _ (.inl rfl) e
 | ext sX=>obtain ⟨p,⟨o,e⟩,st⟩:=x;exact ⟨st _ _ p fun o q=>k _ _ (.inl rfl) q,⟨o,k _ _ (.inl rfl) e⟩,st⟩
theorem ep.lt (x:ep P w H h) (e:H a=some o):a < h.objs.size:=(x a o e).lt
theorem ep.fresh (x:ep P w H h) (e:h.objs.size <= a):H a=none:=by
 cases q:H a with
 | none=>rfl
 | some u=>exact absurd (hC (x.lt q) e) (nA _)
theorem ep.kept (x:ep P w H h) (k:∀ b u,h.get? b=some u->h'.get? b=some u):ep P w H h':=fun a o e=>
 (x a o e).nL (fun b u _ q=>k b u q) (fun _ q=>q) fun _ _ q=>q
theorem ep.laid (x:ep P w H h) (k:∀ b u,h.get? b=some u->h'.get? b=some u) (av:h.objs.size <= a) (new:ek P w (upd H a o) h' a o):ep P w (upd H a o) h':=fun b u e=>by
 have aT:=x.fresh av;by_cases ae:b=a
 .subst ae;rw [db] at e;cases e;exact new
 .rw [aF ae] at e;exact (x b u e).nL (fun c v _ q=>k c v q) (fun c q=>by rw [aF (dB q aT)];exact q) fun c xs q=>by rw [aF (dB q aT)];exact q
end
def jQ (H:aq) (a:Addr) (u:f6):Prop:=H a=some u\/∃ o,H a=some (.eL o u)
theorem jQ.of (h:H a=some u):jQ H a u:=.inl h
theorem jQ.ok {w:World} {h:Heap} (r:jQ H a u) (x:ep P w H h):ek P w H h a u:=by
 rcases r with r | ⟨o,r⟩
 .exact x a u r
 .obtain ⟨_,q⟩:=x a _ r;exact q
noncomputable def nP:Option f6->Prop
 | some (.lst _)=>True
 | some (.bw _)=>True
 | some (.fU _)=>True
 | some (.set _ _)=>True
 | some (.ins _ _ _)=>True
 | some (.ext _)=>True
 | _=>False
section
variable {P:Program} {w:World} {H:aq} {h h':Heap} {x e:Addr} {dX:f6}
theorem ep.write (ok:ep P w H h) (gq:nP (H x)) (he:e=x\/H e=some (.own x)) (k:∀ b u,b ≠ e->h.get? b=some u->h'.get? b=some u) (sr:∃ u,h'.get? e=some u)
  (new:ek P w (upd H x dX) h' x dX):ep P w (upd H x dX) h':=fun b u q=>by
 have vT:∀ c y,H c=some (.own y)->c ≠ x:=fun c y r z=>by subst z;rw [r] at gq;exact gq
 have D3:∀ c xs,H c=some (.tup xs)->c ≠ x:=fun c xs r z=>by subst z;rw [r] at gq;exact gq
 by_cases ae:b=x
 .subst ae;rw [db] at q;cases q;exact new
 .rw [aF ae] at q;by_cases r2:b=e
  .have ef:H b=some (.own x):=by
    rcases he with z | z
    .exact absurd (r2.trans z) ae
    .rw [r2];exact z
   rw [q] at ef;cases ef;obtain ⟨v,aK⟩:=sr;exact ⟨v,by rw [r2];exact aK⟩
  .refine (ok b u q).nL (fun c v aw r=>k c v ?_ r) (fun c r=>by rw [aF (vT c b r)];exact r) fun c xs r=>by rw [aF (D3 c xs r)];exact r
   rcases aw with rfl | aw
   .exact r2
   .rintro rfl;rcases he with z | z
    .exact vT c b aw z
    .rw [aw] at z;cases z;exact ae rfl
end
structure eY (aH ex:List Addr) (H I:aq) (h h':Heap):Prop where
 keep:∀ b o,h.get? b=some o->H b=none->b ∉ aH->b ∉ ex->h'.get? b=some o
 slot:∀ b o,h.get? b=some o->H b=none->b ∈ aH->b ∉ ex->∃ bF,h'.get? b=some { o with slots:=bF }
 free:∀ b o,h.get? b=some o->H b=none->b ∉ ex->I b=none
 there:∀ b o,h.get? b=some o->b ∉ ex->∃ dX,h'.get? b=some dX
 kY:∀ b xs,H b=some (.tup xs)->I b=some (.tup xs)
 jH:∀ b o u,H b=some (.eL o u)->I b=some (.eL o u)
 kN:∀ b ps,H b=some (.gI ps)->∃ more,I b=some (.gI (ps ++ more))
section
variable {aH mb ex K0:List Addr} {H H1 az:aq} {h af ao h':Heap} {a x e:Addr} {o:f6}
theorem eY.any (u:eY aH ex H H1 h af) (q:h.get? b=some bZ) (n:H b=none) (ag:b ∉ ex):∃ bF,af.get? b=some { bZ with slots:=bF }:=by
 by_cases ae:b ∈ aH
 .exact u.slot b bZ q n ae ag
 .exact ⟨bZ.slots,u.keep b bZ q n ae ag⟩
theorem eY.trans (a:eY aH ex H H1 h af) (b:eY aH ex H1 az af ao):eY aH ex H az h ao where
 keep:=fun c bZ q n aw ag=>b.keep c bZ (a.keep c bZ q n aw ag) (a.free c bZ q n ag) aw ag
 slot:=fun c bZ q n aw ag=>by
  obtain ⟨bF,au⟩:=a.slot c bZ q n aw ag;obtain ⟨Fv,aI⟩:=b.slot c _ au (a.free c bZ q n ag) aw ag;exact ⟨Fv,aI⟩
 free:=fun c bZ q n ag=>by
  obtain ⟨dX,au⟩:=a.there c bZ q ag;exact b.free c dX au (a.free c bZ q n ag) ag
 there:=fun c bZ q ag=>by
  obtain ⟨dX,au⟩:=a.there c bZ q ag;exact b.there c dX au ag
 kY:=fun c xs q=>b.kY c xs (a.kY c xs q)
 jH:=fun c bZ xs q=>b.jH c bZ xs (a.jH c bZ xs q)
 kN:=fun c ps q=>by
  obtain ⟨jw,au⟩:=a.kN c ps q;obtain ⟨jl,aI⟩:=b.kN c _ au;exact ⟨jw ++ jl,by rw [aI,ZA]⟩
theorem eY.kept (k:∀ b u,h.get? b=some u->h'.get? b=some u):eY aH ex H H h h':=
 ⟨fun b bZ q _ _ _=>k b bZ q,fun b bZ q _ _ _=>⟨bZ.slots,k b bZ q⟩,fun _ _ _ n _=>n,fun b bZ q _=>⟨bZ,k b bZ q⟩,fun _ _ q=>q,fun _ _ _ q=>q,fun _ ps q=>⟨#[],by rw [q];simp⟩⟩
theorem eY.refl:eY aH ex H H h h:=eY.kept fun _ _ q=>q
theorem eY.laid (k:∀ b u,h.get? b=some u->h'.get? b=some u) (av:h.objs.size <= a) (aT:H a=none):eY aH ex H (upd H a o) h h' where
 keep:=fun b u q _ _ _=>k b u q
 slot:=fun b u q _ _ _=>⟨u.slots,k b u q⟩
 free:=fun b u q n _=>by rw [aF (gz (hC (eA q) av))];exact n
 there:=fun b u q _=>⟨u,k b u q⟩
 kY:=fun b xs q=>by rw [aF (dB q aT)];exact q
 jH:=fun b u xs q=>by rw [aF (dB q aT)];exact q
 kN:=fun b ps q=>⟨#[],by rw [aF (dB q aT),q];simp⟩
theorem eY.write (gq:nP (H x)) (he:e=x\/H e=some (.own x)) (k:∀ b u,b ≠ e->h.get? b=some u->h'.get? b=some u) (sr:∃ u,h'.get? e=some u):eY aH ex H (upd H x o) h h':=by
 have ag:∀ b,H b=none->b ≠ x:=fun b n z=>by subst z;rw [n] at gq;exact gq
 have ae:∀ b,H b=none->b ≠ e:=fun b n z=>by
  subst z;rcases he with r | r
  .exact ag b n r
  .rw [n] at r;cases r
 have hm:∀ b u,H b=some u->¬ nP (some u)->b ≠ x:=fun b u q nm z=>by subst z;rw [q] at gq;exact nm gq
 refine ⟨fun b u q n _ _=>k b u (ae b n) q,fun b u q n _ _=>⟨u.slots,k b u (ae b n) q⟩,fun b u q n _=>by rw [aF (ag b n)];exact n,fun b u q _=>?_,
  fun b xs q=>by rw [aF (hm b _ q fun z=>z)];exact q,fun b u xs q=>by rw [aF (hm b _ q fun z=>z)];exact q,fun b ps q=>⟨#[],by rw [aF (hm b _ q fun z=>z),q];simp⟩⟩
 by_cases r2:b=e
 .subst r2;exact sr
 .exact ⟨u,k b u r2 q⟩
theorem eY.mono (u:eY aH ex H H1 h af) (ax:∀ b ∈ aH,b ∈ mb) (ag:∀ b ∈ ex,b ∈ K0):eY mb K0 H H1 h af:=
 ⟨fun b bZ q n ae he=>u.keep b bZ q n (fun z=>ae (ax b z)) fun z=>he (ag b z),fun _ _ q n _ he=>u.any q n fun z=>he (ag _ z),fun b bZ q n he=>u.free b bZ q n fun z=>he (ag b z),fun b bZ q he=>u.there b bZ q fun z=>he (ag b z),u.kY,u.jH,u.kN⟩
end
noncomputable def zc (h:Heap) (H:aq):List Addr:=(fL h.objs.size).filter fun a=>(H a).isSome
noncomputable def m6 (h:Heap) (H:aq):Heap:=PySem.W.hideAll h (zc h H)
theorem YR (h:Heap) (H:aq):(m6 h H).objs.size=h.objs.size:=PySem.W.hideAll_size _ _
theorem GR {h:Heap} (e:h.get? b=some o) (n:H b=none):(m6 h H).get? b=some o:=
 PySem.W.hideAll_get _ e fun hm=>by
  have q:(H b).isSome=true:=(lT.mp hm).2;rw [n] at q;simp at q
theorem Zx {h:Heap} (e:(m6 h H).get? b=some o):h.get? b=some o/\H b=none:=by
 have b5:h.get? b=some o:=PySem.W.of_hideAll (zc h H) e;refine ⟨b5,?_⟩;cases q:H b with
 | none=>rfl
 | some x=>
  have hm:b ∈ zc h H:=lT.mpr ⟨om.mpr (eA b5),by simp [q]⟩;have z:(m6 h H).get? b=none:=PySem.W.hideAll_none (zc h H) hm;rw [z] at e;cases e
noncomputable def agk (g h:Heap) (L:Addr):List (Addr × Obj):=(fL h.objs.size).filterMap fun a=>if a=L\/(g.get? a).isSome=true then none else (h.get? a).map fun o=>(a,o)
noncomputable def kP (g h:Heap) (L d:Addr):List (Addr × Obj):=(agk g h L).filter fun p=>decide (p.1 ≠ d)
structure Mod (K:ba) (mg:Str->Option Value) (base:Heap):Prop where
 sj:K.In base
 glob:base.Ns mainGlobals mg
 blt:∃ lR,base.Ns builtinsNs lR/\∀ x:Str,x ≠ "__name__" -> lR x=bootBuiltins x
 nolimit:base.NoLimit
structure a8 where
 prog:Program
 w:World
 K:ba
 mg:Str->Option Value
 base:Heap
 A:Around
 N:List Str
 fs:Shared
 p5:aq
 env:Env
 outer:List Env
 stack:List Env
 ex:List Addr
 fn:Str->Bool
 calm:Bool
 d7:List (Addr × Obj)
 dF:Value->Shared->Prop
noncomputable def k0 (l:List Env):List Addr:=l.filterMap (·.frame)
noncomputable abbrev a8.aH (X:a8):List Addr:=k0 X.outer
def A3 (sc:Scope) (x:Str):Prop:=sc.names.lookup x=some .local\/sc.names.lookup x=some .cell\/sc.names.lookup x=some .free
def Loc (sc:Scope) (x:Str):Prop:=sc.names.lookup x=some .local\/sc.names.lookup x=some .cell
def ae9 (env:Env) (h:Heap) (m:Str->Option Value) (x:Str) (u:Value):Prop:=
 (env.kindOf x=some .local/\m x=some u)\/((env.kindOf x=some .cell\/env.kindOf x=some .free)/\∃ c,env.cells.lookup x=some c/\h.IsCell c (some u))
structure a8.Ok (X:a8):Prop where
 mod:Mod X.K X.mg X.base
 kind:X.env.scope.kind=.function
 glob:X.env.globals=mainGlobals
 blt:X.env.builtins=builtinsNs
 above:X.fs.heap.objs.size <= X.env.locals
 inj:∀ x y c,X.env.cells.lookup x=some c->X.env.cells.lookup y=some c->x=y
 has:∀ x,(X.env.kindOf x=some .cell\/X.env.kindOf x=some .free)->∃ c,X.env.cells.lookup x=some c
 pD:∀ x c,X.fn x=true->X.env.cells.lookup x=some c->X.fs.heap.objs.size <= c
 hd:X.calm=true->X.A.handled=none
 frames:X.A.frames=some X.stack
 qU:X.stack=X.outer\/(X.stack=X.env :: X.outer/\X.env.frame=some X.env.locals)
 ux:∀ b ∈ X.ex,b ≠ X.env.locals/\∀ x c,X.env.cells.lookup x=some c->c ≠ b
 bs:∀ b o,X.base.get? b=some o->X.fs.heap.get? b=some o/\X.p5 b=none
 kc:X.base.objs.size <= X.fs.heap.objs.size
 pW:∀ b o,X.base.get? b=some o->b ∉ X.ex
 o4:∀ b ∈ X.ex,b ∉ X.aH
 jO:X.fs.heap.FunFrames X.base X.outer
 mJ:∀ b ∈ X.aH,X.p5 b=none
structure Inv (X:a8) (ab:List (Addr × Obj)) (σ:List (Option V)) (H:aq) (s:Shared):Prop where
 ok:X.Ok
 os:s.os=X.fs.os
 bare:AllBare s.gens
 base:eY X.aH X.ex X.p5 H X.fs.heap s.heap
 loc:∃ m,s.heap.Ns X.env.locals m/\∀ (i:Nat) (x:Str) (v:V),X.N[i]? = some x->σ[i]? = some (some v)->A3 X.env.scope x->∃ u,bH v u/\ae9 X.env s.heap m x u
 cell:∀ x c,X.env.cells.lookup x=some c->∃ v,s.heap.IsCell c v
 free:H X.env.locals=none
 i8:∀ x c,X.env.cells.lookup x=some c->H c=none
 pin:∀ p ∈ X.d7 ++ ab,s.heap.get? p.1=some p.2/\H p.1=none/\p.1 ≠ X.env.locals/\p.1 ∉ X.aH/\∀ v,p.2.data ≠ .cell v
 bo:ep X.prog X.w H s.heap
 len:σ.length=X.N.length
section
variable {X:a8} {ab:List (Addr × Obj)} {σ:List (Option V)} {H I:aq} {s:Shared} {h':Heap}
theorem a8.Ok.P6 (ok:X.Ok) (e:X.base.get? b=some o):b ∉ X.aH:=fun ae=>by
 have:=(ok.jO.mem ae).1;rw [e] at this;cases this
theorem Inv.bs (J:Inv X ab σ H s):∀ b o,X.base.get? b=some o->s.heap.get? b=some o/\H b=none:=fun b o e=>
 ⟨J.base.keep b o (J.ok.bs b o e).1 (J.ok.bs b o e).2 (J.ok.P6 e) (J.ok.pW b o e),J.base.free b o (J.ok.bs b o e).1 (J.ok.bs b o e).2 (J.ok.pW b o e)⟩
theorem Inv.cE (J:Inv X ab σ H s):∀ b o,X.base.get? b=some o->s.heap.get? b=some o:=fun b o e=>(J.bs b o e).1
theorem Inv.mod (J:Inv X ab σ H s):Mod X.K X.mg X.base:=J.ok.mod
theorem Inv.i' (J:Inv X ab σ H s):X.K.In s.heap:=J.ok.mod.sj.keeps J.cE
theorem Inv.nolimit (J:Inv X ab σ H s):s.heap.NoLimit:=J.ok.mod.nolimit.keeps J.cE
theorem Inv.fr (J:Inv X ab σ H s):∃ m,Fr X.base X.env.locals s.heap m:=
 let ⟨m,aT,_⟩:=J.loc
 ⟨m,aT,J.cE,c4 J.ok.kc J.ok.above⟩
theorem Inv.lt (J:Inv X ab σ H s):X.env.locals < s.heap.objs.size:=let ⟨_,aT,_⟩:=J.loc;aT.lt
theorem Inv.mQ (J:Inv X ab σ H s):X.fs.heap.objs.size <= s.heap.objs.size:=c4 J.ok.above (nu J.lt)
theorem Inv.D2 (J:Inv X ab σ H s) (h:s.heap.objs.size <= a):a ∉ X.aH:=fun ae=>by
 obtain ⟨_,o,aS,_⟩:=J.ok.jO.mem ae;exact absurd (hC (eA aS) (c4 J.mQ h)) (nA _)
theorem Inv.rL (J:Inv X ab σ H s):∀ x c,X.env.cells.lookup x=some c->c ≠ X.env.locals:=fun x c e z=>by
 obtain ⟨v,o,aS,hd⟩:=J.cell x c e;obtain ⟨m,⟨dX,a4,cF,nv,HW,_⟩,_⟩:=J.loc;rw [z,nv] at aS;cases aS;rw [HW] at hd;cases hd
theorem Inv.jO (J:Inv X ab σ H s):s.heap.FunFrames X.base X.outer:=by
 have all:∀ (l:List Env),(∀ b ∈ k0 l,b ∈ X.aH)->X.fs.heap.FunFrames X.base l->s.heap.FunFrames X.base l:=by
  intro l
  induction l with
  | nil=>intro _ _;trivial
  | cons env r b9=>
   intro ax aM;obtain ⟨aB,⟨L,o,hf,aT,aS,hd⟩,ak⟩:=aM;have eJ:L ∈ X.aH:=ax L (by unfold k0;rw [NM,hf];exact l4);obtain ⟨bF,e⟩:=J.base.slot L o aS (J.ok.mJ L eJ) eJ fun z=>J.ok.o4 L z eJ
   exact ⟨aB,⟨L,_,hf,aT,e,hd⟩,b9 (fun b ae=>ax b (by unfold k0;rw [NM,hf];exact hL _ ae)) ak⟩
 exact all X.outer (fun _ ae=>ae) J.ok.jO
theorem Inv.stack (J:Inv X ab σ H s):s.heap.FunFrames X.base X.stack:=by
 rcases J.ok.qU with e | ⟨e,hf⟩
 .rw [e];exact J.jO
 .rw [e];obtain ⟨m,aT,_⟩:=J.loc;refine .cons (by rw [J.ok.kind];decide) hf aT ?_ J.jO;exact Heap.get?_none_of_le (c4 J.ok.kc J.ok.above)
theorem Inv.AW (J:Inv X ab σ H s):∀ b ∈ k0 X.stack,b ∈ X.env.locals :: X.aH:=fun b ae=>by
 rcases J.ok.qU with e | ⟨e,hf⟩
 .rw [e] at ae;exact hL _ ae
 .rw [e] at ae;unfold k0 at ae;rw [NM,hf] at ae;exact ae
theorem Inv.EZ (J:Inv X ab σ H s):∀ b ∈ k0 X.stack,H b=none:=fun b ae=>by
 rcases fh.mp (J.AW b ae) with e | ae
 .rw [e];exact J.free
 .obtain ⟨_,o,aS,_⟩:=J.ok.jO.mem ae;exact J.base.free b o aS (J.ok.mJ b ae) fun z=>J.ok.o4 b z ae
theorem Inv.step {g':Array GenState} {t':Nat} {d':Drawn} {ch:List Addr} (J:Inv X ab σ H s)
  (hg:∀ b ∈ ch,(b ∈ X.ex\/X.fs.heap.objs.size <= b)/\b ≠ X.env.locals/\(∀ x c,X.env.cells.lookup x=some c->c ≠ b)/\∀ p ∈ X.d7 ++ ab,p.1 ≠ b)
  (keep:∀ b o,b ≠ X.env.locals->b ∉ X.aH->b ∉ ch->s.heap.get? b=some o->H b=none->h'.get? b=some o)
  (slot:∀ b o,b ≠ X.env.locals->b ∈ X.aH->b ∉ ch->s.heap.get? b=some o->H b=none->∃ bF,h'.get? b=some { o with slots:=bF }) (free:∀ b o,b ∉ ch->s.heap.get? b=some o->H b=none->I b=none)
  (there:∀ b o,b ∉ ch->s.heap.get? b=some o->∃ dX,h'.get? b=some dX)
  (kY:∀ b xs,H b=some (.tup xs)->I b=some (.tup xs)) (jH:∀ b o u,H b=some (.eL o u)->I b=some (.eL o u)) (kN:∀ b ps,H b=some (.gI ps)->∃ more,I b=some (.gI (ps ++ more)))
  (ns:∀ m,s.heap.Ns X.env.locals m->h'.Ns X.env.locals m) (bo:ep X.prog X.w I h') (bg:AllBare g') :
  Inv X ab σ I { s with heap:=h',gens:=g',drawn:=d',toks:=t' }:=by
 have P0:∀ b o,X.fs.heap.get? b=some o->b ≠ X.env.locals:=fun b o e=>gz (hC (eA e) J.ok.above)
 have BU:∀ b o,X.fs.heap.get? b=some o->b ∉ X.ex->b ∉ ch:=fun b o e ag ae=>by
  rcases (hg b ae).1 with z | z
  .exact ag z
  .exact absurd (hC (eA e) z) (nA _)
 have cellK:∀ x c,X.env.cells.lookup x=some c->∀ v,s.heap.IsCell c v->h'.IsCell c v:=fun x c e v ⟨o,aS,hd⟩=>by
  have vx:c ∉ ch:=fun z=>(hg c z).2.2.1 x c e rfl
  by_cases aw:c ∈ X.aH
  .obtain ⟨bF,q⟩:=slot c o (J.rL x c e) aw vx aS (J.i8 x c e);exact ⟨_,q,hd⟩
  .exact ⟨o,keep c o (J.rL x c e) aw vx aS (J.i8 x c e),hd⟩
 refine ⟨J.ok,J.os,bg,⟨fun b o e n ae ag=>?_,fun b o e n ae ag=>?_,fun b o e n ag=>?_,fun b o e ag=>?_,fun b xs e=>kY b xs (J.base.kY b xs e),fun b o xs e=>jH b o xs (J.base.jH b o xs e),fun b ps e=>?_⟩,?_,fun x c e=>?_,?_,fun x c e=>?_,fun p av=>?_,bo,J.len⟩
 .exact keep b o (P0 b o e) ae (BU b o e ag) (J.base.keep b o e n ae ag) (J.base.free b o e n ag)
 .obtain ⟨bF,au⟩:=J.base.slot b o e n ae ag;obtain ⟨Fv,aI⟩:=slot b _ (P0 b o e) ae (BU b o e ag) au (J.base.free b o e n ag);exact ⟨Fv,aI⟩
 .obtain ⟨dX,au⟩:=J.base.there b o e ag;exact free b dX (BU b o e ag) au (J.base.free b o e n ag)
 .obtain ⟨dX,au⟩:=J.base.there b o e ag;exact there b dX (BU b o e ag) au
 .obtain ⟨jw,au⟩:=J.base.kN b ps e;obtain ⟨jl,aI⟩:=kN b _ au;exact ⟨jw ++ jl,by rw [aI,ZA]⟩
 .obtain ⟨m,aT,aM⟩:=J.loc;refine ⟨m,ns m aT,fun i x v au aI bO=>?_⟩;obtain ⟨u,r,l⟩:=aM i x v au aI bO;refine ⟨u,r,?_⟩;rcases l with l | ⟨k,c,e,z⟩
  .exact .inl l
  .exact .inr ⟨k,c,e,cellK x c e _ z⟩
 .obtain ⟨v,z⟩:=J.cell x c e;exact ⟨v,cellK x c e v z⟩
 .obtain ⟨m,⟨o,_,_,aS,_⟩,_⟩:=J.loc;exact free _ o (fun z=>(hg _ z).2.1 rfl) aS J.free
 .obtain ⟨v,o,aS,hd⟩:=J.cell x c e;exact free c o (fun z=>(hg c z).2.2.1 x c e rfl) aS (J.i8 x c e)
 .obtain ⟨e,n,ne,hO,d⟩:=J.pin p av;have vx:p.1 ∉ ch:=fun z=>(hg p.1 z).2.2.2 p av rfl
  exact ⟨keep p.1 p.2 ne hO vx e n,free p.1 p.2 vx e n,ne,hO,d⟩
theorem Inv.un {t':Nat} (J:Inv X ab σ H s) (u:eY X.aH [] H I s.heap h') (bo:ep X.prog X.w I h'):Inv X ab σ I { s with heap:=h',toks:=t' }:=by
 obtain ⟨m,⟨o,a4,cF,aS,r⟩,_⟩:=id J.loc;obtain ⟨bF,eJ⟩:=u.any aS J.free (by simp);exact J.step (g':=s.gens) (d':=s.drawn) (ch:=[]) (fun _ z=>nomatch z) (fun b o _ ae _ e n=>u.keep b o e n ae (by simp)) (fun b o _ ae _ e n=>u.slot b o e n ae (by simp)) (fun b o _ e n=>u.free b o e n (by simp)) (fun b o _ e=>u.there b o e (by simp)) u.kY u.jH u.kN (fun c3 hm=>by
  obtain ⟨dX,Cq,Ja,nv,dj⟩:=hm;rw [aS] at nv;cases nv;exact ⟨_,Cq,Ja,eJ,dj⟩) bo J.bare
theorem Inv.call {g':Array GenState} {t':Nat} {d':Drawn} {ch:List Addr} (J:Inv X ab σ H s) (u:eY (k0 X.stack) ch H I s.heap h') (bo:ep X.prog X.w I h') (bg:AllBare g')
  (hg:∀ b ∈ ch,(b ∈ X.ex\/X.fs.heap.objs.size <= b)/\b ≠ X.env.locals/\(∀ x c,X.env.cells.lookup x=some c->c ≠ b)/\∀ p ∈ X.d7 ++ ab,p.1 ≠ b) :
  Inv X ab σ I { s with heap:=h',gens:=g',drawn:=d',toks:=t' }:=by
 obtain ⟨m,⟨o,a4,cF,aS,r⟩,_⟩:=id J.loc;obtain ⟨bF,eJ⟩:=u.any aS J.free fun z=>(hg _ z).2.1 rfl
 exact J.step (ch:=ch) hg (fun b o eJ ae aw e n=>u.keep b o e n (fun z=>(fh.mp (J.AW b z)).elim eJ ae) aw) (fun b o _ _ aw e n=>u.any e n aw) (fun b o aw e n=>u.free b o e n aw) (fun b o aw e=>u.there b o e aw) u.kY u.jH u.kN (fun c3 hm=>by
  obtain ⟨dX,Cq,Ja,nv,dj⟩:=hm;rw [aS] at nv;cases nv;exact ⟨_,Cq,Ja,eJ,dj⟩) bo bg
theorem Inv.turned {t':Nat} {it:Addr} (J:Inv X ab σ H s) (k:∀ b o,b ≠ it->s.heap.get? b=some o->h'.get? b=some o) (aT:H it=none) (eJ:it ≠ X.env.locals)
  (af:it ∈ X.ex\/X.fs.heap.objs.size <= it) (ao:∀ x c,X.env.cells.lookup x=some c->c ≠ it) (a_:∀ p ∈ X.d7 ++ ab,p.1 ≠ it):Inv X ab σ H { s with heap:=h',toks:=t' }:=by
 have nit:∀ b u,H b=some u->b ≠ it:=fun b u e z=>by rw [z,aT] at e;cases e
 refine J.step (g':=s.gens) (d':=s.drawn) (ch:=[it]) (fun b ae=>?_) (fun b o _ _ aw e _=>k b o (fun z=>aw (by simp [z])) e) (fun b o _ _ aw e _=>⟨o.slots,k b o (fun z=>aw (by simp [z])) e⟩) (fun _ _ _ _ n=>n)
  (fun b o aw e=>⟨o,k b o (fun z=>aw (by simp [z])) e⟩) (fun _ _ e=>e) (fun _ _ _ e=>e) (fun b ps e=>⟨#[],by rw [e];simp⟩) (fun m hm=>?_) (fun b u e=>?_) J.bare
 .have e:b=it:=by simpa using ae
  subst e;exact ⟨af,eJ,ao,a_⟩
 .obtain ⟨o,a4,cF,aS,r⟩:=hm;exact ⟨o,a4,cF,k _ o (eg eJ) aS,r⟩
 .refine (J.bo b u e).nL (fun c v aw q=>k c v ?_ q) (fun _ q=>q) fun _ _ q=>q
  rcases aw with z | z
  .rw [z];exact nit b u e
  .exact nit c _ z
theorem Inv.tok (J:Inv X ab σ H s) (t:Nat):Inv X ab σ H { s with toks:=t }:=J.un (h':=s.heap) (t':=t) eY.refl J.bo
theorem Inv.kept (J:Inv X ab σ H s) (k:∀ b u,s.heap.get? b=some u->h'.get? b=some u):Inv X ab σ H { s with heap:=h',toks:=t' }:=J.un (eY.kept k) (J.bo.kept k)
theorem Inv.laid (J:Inv X ab σ H s) (k:∀ b u,s.heap.get? b=some u->h'.get? b=some u) (av:s.heap.objs.size <= a) (new:ek X.prog X.w (upd H a o) h' a o) :
  Inv X ab σ (upd H a o) { s with heap:=h',toks:=t' }:=J.un (eY.laid k av (J.bo.fresh av)) (J.bo.laid k av new)
theorem Inv.write {x e:Addr} {o:f6} {t':Nat} (J:Inv X ab σ H s) (gq:nP (H x)) (he:e=x\/H e=some (.own x)) (k:∀ b u,b ≠ e->s.heap.get? b=some u->h'.get? b=some u) (sr:∃ u,h'.get? e=some u)
  (new:ek X.prog X.w (upd H x o) h' x o):Inv X ab σ (upd H x o) { s with heap:=h',toks:=t' }:=J.un (eY.write gq he k sr) (J.bo.write gq he k sr new)
theorem Inv.weak (J:Inv X ab σ H s) (aM:aA.length=σ.length) (w:∀ (i:Nat) v,aA[i]? = some (some v)->σ[i]? = some (some v)):Inv X ab aA H s:=
 ⟨J.ok,J.os,J.bare,J.base,let ⟨m,aT,z0⟩:=J.loc;⟨m,aT,fun i x v au aI bO=>z0 i x v au (w i v aI) bO⟩,J.cell,J.free,J.i8,J.pin,J.bo,aM.trans J.len⟩
theorem Inv.qw (J:Inv X ab σ H s) (h:∀ p ∈ Sx,s.heap.get? p.1=some p.2/\H p.1=none/\p.1 ≠ X.env.locals/\p.1 ∉ X.aH/\∀ v,p.2.data ≠ .cell v):Inv X Sx σ H s:=
 ⟨J.ok,J.os,J.bare,J.base,J.loc,J.cell,J.free,J.i8,fun p av=>(f5.mp av).elim (fun z=>J.pin p (pg _ z)) (h p),J.bo,J.len⟩
theorem Nm {N:List Str} (bu:N.Nodup) {i j:Nat} {x:Str} (a:N[i]? = some x) (b:N[j]? = some x):i=j:=by
 obtain ⟨af,au⟩:=b6.mp a;obtain ⟨ao,aI⟩:=b6.mp b;exact (DE bu).mp (au.trans aI.symm)
theorem O' {M:Model} {A:Around} {E:Value->Shared->Prop} {i:Nat} {x:Str} {v:V} {u:Value} {Q:Unit->Shared->Prop} (J:Inv X ab σ H s) (bu:X.N.Nodup) (ah:X.N[i]? = some x) (ag:Loc X.env.scope x) (r:bH v u)
  (h:∀ aj,Inv X ab (σ.set i (some v)) H aj->(∃ a,wi a s.heap aj.heap/\(a=X.env.locals\/X.env.cells.lookup x=some a))->Q () aj) (hf:X.fn x=true\/X.env.scope.names.lookup x=some .local:=by first | exact .inl rfl | exact .inr rfl | assumption):wpAny M A (storeName X.env x u) Q E s:=by
 obtain ⟨m,aT,aM⟩:=id J.loc;have ade:(X.env.scope.kind == .class || (X.env.scope.kind == .module && X.env.locals != X.env.globals))=false:=by rw [J.ok.kind];rfl
 have NR:i < σ.length:=by rw [J.len];exact (b6.mp ah).1
 have rL:=J.rL;have tracked:∀ {a:Addr} {h':Heap},(∃ o,s.heap.get? a=some o/\H a=none)->wi a s.heap h'->ep X.prog X.w H h':=fun {a h'} aX ax b bZ e=>by
  obtain ⟨_,_,sZ⟩:=aX;refine (J.bo b bZ e).nL (fun c d_ aw q=>(ax.2 c ?_).trans q) (fun _ q=>q) fun _ _ q=>q
  rintro rfl;rcases aw with rfl | aw
  .rw [sZ] at e;cases e
  .rw [sZ] at aw;cases aw
 rcases ag with aB | aB
 .refine wpAny_storeName_local aB aT (fun h' abT ax=>?_) ade;obtain ⟨ahP,_,_,X2,_⟩:=id aT;refine h _ ⟨J.ok,J.os,J.bare,⟨fun b o e n ae ag=>?_,fun b o e n ae ag=>?_,J.base.free,fun b o e ag=>?_,J.base.kY,J.base.jH,J.base.kN⟩,⟨_,abT,fun j y G5 au aI bO=>?_⟩,fun y c e=>?_,J.free,J.i8,fun p av=>?_,tracked ⟨ahP,X2,J.free⟩ ax,by simpa using J.len⟩ ⟨_,ax,.inl rfl⟩
  .exact (ax.2 b (gz (hC (eA e) J.ok.above))).trans (J.base.keep b o e n ae ag)
  .obtain ⟨bF,au⟩:=J.base.slot b o e n ae ag;exact ⟨bF,(ax.2 b (gz (hC (eA e) J.ok.above))).trans au⟩
  .obtain ⟨dX,au⟩:=J.base.there b o e ag;exact ⟨dX,(ax.2 b (gz (hC (eA e) J.ok.above))).trans au⟩
  .by_cases aO:j=i
   .subst aO;rw [ah] at au;cases au;rw [H8 NR] at aI;cases aI;exact ⟨u,r,.inl ⟨aB,by simp⟩⟩
   .rw [A6 (eg aO)] at aI;obtain ⟨tM,dj,q⟩:=aM j y G5 au aI bO;refine ⟨tM,dj,?_⟩;rcases q with ⟨k,e⟩ | ⟨k,c,e,z⟩
    .refine .inl ⟨k,?_⟩;have:y ≠ x:=fun e=>aO (Nm bu au (e ▸ ah))
     simp [this,e]
    .exact .inr ⟨k,c,e,z.sameBut ax (rL y c e)⟩
  .obtain ⟨d_,z⟩:=J.cell y c e;exact ⟨d_,z.sameBut ax (rL y c e)⟩
  .obtain ⟨e,n,ne,hO,d⟩:=J.pin p av;exact ⟨(ax.2 p.1 ne).trans e,n,ne,hO,d⟩
 .have F0:X.fn x=true:=by
   rcases hf with z | z
   .exact z
   .rw [z] at aB;cases aB
  obtain ⟨c,aw⟩:=J.ok.has x (.inl aB);obtain ⟨d_,z⟩:=J.cell x c aw;refine wpAny_storeName_cell J.ok.kind aB aw z (fun h' AQ ax=>?_);obtain ⟨mW,qy,Zm⟩:=id z;refine h { s with heap:=h' } ⟨J.ok,J.os,J.bare,⟨fun b o e n ae ag=>?_,fun b o e n ae ag=>?_,J.base.free,fun b o e ag=>?_,J.base.kY,J.base.jH,J.base.kN⟩,⟨m,aT.sameBut ax (eg (rL x c aw)),fun j y G5 au aI bO=>?_⟩,fun y c' e=>?_,J.free,J.i8,fun p av=>?_,tracked ⟨mW,qy,J.i8 x c aw⟩ ax,by simpa using J.len⟩ ⟨c,ax,.inr aw⟩
  .exact (ax.2 b (gz (hC (eA e) (J.ok.pD x c F0 aw)))).trans (J.base.keep b o e n ae ag)
  .obtain ⟨bF,au⟩:=J.base.slot b o e n ae ag;exact ⟨bF,(ax.2 b (gz (hC (eA e) (J.ok.pD x c F0 aw)))).trans au⟩
  .obtain ⟨dX,au⟩:=J.base.there b o e ag;exact ⟨dX,(ax.2 b (gz (hC (eA e) (J.ok.pD x c F0 aw)))).trans au⟩
  .by_cases aO:j=i
   .subst aO;rw [ah] at au;cases au;rw [H8 NR] at aI;cases aI;exact ⟨u,r,.inr ⟨.inl aB,c,aw,AQ⟩⟩
   .rw [A6 (eg aO)] at aI;obtain ⟨tM,dj,q⟩:=aM j y G5 au aI bO;refine ⟨tM,dj,?_⟩;rcases q with q | ⟨k,c',e,hJ⟩
    .exact .inl q
    .refine .inr ⟨k,c',e,hJ.sameBut ax ?_⟩;rintro rfl;exact aO (Nm bu au (J.ok.inj _ _ _ e aw ▸ ah))
  .by_cases n0:c'=c
   .subst n0;exact ⟨_,AQ⟩
   .obtain ⟨dZ,eT⟩:=J.cell y c' e;exact ⟨dZ,eT.sameBut ax n0⟩
  .obtain ⟨e,n,ne,hO,d⟩:=J.pin p av;refine ⟨(ax.2 p.1 ?_).trans e,n,ne,hO,d⟩;intro q;rw [q,qy] at e;have ef:mW=p.2:=dh e;exact d d_ (by rw [<- ef];exact Zm)
theorem Ku {A:Around} {x:Str} (J:Inv X ab σ H s) (bu:X.N.Nodup) (ah:X.N[i]? = some x) (ag:Loc X.env.scope x) (r:bH v u)
  (h:∀ aj,Inv X ab (σ.set i (some v)) H aj->Q () aj) (hf:X.fn x=true\/X.env.scope.names.lookup x=some .local:=by first | exact .inl rfl | exact .inr rfl | assumption):wpAny M A (storeName X.env x u) Q E s:=
 O' J bu ah ag r (fun aj gy _=>h aj gy) hf
theorem Inv.acj (J:Inv X ab σ H s) (aS:aj.os=s.os) (u:eY (k0 X.stack) ch H I s.heap aj.heap) (bo:ep X.prog X.w I aj.heap) (bg:AllBare aj.gens)
  (hg:∀ b ∈ ch,(b ∈ X.ex\/X.fs.heap.objs.size <= b)/\b ≠ X.env.locals/\(∀ x c,X.env.cells.lookup x=some c->c ≠ b)/\∀ p ∈ X.d7 ++ ab,p.1 ≠ b):Inv X ab σ I aj:=by
 obtain ⟨h',g',d',t',dX⟩:=aj;have e:dX=s.os:=aS;subst e;exact J.call (g':=g') (t':=t') (d':=d') u bo bg hg
end
noncomputable abbrev fQ:=Value->Option Addr->aq->Prop
noncomputable abbrev St:=List (Option V)
noncomputable abbrev cW:=V->aq->Prop
noncomputable abbrev TE:=St->aq->cW->Prop
noncomputable abbrev TT:=St->aq->(Bool->aq->Prop)->Prop
noncomputable abbrev fG:=St->aq->(List V->aq->Prop)->Prop
structure gW where
 b7:St->aq->Prop
 kK:cW
 cE:St->aq->Prop:=fun _ _=>False
 eI:St->aq->Prop:=fun _ _=>False
noncomputable abbrev ed:=gW->St->aq->Prop
def gN (X:a8) (ab:List (Addr × Obj)) (σ:St) (Q:cW) (u:Value) (aj:Shared):Prop:=∃ v I,Inv X ab σ I aj/\bH v u/\Q v I
def BS (X:a8) (ab:List (Addr × Obj)) (σ:St) (Q:Bool->aq->Prop) (b:Bool) (aj:Shared):Prop:=∃ I,Inv X ab σ I aj/\Q b I
def VC (X:a8) (ab:List (Addr × Obj)) (σ:St) (Q:List V->aq->Prop) (us:List Value) (aj:Shared):Prop:=∃ vs I,Inv X ab σ I aj/\bY vs us/\Q vs I
def rW (X:a8) (ab:List (Addr × Obj)) (D:gW) (f:Flow) (aj:Shared):Prop:=
 match f with
 | .next=>∃ aA I,Inv X ab aA I aj/\D.b7 aA I
 | .brk=>∃ aA I,Inv X ab aA I aj/\D.cE aA I
 | .cont=>∃ aA I,Inv X ab aA I aj/\D.eI aA I
 | .ret u=>∃ v aA I,Inv X ab aA I aj/\bH v u/\D.kK v I
def br (X:a8) (e:Expr) (t:TE):Prop:=
 ∀ (ab:List (Addr × Obj)) (s:Shared) (σ:St) (H:aq) (Q:cW),Inv X ab σ H s->t σ H Q->wpAny (model X.prog X.w) X.A (eval e X.env) (gN X ab σ Q) X.dF s
def i4 (X:a8) (e:Expr) (t:TT):Prop:=
 ∀ (ab:List (Addr × Obj)) (s:Shared) (σ:St) (H:aq) (Q:Bool->aq->Prop),Inv X ab σ H s->t σ H Q->wpAny (model X.prog X.w) X.A (isTrue e X.env (eval e X.env)) (BS X ab σ Q) X.dF s
def fj (X:a8) (e:Expr) (t:TT):Prop:=
 ∀ (whole:Sem Value) (ab:List (Addr × Obj)) (s:Shared) (σ:St) (H:aq) (Q:Bool->aq->Prop),Inv X ab σ H s->t σ H Q->wpAny (model X.prog X.w) X.A (isTrue e X.env whole) (BS X ab σ Q) X.dF s
theorem fj.pt {e:Expr} {t:TT} (h:fj X e t):i4 X e t:=h _
def jM (X:a8) (a4:List Expr) (t:fG):Prop:=
 ∀ (pos:Pos) (ab:List (Addr × Obj)) (s:Shared) (σ:St) (H:aq) (Q:List V->aq->Prop),Inv X ab σ H s->t σ H Q->wpAny (model X.prog X.w) X.A (spliced (backTo pos (starEach a4 X.env))) (VC X ab σ Q) X.dF s
def hI (X:a8) (st:Stmt) (t:ed):Prop:=
 ∀ (ab:List (Addr × Obj)) (s:Shared) (σ:St) (H:aq) (D:gW),Inv X ab σ H s->t D σ H->wpAny (model X.prog X.w) X.A (exec st X.env) (rW X ab D) X.dF s
def kq (X:a8) (st:List Stmt) (t:ed):Prop:=
 ∀ (ab:List (Addr × Obj)) (s:Shared) (σ:St) (H:aq) (D:gW),Inv X ab σ H s->t D σ H->wpAny (model X.prog X.w) X.A (execs st X.env) (rW X ab D) X.dF s
theorem bC {t:Sem α} {A:Around} (h:wpAny M A t Q E s) (aV:∀ a s,Q a s->hS a s):wpAny M A t hS E s:=wpAny_mono h aV fun _ _ x=>x
section
variable {X:a8}
noncomputable def rM (H:aq) (Q:cW):Option (Option V)->Prop
 | some (some v)=>Q v H
 | _=>False
theorem Ly (H:aq) (Q:cW) (v:V):rM H Q (some (some v))=Q v H:=rfl
theorem rM.out:∀ {o:Option (Option V)},rM H Q o->∃ v,o=some (some v)/\Q v H
 | some (some v),h=>⟨v,rfl,h⟩
 | some none,h=>h.elim
 | none,h=>h.elim
theorem YI (H:aq) (Q:cW) (o:Option (Option V)):rM H Q o = ∃ v,o=some (some v)/\Q v H:=propext ⟨rM.out,fun ⟨_,e,h⟩=>e ▸ h⟩
def f_ (x:V) (k:Int->Prop):Prop:=match x with
 | .int i=>k i
 | _=>False
theorem Pb (i:Int) (k:Int->Prop):f_ (.int i) k=k i:=rfl
theorem f_.out {x:V} {k:Int->Prop} (h:f_ x k):∃ i,x=.int i/\k i:=by
 cases x with
 | int i=>exact ⟨i,rfl,h⟩
 | _=>exact h.elim
theorem Zb (x:V) (k:Int->Prop):f_ x k = ∃ i,x=.int i/\k i:=propext ⟨f_.out,fun ⟨_,e,h⟩=>e ▸ h⟩
def iR (x:V) (k:Bool->Prop):Prop:=match x with
 | .bl i=>k i
 | _=>False
theorem Qo (i:Bool) (k:Bool->Prop):iR (.bl i) k=k i:=rfl
theorem iR.out {x:V} {k:Bool->Prop} (h:iR x k):∃ i,x=.bl i/\k i:=by
 cases x with
 | bl i=>exact ⟨i,rfl,h⟩
 | _=>exact h.elim
theorem TM (x:V) (k:Bool->Prop):iR x k = ∃ i,x=.bl i/\k i:=propext ⟨iR.out,fun ⟨_,e,h⟩=>e ▸ h⟩
def e1 (x:V) (k:Addr->Prop):Prop:=match x with
 | .ref i=>k i
 | _=>False
theorem LP (i:Addr) (k:Addr->Prop):e1 (.ref i) k=k i:=rfl
theorem e1.out {x:V} {k:Addr->Prop} (h:e1 x k):∃ i,x=.ref i/\k i:=by
 cases x with
 | ref i=>exact ⟨i,rfl,h⟩
 | _=>exact h.elim
theorem Tv (x:V) (k:Addr->Prop):e1 x k = ∃ i,x=.ref i/\k i:=propext ⟨e1.out,fun ⟨_,e,h⟩=>e ▸ h⟩
def ma (xs:List V) (k:V->Prop):Prop:=match xs with
 | [y]=>k y
 | _=>False
theorem QU (y:V) (k:V->Prop):ma [y] k=k y:=rfl
theorem ma.out:∀ {xs:List V} {k:V->Prop},ma xs k->∃ y,xs=[y]/\k y
 | [y],_,h=>⟨y,rfl,h⟩
 | [],_,h=>h.elim
 | _ :: _ :: _,_,h=>h.elim
theorem ahE (xs:List V) (k:V->Prop):ma xs k = ∃ y,xs=[y]/\k y:=propext ⟨ma.out,fun ⟨_,e,h⟩=>e ▸ h⟩
noncomputable def yF (i:Nat):TE:=fun σ H Q=>rM H Q σ[i]?
noncomputable def qO (v:V):TE:=fun _ H Q=>Q v H
theorem ac7 {x:Str} (bu:X.N[i]? = some x) (aK:A3 X.env.scope x) (hd:(x == ("__debug__" : Str))=false:=by decide) (kl:(x == ("__classdict__" : Str))=false:=by decide):br X (.Name x pos) (yF i):=by
 intro ab s σ H Q J h;obtain ⟨v,e,h⟩:=rM.out h;obtain ⟨m,aT,aM⟩:=J.loc;obtain ⟨u,r,l⟩:=aM i x v bu e aK;have fin:gN X ab σ Q u s:=⟨v,H,J,r,h⟩;rcases l with ⟨aB,hm⟩ | ⟨aB,c,aw,Aa⟩
 .exact wpAny_Name (wpAny_loadName_local J.ok.kind aB aT hm fin) hd
 .rcases aB with aB | aB
  .exact wpAny_Name (wpAny_loadName_cell J.ok.kind aB aw Aa fin) hd
  .exact wpAny_Name (wpAny_loadName_free J.ok.kind aB aw Aa fin kl) hd
theorem aL {i j pos}:br X (.Constant (.int i) j pos) (qO (.int i)):=fun _ _ _ H _ J h=>wpAny_Constant_int ⟨.int i,H,J.tok _,⟨_,rfl⟩,h⟩
theorem iJ {b j pos}:br X (.Constant (.bool b) j pos) (qO (.bl b)):=fun _ _ _ H _ J h=>Constant_bool ⟨.bl b,H,J,rfl,h⟩
theorem qR {j pos}:br X (.Constant .none j pos) (qO .bU):=fun _ _ _ H _ J h=>Constant_none ⟨.bU,H,J,rfl,h⟩
theorem cD {x j pos}:br X (.Constant (.str x) j pos) (qO (.str x)):=fun _ _ _ H _ J h=>Calls.Constant_str ⟨.str x,H,J.tok _,⟨_,rfl⟩,h⟩
def lX (X:a8) (x:Str):Prop:=X.env.kindOf x=some .globalImplicit
theorem yh {x:Str} (J:Inv X ab σ H s) (bg:lX X x) (hm:X.mg x=some u) (h:Q u s)
  (hd:(x == ("__debug__" : Str))=false:=by decide):wpAny (model X.prog X.w) X.A (eval (.Name x pos) X.env) Q E s:=
 Wj J.ok.kind bg (Calls.loadGlobal_global (by rw [J.ok.glob];exact J.mod.glob.keeps J.cE) hm h) hd
theorem u0 {x:Str} (J:Inv X ab σ H s) (bg:lX X x) (hm:X.mg x=none) (aK:bootBuiltins x=some u) (h:Q u s)
  (aT:x ≠ "__name__" := by decide) (hd:(x == ("__debug__" : Str))=false:=by decide):wpAny (model X.prog X.w) X.A (eval (.Name x pos) X.env) Q E s:=by
 obtain ⟨lR,af,ao⟩:=J.mod.blt;exact Wj J.ok.kind bg (Calls.loadGlobal_builtin (by rw [J.ok.glob];exact J.mod.glob.keeps J.cE) hm (by rw [J.ok.blt];exact af.keeps J.cE) ((ao x aT).trans aK) h) hd
theorem lz {x:Str} (bg:lX X x) (hm:X.mg x=some u) (r:bH v u) (hd:(x == ("__debug__" : Str))=false:=by decide):br X (.Name x pos) (qO v):=
 fun _ _ _ H _ J h=>yh J bg hm ⟨v,H,J,r,h⟩ hd
variable {a b:Expr} {a9 bI:TE} {pos:Pos}
def Nl (X:a8) (op:CmpOp) (a b:Expr) (t:TE):Prop:=
 ∀ (ab:List (Addr × Obj)) (s:Shared) (σ:St) (H:aq) (Q:cW),Inv X ab σ H s->t σ H Q ->
  wpAny (model X.prog X.w) X.A (eval a X.env) (fun v dd=>wpAny (model X.prog X.w) X.A (eval b X.env) (fun u dT=>wpAny (model X.prog X.w) X.A (compareOp op v u) (gN X ab σ Q) X.dF dT) X.dF dd) X.dF s
theorem aba (b:Expr) (h:op ≠ .In) (ao:op ≠ .NotIn):behindInMarks op b=false:=by
 have au:(op == CmpOp.In)=false:=by cases op <;> first | rfl | exact absurd rfl h
 have aI:(op == TO)=false:=by cases op <;> first | rfl | exact absurd rfl ao
 cases b <;> simp [behindInMarks,au,aI]
noncomputable def xQ (t:TE):TT:=fun σ H Q=>t σ H fun x H1=>iR x fun c=>Q c H1
theorem QB {t:TE} (h:Nl X op a b t) (af:behindInMarks op b=false:=by first | exact aba _ (by decide) (by decide) | rfl):i4 X (.Compare a [op] [b] pos) (xQ t):=by
 intro ab s σ H Q J hw;refine wpAny_isTrue_Compare1 (bC (h ab s σ H _ J hw) fun v s1 af=>bC af fun u s2 ao=>bC ao fun c s3 bx=>?_) af;obtain ⟨x,H1,a3,cI,bL⟩:=bx;obtain ⟨d,rfl,q⟩:=iR.out bL;cases cI;exact wpAny_truthy_bool ⟨H1,a3,q⟩
theorem ki {e:Expr} {t:TE} (h:br X e t) (he:∀ whole,isTrue e X.env whole=(do let v <- whole;standAt e.pos;holding [v] (truthy v)):=by intro _;rfl):i4 X e (xQ t):=by
 intro ab s σ H Q J hw;refine isTrue_plain (bC (h ab s σ H _ J hw) fun v s1 bx=>?_) (he _);obtain ⟨x,H1,a3,cI,bL⟩:=bx;obtain ⟨d,rfl,q⟩:=iR.out bL;cases cI;exact wpAny_truthy_bool ⟨H1,a3,q⟩
variable {l3 w':TT} {kP:List Expr}
noncomputable def Ht (t u:TT):TT:=fun σ H Q=>t σ H fun c H1=>if c=true then u σ H1 Q else Q false H1
noncomputable def HC (t u:TT):TT:=fun σ H Q=>t σ H fun c H1=>if c=true then Q true H1 else u σ H1 Q
noncomputable def Ia (t:TT):TT:=fun σ H Q=>t σ H fun c H1=>Q (!c) H1
theorem jA (aX:i4 X a l3):fj X (.BoolOp .And [a] pos) l3:=by
 intro vw ab s σ H Q J h;refine isTrue_and (bC (aX ab s σ H Q J h) fun c s1 e=>?_);cases c with
 | true=>exact isTrue_and_nil e
 | false=>exact e
theorem rS (aX:i4 X a l3):fj X (.BoolOp .Or [a] pos) l3:=by
 intro vw ab s σ H Q J h;refine isTrue_or (bC (aX ab s σ H Q J h) fun c s1 e=>?_);cases c with
 | false=>exact isTrue_or_nil e
 | true=>exact e
theorem iD (aX:i4 X a l3) (ae:fj X (.BoolOp .And (b :: kP) pos) w'):fj X (.BoolOp .And (a :: b :: kP) pos) (Ht l3 w'):=by
 intro vw ab s σ H Q J h;refine isTrue_and (bC (aX ab s σ H _ J h) fun c s1 bx=>?_);obtain ⟨H1,a3,bL⟩:=bx;cases c with
 | true=>exact ae vw ab s1 σ H1 Q a3 bL
 | false=>exact ⟨H1,a3,bL⟩
theorem p8 (aX:i4 X a l3) (ae:fj X (.BoolOp .Or (b :: kP) pos) w'):fj X (.BoolOp .Or (a :: b :: kP) pos) (HC l3 w'):=by
 intro vw ab s σ H Q J h;refine isTrue_or (bC (aX ab s σ H _ J h) fun c s1 bx=>?_);obtain ⟨H1,a3,bL⟩:=bx;cases c with
 | true=>exact ⟨H1,a3,bL⟩
 | false=>exact ae vw ab s1 σ H1 Q a3 bL
theorem rv (aX:i4 X a l3):i4 X (.UnaryOp .Not a pos) (Ia l3):=by
 intro ab s σ H Q J h;exact isTrue_not (aX ab s σ H (fun c H1=>Q (!c) H1) J h)
noncomputable def FA (a9 bI:TE):TE:=fun σ H Q=>a9 σ H fun x H1=>iR x fun c=>if c=true then bI σ H1 Q else Q (.bl false) H1
noncomputable def D_ (a9 bI:TE):TE:=fun σ H Q=>a9 σ H fun x H1=>iR x fun c=>if c=true then Q (.bl true) H1 else bI σ H1 Q
noncomputable def GV (a9:TE):TE:=fun σ H Q=>a9 σ H fun x H1=>iR x fun c=>Q (.bl (!c)) H1
theorem tZ {op} {t:TE} (h:br X a t):br X (.BoolOp op [a] pos) t:=fun ab s σ H Q J hw=>BoolOp_one (h ab s σ H Q J hw)
theorem wq (aX:br X a a9) (ae:br X (.BoolOp .And (b :: kP) pos) bI):br X (.BoolOp .And (a :: b :: kP) pos) (FA a9 bI):=by
 intro ab s σ H Q J h;refine BoolOp_and (bC (aX ab s σ H _ J h) fun v s1 bx=>?_);obtain ⟨x,H1,a3,cI,bL⟩:=bx;obtain ⟨c,rfl,gj⟩:=iR.out bL;cases cI;refine wpAny_truthy_bool ?_;cases c with
 | true=>exact ae ab s1 σ H1 Q a3 gj
 | false=>exact ⟨.bl false,H1,a3,rfl,gj⟩
theorem K4 (aX:br X a a9) (ae:br X (.BoolOp .Or (b :: kP) pos) bI):br X (.BoolOp .Or (a :: b :: kP) pos) (D_ a9 bI):=by
 intro ab s σ H Q J h;refine BoolOp_or (bC (aX ab s σ H _ J h) fun v s1 bx=>?_);obtain ⟨x,H1,a3,cI,bL⟩:=bx;obtain ⟨c,rfl,gj⟩:=iR.out bL;cases cI;refine wpAny_truthy_bool ?_;cases c with
 | false=>exact ae ab s1 σ H1 Q a3 gj
 | true=>exact ⟨.bl true,H1,a3,rfl,gj⟩
theorem Qy (aX:br X a a9):br X (.UnaryOp .Not a pos) (GV a9):=by
 intro ab s σ H Q J h;refine UnaryOp_ (bC (aX ab s σ H _ J h) fun v s1 bx=>?_);obtain ⟨x,H1,a3,cI,bL⟩:=bx;obtain ⟨c,rfl,gj⟩:=iR.out bL;cases cI;exact not_of (wpAny_truthy_bool ⟨.bl (!c),H1,a3,rfl,gj⟩)
noncomputable def ES (t:TT) (a9 bI:TE):TE:=fun σ H Q=>t σ H fun c H1=>if c=true then a9 σ H1 Q else bI σ H1 Q
theorem tE (aw:i4 X c l3) (aX:br X a a9) (ae:br X b bI):br X (.IfExp c a b pos) (ES l3 a9 bI):=by
 intro ab s σ H Q J h;refine wpAny_IfExp (bC (aw ab s σ H _ J h) fun d s1 bx=>?_);obtain ⟨H1,a3,bL⟩:=bx;cases d with
 | true=>exact aX ab s1 σ H1 Q a3 bL
 | false=>exact ae ab s1 σ H1 Q a3 bL
end
def aD (K:ba) (H:aq) (a:Addr) (xs:List V):Prop:=
 jQ H a (.lst xs) \/
  ∃ (o:Obj) (a6:Array Value) (n:Nat),K.lookup a=some o/\o.cls=.type "list" /\ o.dict=none/\o.data=.seq a6 n/\a6.size <= sizeLine/\bY xs a6.toList
def cM (K:ba) (H:aq) (a:Addr) (xs:List V):Prop:=
 jQ H a (.tup xs) \/
  ∃ (o:Obj) (a6:Array Value) (n:Nat),K.lookup a=some o/\o.cls=.type "tuple" /\ o.data=.seq a6 n/\a6.size <= sizeLine/\bY xs a6.toList
noncomputable def ah8:Value->Option V
 | .none=>some .bU
 | .bool b=>some (.bl b)
 | .int i _=>some (.int i)
 | .str x _=>some (.str x)
 | .bytes b _=>some (.kH b)
 | .float b _=>some (.tq b)
 | .ref a=>some (.ref a)
 | .type n=>some (.ty n)
 | _=>none
theorem bH.abs {x:V} (r:bH x u):ah8 u=some x:=by
 cases x with
 | bU=>cases r;rfl
 | bl _=>cases r;rfl
 | int _=>obtain ⟨t,rfl⟩:=r;rfl
 | str _=>obtain ⟨t,rfl⟩:=r;rfl
 | kH _=>obtain ⟨t,rfl⟩:=r;rfl
 | tq _=>obtain ⟨t,rfl⟩:=r;rfl
 | ref _=>cases r;rfl
 | ty _=>cases r;rfl
theorem bH.inj {x y:V} (r:bH x u) (q:bH y u):x=y:=dh (r.abs.symm.trans q.abs)
theorem bY.inj:∀ {xs ys:List V} {us:List Value},bY xs us->bY ys us->xs=ys
 | _,_,_,.nil,.nil=>rfl
 | _,_,_,.cons r t,.cons dj t'=>by rw [r.inj dj,bY.inj t t']
section
variable {X:a8} {ab:List (Addr × Obj)} {σ:St} {H:aq} {s:Shared} {a:Addr} {xs ys:List V}
theorem aD.of {K:ba} (h:H a=some (.lst xs)):aD K H a xs:=.inl (.inl h)
theorem cM.of {K:ba} (h:H a=some (.tup xs)):cM K H a xs:=.inl (.inl h)
theorem Inv.list (J:Inv X ab σ H s) (h:aD X.K H a xs):∃ a6:List Value,bY xs a6/\PlainL s.heap a a6.toArray/\xs.length <= sizeLine:=by
 rcases h with h | ⟨o,a6,n,aB,aw,hd,ax,aQ,r⟩
 .obtain ⟨z,a6,n,r,e⟩:=h.ok J.bo;exact ⟨a6,r,⟨_,n,e,rfl,rfl,rfl⟩,z⟩
 .refine ⟨a6.toList,r,⟨o,n,J.i' a o aB,aw,hd,by simpa using ax⟩,?_⟩;have e:=r.length;simp only [DB] at e;omega
theorem Inv.tuple (J:Inv X ab σ H s) (h:cM X.K H a xs):∃ a6:List Value,bY xs a6/\IsTup s.heap a a6.toArray/\xs.length <= sizeLine:=by
 rcases h with h | ⟨o,a6,n,aB,aw,ax,aQ,r⟩
 .obtain ⟨z,a6,r,p⟩:=h.ok J.bo;exact ⟨a6,r,p,z⟩
 .refine ⟨a6.toList,r,⟨o,J.i' a o aB,aw,n,by simpa using ax⟩,?_⟩;have e:=r.length;simp only [DB] at e;omega
theorem Inv.w1 (J:Inv X ab σ H s) (h:aD X.K H a xs) (h':aD X.K H a ys):xs=ys:=by
 obtain ⟨a6,r,⟨o,n,e,_,_,d⟩,_⟩:=J.list h;obtain ⟨its',dj,⟨dX,jr,b5,_,_,d'⟩,_⟩:=J.list h';rw [e] at b5;cases b5;rw [d] at d';injection d' with dv _;have:a6=its':=by simpa using congrArg abc dv
 subst this;exact r.inj dj
theorem Inv.QO (J:Inv X ab σ H s) (h:cM X.K H a xs) (h':cM X.K H a ys):xs=ys:=by
 obtain ⟨a6,r,⟨o,e,_,n,d⟩,_⟩:=J.tuple h;obtain ⟨its',dj,⟨dX,b5,_,jr,d'⟩,_⟩:=J.tuple h';rw [e] at b5;cases b5;rw [d] at d';injection d' with dv _;have:a6=its':=by simpa using congrArg abc dv
 subst this;exact r.inj dj
end
noncomputable abbrev a8.h7 (X:a8) (E:Value->Shared->Prop):a8:={ X with dF:=E }
noncomputable abbrev a8.k9 (X:a8):a8:=X.h7 fun _ _=>False
theorem a8.Ok.h7 {X:a8} (ok:X.Ok) (E:Value->Shared->Prop):(X.h7 E).Ok:=
 ⟨ok.mod,ok.kind,ok.glob,ok.blt,ok.above,ok.inj,ok.has,ok.pD,ok.hd,ok.frames,ok.qU,ok.ux,ok.bs,ok.kc,ok.pW,ok.o4,ok.jO,ok.mJ⟩
theorem a8.Ok.mX {X:a8} {E:Value->Shared->Prop} (ok:(X.h7 E).Ok):X.Ok:=
 ⟨ok.mod,ok.kind,ok.glob,ok.blt,ok.above,ok.inj,ok.has,ok.pD,ok.hd,ok.frames,ok.qU,ok.ux,ok.bs,ok.kc,ok.pW,ok.o4,ok.jO,ok.mJ⟩
section
variable {X:a8} {ab:List (Addr × Obj)} {σ:St} {H:aq} {s:Shared} {E:Value->Shared->Prop}
theorem Inv.h7 (J:Inv X ab σ H s) (E:Value->Shared->Prop):Inv (X.h7 E) ab σ H s:=⟨J.ok.h7 E,J.os,J.bare,J.base,J.loc,J.cell,J.free,J.i8,J.pin,J.bo,J.len⟩
theorem Inv.mX (J:Inv (X.h7 E) ab σ H s):Inv X ab σ H s:=⟨J.ok.mX,J.os,J.bare,J.base,J.loc,J.cell,J.free,J.i8,J.pin,J.bo,J.len⟩
theorem rW.mX (h:rW (X.h7 E) ab D f aj):rW X ab D f aj:=by
 cases f with
 | next=>obtain ⟨aA,I,J,q⟩:=h;exact ⟨aA,I,J.mX,q⟩
 | brk=>obtain ⟨aA,I,J,q⟩:=h;exact ⟨aA,I,J.mX,q⟩
 | cont=>obtain ⟨aA,I,J,q⟩:=h;exact ⟨aA,I,J.mX,q⟩
 | ret u=>obtain ⟨v,aA,I,J,r,q⟩:=h;exact ⟨v,aA,I,J.mX,r,q⟩
theorem br.k9 {e:Expr} {t:TE} (h:br X.k9 e t):br X e t:=fun ab s σ H Q J hw=>
 wpAny_mono (h ab s σ H Q (J.h7 _) hw) (fun _ _ ⟨v,I,gy,r,q⟩=>⟨v,I,gy.mX,r,q⟩) fun _ _ z=>iK z
theorem i4.k9 {e:Expr} {t:TT} (h:i4 X.k9 e t):i4 X e t:=fun ab s σ H Q J hw=>
 wpAny_mono (h ab s σ H Q (J.h7 _) hw) (fun _ _ ⟨I,gy,q⟩=>⟨I,gy.mX,q⟩) fun _ _ z=>iK z
theorem kq.k9 {st:List Stmt} {t:ed} (h:kq X.k9 st t):kq X st t:=fun ab s σ H D J hw=>
 wpAny_mono (h ab s σ H D (J.h7 _) hw) (fun _ _ q=>q.mX) fun _ _ z=>iK z
end
section
variable {X:a8} {st:Stmt} {kP:List Stmt} {t u:ed} {e:Expr} {bM:TE} {pos:Pos}
noncomputable def il:ed:=fun D σ H=>D.b7 σ H
noncomputable def Tg:Nat:=0
noncomputable def Ig:Nat:=Tg
noncomputable def Kw:Nat:=Ig
noncomputable def zh:Nat:=Kw
noncomputable def S1:Nat:=zh
noncomputable def aaP:Nat:=S1
noncomputable def air:Nat:=aaP
noncomputable def afI:Nat:=air
noncomputable def adt:Nat:=afI
noncomputable def afz:Nat:=adt
noncomputable def XY:Nat:=afz
noncomputable def agj:Nat:=XY
noncomputable def aaA:Nat:=agj
noncomputable def Jb (t u:ed):ed:=fun D σ H=>(fun _:Nat=>t { D with b7:=u D } σ H) aaA
theorem eh:kq X [] il:=fun _ _ σ H _ J h=>wpAny_execs_nil ⟨σ,H,J,h⟩
theorem aR (af:hI X st t) (ao:kq X kP u):kq X (st :: kP) (Jb t u):=by
 intro ab s σ H D J h;refine wpAny_execs_cons (bC (af ab s σ H { D with b7:=u D } J h) fun f s1 q=>?_);cases f with
 | next=>
  obtain ⟨aA,I,gy,q⟩:=q;exact ao ab s1 aA I D gy q
 | ret v=>exact q
 | brk=>exact q
 | cont=>exact q
theorem a5 (af:hI X st t):kq X [st] t:=by
 intro ab s σ H D J h;refine wpAny_execs_cons (bC (af ab s σ H D J h) fun f s1 q=>?_);cases f with
 | next=>exact wpAny_execs_nil q
 | ret v=>exact q
 | brk=>exact q
 | cont=>exact q
theorem Inv.quiet (J:Inv X ab σ H s):interactive X.env=false:=by simp [interactive,J.ok.kind]
noncomputable def Jl (bM:TE):ed:=fun D σ H=>bM σ H fun _ H1=>D.b7 σ H1
theorem en (he:br X e bM) (ax:swapsWith e none pos.line X.env=pure false:=by rfl):hI X (.Expr e pos) (Jl bM):=by
 intro ab s σ H D J h;exact wpAny_Expr_any (bC (he ab s σ H _ J h) fun v s1 ⟨x,H1,a3,cI,bL⟩=>⟨σ,H1,a3,bL⟩) J.quiet ax
noncomputable def xC (bM:TE):ed:=fun D σ H=>bM σ H D.kK
theorem cj (he:br X e bM):hI X (.Return (some e) pos) (xC bM):=by
 intro ab s σ H D J h;exact wpAny_Return_some (bC (he ab s σ H _ J h) fun v s1 ⟨x,H1,a3,cI,bL⟩=>⟨x,σ,H1,a3,cI,bL⟩)
noncomputable def SL:ed:=fun D _ H=>D.kK .bU H
theorem ahg:hI X (.Return none pos) SL:=fun _ _ σ H _ J h=>wpAny_Return_none ⟨.bU,σ,H,J,rfl,h⟩
noncomputable def Gd (c:TT) (t u:ed):ed:=fun D σ H=>c σ H fun b H1=>if b=true then t D σ H1 else u D σ H1
theorem dI (aw:i4 X c c0) (aX:kq X a t) (ae:kq X b u):hI X (.If c a b pos) (Gd c0 t u):=by
 intro ab s σ H D J h;refine wpAny_If (bC (aw ab s σ H _ J h) fun d s1 bx=>?_);obtain ⟨H1,a3,bL⟩:=bx;cases d with
 | true=>exact aX ab s1 σ H1 D a3 bL
 | false=>exact ae ab s1 σ H1 D a3 bL
noncomputable def Ee:ed:=fun _ _ _=>False
theorem nG:hI X st Ee:=fun _ _ _ _ _ _ h=>h.elim
end
noncomputable abbrev gi:=V->St->aq->(St->aq->Prop)->Prop
noncomputable abbrev qI:=List V->St->aq->(St->aq->Prop)->Prop
def l7 (X:a8) (uj:Expr) (t:gi):Prop:=
 ∀ (ab:List (Addr × Obj)) (s:Shared) (σ:St) (H:aq) (v:V) (u:Value) (Q:St->aq->Prop),Inv X ab σ H s->bH v u->t v σ H Q ->
  wpAny (model X.prog X.w) X.A (assign uj X.env u) (fun _ aj=>∃ aA I,Inv X ab aA I aj/\Q aA I) X.dF s
def wB (X:a8) (tF:List Expr) (t:qI):Prop:=
 ∀ (ab:List (Addr × Obj)) (s:Shared) (σ:St) (H:aq) (vs:List V) (us:List Value) (Q:St->aq->Prop),Inv X ab σ H s->bY vs us->t vs σ H Q ->
  wpAny (model X.prog X.w) X.A (assignInOrder ((assignEach tF X.env).map (·.2)) us) (fun _ aj=>∃ aA I,Inv X ab aA I aj/\Q aA I) X.dF s
noncomputable abbrev Cz:=V->V->V->aq->(aq->Prop)->Prop
def OU (X:a8) (t:Cz):Prop:=
 ∀ (ab:List (Addr × Obj)) (s:Shared) (σ:St) (H:aq) (o i v:V) (e3 hX u:Value) (Q:aq->Prop),Inv X ab σ H s->bH o e3->bH i hX->bH v u->t o i v H Q ->
  wpAny (model X.prog X.w) X.A (setItem e3 hX u) (fun _ aj=>∃ I,Inv X ab σ I aj/\Q I) X.dF s
section
variable {X:a8} {pos:Pos}
noncomputable def gd (i:Nat):gi:=fun v σ H Q=>Q (σ.set i (some v)) H
theorem EG {x:Str} (bu:X.N.Nodup) (ah:X.N[i]? = some x) (ag:Loc X.env.scope x) (hf:X.fn x=true\/X.env.scope.names.lookup x=some .local:=by first | exact .inl rfl | exact .inr rfl | assumption):l7 X (.Name x pos) (gd i):=by
 intro ab s σ H v u Q J r h;exact wpAny_assign_Name (Ku J bu ah ag r (fun aj gy=>⟨_,H,gy,h⟩) hf)
noncomputable def vm:qI:=fun vs σ H Q=>vs=[]/\Q σ H
noncomputable def rz (t:gi) (u:qI):qI:=fun vs σ H Q=>∃ v r,vs=v :: r/\t v σ H fun aA I=>u r aA I Q
theorem k4:wB X [] vm:=by
 intro ab s σ H vs us Q J r h;obtain ⟨e,h⟩:=h;subst e;cases r;exact assignInOrder_nil ⟨σ,H,J,h⟩
theorem lc {e:Expr} {t:gi} (af:l7 X e t) (ao:wB X a4 u)
  (ax:(assignEach (e :: a4) X.env).map (·.2)=assign e X.env :: (assignEach a4 X.env).map (·.2):=by rfl):wB X (e :: a4) (rz t u):=by
 intro ab s σ H vs us Q J r h;obtain ⟨v,akd,au,h⟩:=h;subst au;cases r with
 | cons r r0=>
  rw [ax];refine assignInOrder_cons (bC (af ab s σ H _ _ _ J r h) fun _ s1 bx=>?_);obtain ⟨gg,H1,a3,bL⟩:=bx;exact ao ab s1 gg H1 _ _ Q a3 r0 bL
noncomputable def sG (K:ba) (n:Nat) (t:qI):gi:=fun v σ H Q=>∃ a xs,v=.ref a/\cM K H a xs/\xs.length=n/\t xs σ H Q
theorem aef {k:Nat} {t:qI} (aw:X.calm=true) (h:wB X a4 t)
  (aT:(assignEach a4 X.env).length=n:=by rfl) (gP:(assignEach a4 X.env).findIdx? (·.1)=none:=by rfl):l7 X (.Tuple a4 k pos) (sG X.K n t):=by
 intro ab s σ H v u Q J r hw;obtain ⟨a,xs,au,aN,aM,hw⟩:=hw;subst au;cases r;obtain ⟨a6,cR,cS,aQ⟩:=J.tuple aN;refine assign_Tuple_tuple (J.ok.hd aw) cS (by simp [aT,<- aM,cR.length]) gP fun h' ag=>?_
 have a3:Inv X ab σ H { s with heap:=h' }:=J.kept (t':=s.toks) fun b o e=>ag b o (gz (eA e)) e
 exact h ab _ σ H xs _ Q a3 (by simpa using cR) hw
noncomputable def EQ (to AP:TE) (t:Cz):gi:=fun v σ H Q=>to σ H fun o H1=>AP σ H1 fun i az=>t o i v az fun bk=>Q σ bk
theorem TP {to AP:TE} {t:Cz} (aS:br X o to) (ah:br X i AP) (ax:OU X t)
  (aX:∀ v,assign (.Subscript o i pos) X.env v=(do
   let e3 <- holding [v] (eval o X.env)
   let hX <- holding [v,e3] (eval i X.env)
   standAt pos
   holding [v,e3,hX] (setItem e3 hX v)
   release [v,e3,hX] []):=by intro _;rfl):l7 X (.Subscript o i pos) (EQ to AP t):=by
 intro ab s σ H v u Q J r h;rw [aX];refine wpAny_bind (wpAny_holding (bC (aS ab s σ H _ J h) fun e3 s1 bx=>?_));obtain ⟨x,H1,a3,cI,bL⟩:=bx;refine wpAny_bind (wpAny_holding (bC (ah ab s1 σ H1 _ a3 bL) fun hX s2 bx=>?_));obtain ⟨y,az,bP,fX,dO⟩:=bx;refine wpAny_bind (wpAny_standAt (wpAny_bind (wpAny_holding (bC (ax ab s2 σ az x y v e3 hX u _ bP cI fX r dO) fun _ s3 bx=>?_))));obtain ⟨bk,es,fP⟩:=bx;exact wpAny_release ⟨σ,bk,es,fP⟩
noncomputable def sm (bM:TE) (g:gi):ed:=fun D σ H=>bM σ H fun x H1=>g x σ H1 D.b7
theorem HA {dc e:Expr} (he:br X e bM) (bg:l7 X dc g) (ax:swapsWithSole [dc] e pos.line X.env=pure false:=by rfl) (hw:swappedStores [dc] e X.env=pure none:=by rfl)
  (af:(assignEach [dc] X.env).map (·.2)=[assign dc X.env]:=by rfl):hI X (.Assign [dc] e pos) (sm bM g):=by
 intro ab s σ H D J h;refine wpAny_Assign_stores (bC (he ab s σ H _ J h) fun v s1 bx=>?_) ax hw;obtain ⟨x,H1,a3,cI,bL⟩:=bx;rw [af];exact bC (bg ab s1 σ H1 x v _ a3 cI bL) fun _ s2 q=>q
theorem pA {x:Str} {e:Expr} (bu:X.N.Nodup) (ah:X.N[i]? = some x) (ag:Loc X.env.scope x) (he:br X e bM) (ax:swapsWith e (some (.Name x pos')) pos.line X.env=pure false:=by rfl) (hf:X.fn x=true\/X.env.scope.names.lookup x=some .local:=by first | exact .inl rfl | exact .inr rfl | assumption) :
  hI X (.Assign [.Name x pos'] e pos) (sm bM (gd i)):=by
 intro ab s σ H D J h;refine wpAny_Assign_Name (bC (he ab s σ H _ J h) fun v s1 bx=>?_) ax;obtain ⟨y,H1,a3,cI,bL⟩:=bx;exact Ku a3 bu ah ag cI (fun s2 bP=>⟨_,H1,bP,bL⟩) hf
noncomputable def Lo (c:TT) (bI:ed):ed:=fun D σ H=>∃ W:Nat->St->aq->Prop,(∃ m,W m σ H)/\∀ m σ H,W m σ H ->
 c σ H fun b H1=>if b=true then ∃ N:St->aq->Prop,(∀ aA I,N aA I->∃ c3,c3 < m/\W c3 aA I)/\bI { D with b7:=N,eI:=N,cE:=D.b7 } σ H1 else D.b7 σ H1
theorem U5 (av:PassesOwn (model X.prog X.w) X.A X.env X.dF) (aw:i4 X c c0) (ae:kq X body bI):hI X (.While c body [] pos) (Lo c0 bI):=by
 intro ab s σ H D J h;obtain ⟨W,⟨m0,mi⟩,turn⟩:=h;refine wpAny_While (codeAny_whileLoop (fun n aj=>∃ aA I,Inv X ab aA I aj/\W n aA I) ?_ m0 ⟨σ,H,J,mi⟩);rintro n s1 ⟨gg,H1,a3,dk⟩;refine wpAny_passesOwn av (bC (aw ab s1 gg H1 _ a3 (turn n gg H1 dk)) fun b s2 bx=>?_);obtain ⟨az,bP,dO⟩:=bx;cases b with
 | true=>
  obtain ⟨N,bu,dO⟩:=dO;rw [if_pos rfl];refine wpAny_passesOwn av (bC (ae ab s2 gg az _ bP dO) fun f s3 fP=>?_);cases f with
  | next=>
   obtain ⟨gc,bk,es,dK⟩:=fP;obtain ⟨c3,hm,hn⟩:=bu gc bk dK;exact ⟨c3,hm,gc,bk,es,hn⟩
  | cont=>
   obtain ⟨gc,bk,es,dK⟩:=fP;obtain ⟨c3,hm,hn⟩:=bu gc bk dK;exact ⟨c3,hm,gc,bk,es,hn⟩
  | brk=>exact fP
  | ret v=>exact fP
 | false=>
  rw [if_neg fB];exact wpAny_execs_nil ⟨gg,az,bP,dO⟩
end
structure jm where
 go:Nat->aq->Prop
 n_:Nat->aq->V->aq->Prop
 stop:Nat->aq->Prop
def jo (X:a8) (ab:List (Addr × Obj)) (H:aq) (b:Addr):Prop:=
 H b=none/\b ≠ X.env.locals/\b ∉ X.aH/\(b ∈ X.ex\/X.fs.heap.objs.size <= b)/\(∀ x c,X.env.cells.lookup x=some c->c ≠ b)/\∀ p ∈ X.d7 ++ ab,p.1 ≠ b
theorem Inv.n7 (J:Inv X ab σ H s) (ae:s.heap.objs.size <= b) (aT:I b=none):jo X ab I b:=by
 refine ⟨aT,Mo (hC J.lt ae),J.D2 ae,.inr (c4 J.mQ ae),fun x c e z=>?_,fun p av z=>?_⟩
 .obtain ⟨v,q⟩:=J.cell x c e;exact absurd (hC q.lt (by rw [z];exact ae)) (nA _)
 .exact absurd (hC (eA (J.pin p av).1) (by rw [z];exact ae)) (nA _)
structure pH (P:Program) (w:World) (K:ba) (dc:Expr) (bS:jm) (bt:List Addr) (it:Addr) (h1:Nat->Heap->Prop):Prop where
 mem:it ∈ bt
 obj:∀ i h,h1 i h->∀ b ∈ bt,∃ o,h.get? b=some o/\∀ v,o.data ≠ .cell v
 keep:∀ i h h',h1 i h->(∀ b ∈ bt,∀ o,h.get? b=some o->h'.get? b=some o)->h1 i h'
 item:∀ (X:a8),X.prog=P->X.w=w->X.K=K->X.calm=true->∀ (i:Nat) (ab:List (Addr × Obj)) (s:Shared) (σ:St) (H:aq) (E:Value->Shared->Prop),Inv X ab σ H s->(∀ b ∈ bt,jo X ab H b)->h1 i s.heap->bS.go i H ->
  wpAny (model P w) X.A (pyNext (.ref it)) (fun r s1=>∃ u,r=some u /\
   wpAny (model P w) X.A (letOwnedTupleGo dc (.ref it) u) (fun _ s2=>∃ x I,Inv X ab σ I s2/\bH x u/\bS.n_ i H x I/\h1 (i + 1) s2.heap/\∀ b ∈ bt,I b=none) E s1) E s
 done:∀ (X:a8),X.prog=P->X.w=w->X.K=K->X.calm=true->∀ (i:Nat) (ab:List (Addr × Obj)) (s:Shared) (σ:St) (H:aq) (E:Value->Shared->Prop),Inv X ab σ H s->(∀ b ∈ bt,jo X ab H b)->h1 i s.heap->bS.stop i H ->
  wpAny (model P w) X.A (pyNext (.ref it)) (fun r s1=>r=none/\Inv X ab σ H s1) E s
 self:∀ (A:Around) (i:Nat) (s:Shared) (Q:Value->Shared->Prop) (E:Value->Shared->Prop),h1 i s.heap->Q (.ref it) s->wpAny (model P w) A (pyIter (.ref it)) Q E s
noncomputable abbrev TI:=St->aq->(jm->aq->Prop)->Prop
def MT (X:a8) (ab:List (Addr × Obj)) (σ:St) (dc:Expr) (R:jm->aq->Prop) (zC:Value) (s2:Shared):Prop:=
 ∃ (it:Addr) (bt:List Addr) (h1:Nat->Heap->Prop) (bS:jm) (I:aq),zC=.ref it/\Inv X ab σ I s2/\pH X.prog X.w X.K dc bS bt it h1/\h1 0 s2.heap/\(∀ b ∈ bt,jo X ab I b)/\R bS I
def oz (X:a8) (dc iter:Expr) (gB:TI):Prop:=
 ∀ (ab:List (Addr × Obj)) (s:Shared) (σ:St) (H:aq) (R:jm->aq->Prop),Inv X ab σ H s->gB σ H R ->
  wpAny (model X.prog X.w) X.A (eval iter X.env) (fun v s1=>wpAny (model X.prog X.w) X.A (pyIter v) (MT X ab σ dc R) X.dF s1) X.dF s
theorem v7 {A:Around} {it:Addr} (aS:s.heap.get? it=some o) (aw:o.cls=.type n) (hd:o.data=.fields vs)
    (aT:["enumerate","zip","dict_itemiterator","dict_reverseitemiterator","odict_iterator","itertools.zip_longest","itertools.pairwise"].contains n=false) (aV:Q () s):wpAny M A (letOwnedTupleGo dc (.ref it) u) Q E s:=by
  unfold letOwnedTupleGo;cases dc <;> first
    | exact wpAny_pure aV
    | (cases u <;> first
        | exact wpAny_pure aV
        | (refine wpAny_bind (wpAny_load aS ?_)
           rw [aw,hd];show wpAny M A (if (["enumerate","zip","dict_itemiterator","dict_reverseitemiterator","odict_iterator","itertools.zip_longest","itertools.pairwise"].contains n && vs[0]? == some (rawInt _))=true then _ else _) Q E s;rw [if_neg (by intro h;rw [aT,k2] at h;cases h)];exact wpAny_pure aV))
noncomputable def mT (K:ba) (a:Addr):jm:=
 ⟨fun i H=>∃ xs x,aD K H a xs/\xs[i]? = some x,fun i H x I=>I=H/\∀ xs,aD K H a xs->xs[i]? = some x,fun i H=>∃ xs,aD K H a xs/\xs.length <= i⟩
noncomputable def Bh (K:ba) (a:Addr):jm:=
 ⟨fun i H=>∃ xs x,cM K H a xs/\xs[i]? = some x,fun i H x I=>I=H/\∀ xs,cM K H a xs->xs[i]? = some x,fun i H=>∃ xs,cM K H a xs/\xs.length <= i⟩
noncomputable def mq (lo:Int) (n:Nat):jm:=⟨fun i _=>i < n,fun i H x I=>I=H/\x=.int (lo + i),fun i _=>n <= i⟩
theorem afm {w:World} {K:ba} (a it:Addr):pH P w K dc (mT K a) [it] it (fun i h=>h.IsListIter it a i) where
 mem:=by simp
 obj:=fun i h st b ae=>by
  have e:b=it:=by simpa using ae
  subst e;obtain ⟨o,e,c,d⟩:=st;exact ⟨o,e,fun v z=>by rw [d] at z;cases z⟩
 keep:=fun i h h' st k=>st.at fun o e=>k it (by simp) o e
 item:=by
  intro X cK hw fS aw i ab s σ H E J hf st bg;subst cK hw fS;obtain ⟨xs,x,aN,ag⟩:=bg;obtain ⟨a6,cR,p,aQ⟩:=J.list aN;obtain ⟨u,bq,f7⟩:=cR.get ag;obtain ⟨f0,f1,f2,dY,f4,ea⟩:=hf it (by simp);refine wpAny_pyNext_list_item st p.isList (x:=u) (by simpa using bq) fun h' ko nC=>?_
  have a3:Inv X ab σ H { s with heap:=h' }:=J.turned (t':=s.toks) (fun b o ae e=>(nC.2 b ae).trans e) f0 f1 dY f4 ea;obtain ⟨o,e,c,d⟩:=id ko;exact ⟨u,rfl,v7 (s:={ s with heap:=h' }) e c d (by decide) ⟨x,H,a3,f7,⟨rfl,fun ys a7=>by rw [J.w1 a7 aN];exact ag⟩,ko,fun b ae=>(hf b ae).1⟩⟩
 done:=by
  intro X cK hw fS aw i ab s σ H E J hf st bg;subst cK hw fS;obtain ⟨xs,aN,ag⟩:=bg;obtain ⟨a6,cR,p,aQ⟩:=J.list aN;obtain ⟨f0,f1,f2,dY,f4,ea⟩:=hf it (by simp);have aM:=cR.length;exact wpAny_pyNext_list_end (J.ok.hd aw) st p.isList (by simp;omega) fun h' fa=>⟨rfl,J.turned (t':=s.toks) (fun b o ae e=>fa b o ae e) f0 f1 dY f4 ea⟩
 self:=fun _ _ _ _ _ st h=>wpAny_pyIter_listiter st h
theorem Zs {w:World} {K:ba} (a it:Addr):pH P w K dc (Bh K a) [it] it (fun i h=>h.IsTupleIter it a i) where
 mem:=by simp
 obj:=fun i h st b ae=>by
  have e:b=it:=by simpa using ae
  subst e;obtain ⟨o,e,c,d⟩:=st;exact ⟨o,e,fun v z=>by rw [d] at z;cases z⟩
 keep:=fun i h h' st k=>st.at fun o e=>k it (by simp) o e
 item:=by
  intro X cK hw fS aw i ab s σ H E J hf st bg;subst cK hw fS;obtain ⟨xs,x,aN,ag⟩:=bg;obtain ⟨a6,cR,p,aQ⟩:=J.tuple aN;obtain ⟨u,bq,f7⟩:=cR.get ag;obtain ⟨f0,f1,f2,dY,f4,ea⟩:=hf it (by simp);refine wpAny_pyNext_tuple_item st (show s.heap.IsTuple a a6.toArray from p) (x:=u) (by simpa using bq) fun h' ko nC=>?_
  have a3:Inv X ab σ H { s with heap:=h' }:=J.turned (t':=s.toks) (fun b o ae e=>(nC.2 b ae).trans e) f0 f1 dY f4 ea;obtain ⟨o,e,c,d⟩:=id ko;exact ⟨u,rfl,v7 (s:={ s with heap:=h' }) e c d (by decide) ⟨x,H,a3,f7,⟨rfl,fun ys a7=>by rw [J.QO a7 aN];exact ag⟩,ko,fun b ae=>(hf b ae).1⟩⟩
 done:=by
  intro X cK hw fS aw i ab s σ H E J hf st bg;subst cK hw fS;obtain ⟨xs,aN,ag⟩:=bg;obtain ⟨a6,cR,p,aQ⟩:=J.tuple aN;obtain ⟨f0,f1,f2,dY,f4,ea⟩:=hf it (by simp);have aM:=cR.length;exact wpAny_pyNext_tuple_end (J.ok.hd aw) st (show s.heap.IsTuple a a6.toArray from p) (by simp;omega) fun h' fa=>⟨rfl,J.turned (t':=s.toks) (fun b o ae e=>fa b o ae e) f0 f1 dY f4 ea⟩
 self:=fun _ _ _ _ _ st h=>wpAny_pyIter_tupleiter st h
theorem XR {w:World} {K:ba} (it:Addr) (lo:Int) (n:Nat):pH P w K dc (mq lo n) [it] it (fun i h=>IsRangeIter h it (lo + (i:Nat) * 1) ((n:Int) - (i:Nat)) 1) where
 mem:=by simp
 obj:=fun i h st b ae=>by
  have e:b=it:=by simpa using ae
  subst e;exact ⟨_,st,fun v z=>by
   have hJ:S9 _=Data.cell v:=z;cases hJ⟩
 keep:=fun i h h' st k=>k it (by simp) _ st
 item:=by
  intro X cK hw fS aw i ab s σ H E J hf st bg;subst cK hw fS;obtain ⟨f0,f1,f2,dY,f4,ea⟩:=hf it (by simp);have W:=Walks.range (prog:=X.prog) (w:=X.w) (J.ok.hd aw) it lo 1 n;refine W.item i s _ _ bg st fun v h' tk aK ko l0=>?_
  obtain ⟨t,rfl⟩:=aK;have a3:Inv X ab σ H { s with heap:=h',toks:=tk }:=J.turned (fun b o ae e=>l0 b o (by simpa using ae) e) f0 f1 dY f4 ea;refine ⟨_,rfl,v7 (s:={ s with heap:=h',toks:=tk }) (n := "range_iterator") ko rfl rfl (by decide) ⟨.int (lo + i),H,a3,⟨t,?_⟩,⟨rfl,rfl⟩,ko,fun b ae=>(hf b ae).1⟩⟩;rw [Int.mul_one]
 done:=by
  intro X cK hw fS aw i ab s σ H E J hf st bg;subst cK hw fS;obtain ⟨f0,f1,f2,dY,f4,ea⟩:=hf it (by simp);exact wpAny_pyNext_range_end (J.ok.hd aw) st (by have:n <= i:=bg;omega) fun h' fa=>⟨rfl,J.turned (t':=s.toks) (fun b o ae e=>fa b o ae e) f0 f1 dY f4 ea⟩
 self:=fun _ _ _ _ _ st h=>wpAny_pyIter_rangeiter st h
section
variable {X:a8} {dc:Expr}
noncomputable def HP (K:ba) (dS:TE):TI:=fun σ H R=>dS σ H fun x H1=>e1 x fun a=>(∃ xs,aD K H1 a xs)/\R (mT K a) H1
noncomputable def C' (K:ba) (dS:TE):TI:=fun σ H R=>dS σ H fun x H1=>e1 x fun a=>(∃ xs,cM K H1 a xs)/\R (Bh K a) H1
theorem Gc (aM:br X l dS):oz X dc l (HP X.K dS):=by
 intro ab s σ H R J h;refine bC (aM ab s σ H _ J h) fun v s1 bx=>?_
 obtain ⟨x,H1,a3,cI,bL⟩:=bx;obtain ⟨a,e,⟨xs,aN⟩,q⟩:=e1.out bL;subst e;cases cI;obtain ⟨a6,cR,p,aQ⟩:=a3.list aN;refine wpAny_pyIter_list p.isList ?_;refine ⟨s1.heap.objs.size,[s1.heap.objs.size],_,_,H1,rfl,a3.kept (t':=s1.toks) fun b o e=>e2 _ e,afm a _,⟨_,hN _ rfl,rfl,rfl⟩,fun b ae=>?_,q⟩;have e:b=s1.heap.objs.size:=by simpa using ae
 subst e;exact a3.n7 (bW _) (a3.bo.fresh (bW _))
theorem YH (aM:br X l dS):oz X dc l (C' X.K dS):=by
 intro ab s σ H R J h;refine bC (aM ab s σ H _ J h) fun v s1 bx=>?_
 obtain ⟨x,H1,a3,cI,bL⟩:=bx;obtain ⟨a,e,⟨xs,aN⟩,q⟩:=e1.out bL;subst e;cases cI;obtain ⟨a6,cR,p,aQ⟩:=a3.tuple aN;refine wpAny_pyIter_tuple (show s1.heap.IsTuple a a6.toArray from p) ?_;refine ⟨s1.heap.objs.size,[s1.heap.objs.size],_,_,H1,rfl,a3.kept (t':=s1.toks) fun b o e=>e2 _ e,Zs a _,⟨_,hN _ rfl,rfl,rfl⟩,fun b ae=>?_,q⟩;have e:b=s1.heap.objs.size:=by simpa using ae
 subst e;exact a3.n7 (bW _) (a3.bo.fresh (bW _))
theorem Uw {ab:List (Addr × Obj)} {σ:St} {H:aq} {s:Shared} {R:jm->aq->Prop} {E:Value->Shared->Prop} {lo ah:Int} {t u v:Tok} {tk:Nat} (J:Inv X ab σ H s) (af:-(2 ^ 62) <= lo) (ao:lo < 2 ^ 62) (a_:-(2 ^ 62) <= ah) (cL:ah < 2 ^ 62)
  (q:R (mq lo (ah - lo).toNat) H):wpAny (model X.prog X.w) X.A (pyIter (.ref s.heap.objs.size)) (MT X ab σ dc R) E { s with heap:=s.heap.push { cls:=.type "range",data:=.fields #[.int lo t,.int ah u,.int 1 v] },toks:=tk }:=by
 refine wpAny_pyIter_range (IsRange.new ..) (small_one af ao a_ cL) ?_;have a3:Inv X ab σ H { s with heap:=s.heap.push { cls:=.type "range",data:=.fields #[.int lo t,.int ah u,.int 1 v] },toks:=tk }:=J.kept fun b o e=>e2 _ e
 refine ⟨(s.heap.push { cls:=.type "range",data:=.fields #[.int lo t,.int ah u,.int 1 v] }).objs.size,[(s.heap.push { cls:=.type "range",data:=.fields #[.int lo t,.int ah u,.int 1 v] }).objs.size],_,_,H,rfl,
  a3.kept (t':=tk) fun b o e=>e2 _ e,XR _ lo (ah - lo).toNat,?_,fun b ae=>?_,q⟩
 .have au:lo + ((0:Nat):Int) * 1=lo:=by simp
  have aI:(((ah - lo).toNat:Nat):Int) - ((0:Nat):Int)=aiX lo ah 1:=by rw [rangeSize_one];split <;> omega
  show IsRangeIter _ _ (lo + ((0:Nat):Int) * 1) ((((ah - lo).toNat:Nat):Int) - ((0:Nat):Int)) 1;rw [au,aI];exact hN _ rfl
 .have e:b=(s.heap.push { cls:=.type "range",data:=.fields #[.int lo t,.int ah u,.int 1 v] }).objs.size:=by simpa using ae
  subst e;exact a3.n7 (bW _) (a3.bo.fresh (bW _))
noncomputable def N1 (a9:fG):TI:=fun σ H R=>a9 σ H fun vs H1=>ma vs fun x=>f_ x fun j=>-(2 ^ 62) <= j/\j < 2 ^ 62/\R (mq 0 j.toNat) H1
theorem l8 {a:Expr} {a9:fG} {p pos:Pos} (bg:lX X "range") (hm:X.mg "range"=none) (aX:jM X [a] a9) (ax:starEach [a] X.env=[(false,eval a X.env)]:=by rfl):oz X dc (.Call (.Name "range" p) [a] [] pos) (N1 a9):=by
 intro ab s σ H R J h;refine Call_ (u0 J bg hm boot_range (Kd (bC (aX pos ab s σ H _ J h) fun us s1 bx=>?_) ax rfl));obtain ⟨vs,H1,a3,cI,bL⟩:=bx;obtain ⟨aio,acy,gj⟩:=ma.out bL;obtain ⟨j,ED,adw,dO,q⟩:=f_.out gj;have e:=acy.trans (congrArg (fun z=>[z]) ED);subst e;cases cI with
 | cons r r0=>
  cases r0;obtain ⟨t,rfl⟩:=r;exact call_range_1 (Uw a3 (by omega) (by omega) adw dO (by simpa using q))
noncomputable def Lh (gB:TI) (g:gi) (bI:ed):ed:=fun D σ H=>gB σ H fun bS H1=>∃ W:Nat->Nat->St->aq->Prop,(∃ m,W 0 m σ H1)/\∀ i m σ H,W i m σ H ->
 (bS.stop i H/\D.b7 σ H)\/(bS.go i H/\∃ N:St->aq->Prop,(∀ aA I,N aA I->∃ c3,c3 < m/\W (i + 1) c3 aA I)/\∀ x I,bS.n_ i H x I->g x σ I fun cC az=>bI { D with b7:=N,eI:=N,cE:=D.b7 } cC az)
noncomputable def u5 (bt:List Addr) (h:Heap):List (Addr × Obj):=bt.filterMap fun b=>(h.get? b).map fun o=>(b,o)
theorem Ab {h:Heap} (ae:b ∈ bt) (e:h.get? b=some o):(b,o) ∈ u5 bt h:=aeg.mpr ⟨b,ae,by rw [e];rfl⟩
theorem Wm {h:Heap} {p:Addr × Obj} (av:p ∈ u5 bt h):p.1 ∈ bt/\h.get? p.1=some p.2:=by
 obtain ⟨b,ae,e⟩:=aeg.mp av;cases q:h.get? b with
 | none=>rw [q] at e;cases e
 | some o=>
  rw [q] at e;have b5:(b,o)=p:=dh e;subst b5;exact ⟨ae,q⟩
theorem Inv.pinned (J:Inv X ab σ H s) (hf:∀ b ∈ bt,jo X ab H b) (aS:∀ b ∈ bt,∃ o,s.heap.get? b=some o/\∀ v,o.data ≠ .cell v):Inv X (ab ++ u5 bt s.heap) σ H s:=
 J.qw fun p av=>(f5.mp av).elim (fun z=>J.pin p (iz _ z)) fun z=>by
  obtain ⟨ae,e⟩:=Wm z;obtain ⟨f0,f1,f2,_⟩:=hf p.1 ae;obtain ⟨o,b5,d⟩:=aS p.1 ae;rw [e] at b5;cases b5;exact ⟨e,f0,f1,f2,d⟩
theorem Inv.Bw (J:Inv X (ab ++ pl) σ H s):Inv X ab σ H s:=J.qw fun p av=>J.pin p (iz _ (pg _ av))
theorem be (av:PassesOwn (model X.prog X.w) X.A X.env X.dF) (aw:X.calm=true) (ah:oz X dc iter gB) (bg:l7 X dc g) (ae:kq X body bI)
  (ax:∀ x,foldedSetIterable iter X.env x=pure x:=by intro _;rfl):hI X (.For dc iter body [] pos) (Lh gB g bI):=by
 intro ab s σ H D J h;refine wpAny_For (bC (ah ab s σ H _ J h) fun v s1 af=>bC af fun zC s2 ao=>?_) ax;obtain ⟨it,bt,h1,bS,az,e,bP,T,pM,f2,W,⟨m0,mi⟩,turn⟩:=ao;subst e;have stat:∀ {I:aq},(∀ b ∈ bt,I b=none)->∀ b ∈ bt,jo X ab I b:=fun aT b ae=>⟨aT b ae,(f2 b ae).2⟩
 refine codeAny_forLoop_any (fun n aj=>∃ i aA I,Inv X ab aA I aj/\h1 i aj.heap/\(∀ b ∈ bt,I b=none)/\W i n aA I) ?_ m0 ⟨0,σ,az,bP,pM,fun b ae=>(f2 b ae).1,mi⟩;rintro n s3 ⟨i,gc,bk,es,Pz,OJ,hn⟩;rcases turn i n gc bk hn with ⟨stop,It⟩ | ⟨go,N,bu,step⟩
 .refine wpAny_passesOwn av (bC (T.done X rfl rfl rfl aw i ab s3 gc bk X.dF es (stat OJ) Pz stop) fun r s4 bx=>?_);obtain ⟨ak,hu⟩:=bx;subst ak;exact wpAny_execs_nil ⟨gc,bk,hu,It⟩
 .refine wpAny_passesOwn av (bC (T.item X rfl rfl rfl aw i ab s3 gc bk X.dF es (stat OJ) Pz go) fun r s4 bx=>?_);obtain ⟨u,ak,cL⟩:=bx;subst ak;refine wpAny_passesOwn av (bC cL fun _ s5 bx=>?_);obtain ⟨x,dH,uU,E5,Cc,rP,Ef⟩:=bx;have B2:=uU.pinned (stat Ef) (T.obj _ _ rP);refine wpAny_passesOwn av (bC (bg _ s5 gc dH x u _ B2 E5 (step x dH Cc)) fun _ gV bx=>?_);obtain ⟨lW,hH,I2,I1⟩:=bx;refine wpAny_passesOwn av (bC (ae _ gV lW hH _ I2 I1) fun f jN mD=>?_);have again:∀ {ji:St} {ft:aq},Inv X (ab ++ u5 bt s5.heap) ji ft jN->N ji ft->∃ m,m < n/\∃ i aA I,Inv X ab aA I jN/\h1 i jN.heap/\(∀ b ∈ bt,I b=none)/\W i m aA I:=fun {ji ft} j5 j9=>by
   obtain ⟨c3,hm,m9⟩:=bu ji ft j9;refine ⟨c3,hm,i + 1,ji,ft,j5.Bw,T.keep _ _ _ rP fun b ae o e=>(j5.pin (b,o) (iz _ (iz _ (Ab ae e)))).1,fun b ae=>?_,m9⟩;obtain ⟨o,e,d⟩:=T.obj _ _ rP b ae;exact (j5.pin (b,o) (iz _ (iz _ (Ab ae e)))).2.1
  cases f with
  | next=>obtain ⟨ji,ft,j5,j9⟩:=mD;exact again j5 j9
  | cont=>obtain ⟨ji,ft,j5,j9⟩:=mD;exact again j5 j9
  | brk=>obtain ⟨ji,ft,j5,mD⟩:=mD;exact ⟨ji,ft,j5.Bw,mD⟩
  | ret v=>obtain ⟨dU,ji,ft,j5,agU,mD⟩:=mD;exact ⟨dU,ji,ft,j5.Bw,agU,mD⟩
end
theorem acr {K:ba} {a:Addr} {xs:List V} {g:gi} {bI:ed} {D:gW} {σ:St} {H:aq} (Pv:Nat->St->aq->Prop) (h0:Pv 0 σ H) (aM:∀ i σ H,i <= xs.length->Pv i σ H->aD K H a xs)
  (ax:∀ i x σ H,xs[i]? = some x->Pv i σ H->g x σ H fun cC az=>bI { D with b7:=Pv (i + 1),eI:=Pv (i + 1),cE:=D.b7 } cC az) (hd:∀ σ H,Pv xs.length σ H->D.b7 σ H) :
  ∃ W:Nat->Nat->St->aq->Prop,(∃ m,W 0 m σ H)/\∀ i m σ H,W i m σ H ->
   ((mT K a).stop i H/\D.b7 σ H)\/((mT K a).go i H/\∃ N:St->aq->Prop,(∀ aA I,N aA I->∃ c3,c3 < m/\W (i + 1) c3 aA I)/\∀ x I,(mT K a).n_ i H x I->g x σ I fun cC az=>bI { D with b7:=N,eI:=N,cE:=D.b7 } cC az):=by
 refine ⟨fun i m σ H=>m=xs.length - i/\i <= xs.length/\Pv i σ H,⟨xs.length,by simp,fk _,h0⟩,?_⟩;rintro i m σ H ⟨rfl,ah,p⟩;have q:=aM i σ H ah p;by_cases dt:i < xs.length
 .refine .inr ⟨⟨xs,xs[i],q,by simp [dt]⟩,Pv (i + 1),fun aA I jB=>⟨xs.length - (i + 1),by omega,rfl,dt,jB⟩,fun x I y=>?_⟩;obtain ⟨e,y⟩:=y;subst e;exact ax i x σ _ (y xs q) p
 .have e:i=xs.length:=by omega
  subst e;exact .inl ⟨⟨xs,q,bW _⟩,hd σ H p⟩
theorem UF {lo:Int} {n:Nat} {g:gi} {bI:ed} {D:gW} {σ:St} {H:aq} (Pv:Nat->St->aq->Prop) (h0:Pv 0 σ H)
  (ax:∀ i σ H,i < n->Pv i σ H->g (.int (lo + i)) σ H fun cC az=>bI { D with b7:=Pv (i + 1),eI:=Pv (i + 1),cE:=D.b7 } cC az) (hd:∀ σ H,Pv n σ H->D.b7 σ H) :
  ∃ W:Nat->Nat->St->aq->Prop,(∃ m,W 0 m σ H)/\∀ i m σ H,W i m σ H ->
   ((mq lo n).stop i H/\D.b7 σ H)\/((mq lo n).go i H/\∃ N:St->aq->Prop,(∀ aA I,N aA I->∃ c3,c3 < m/\W (i + 1) c3 aA I)/\∀ x I,(mq lo n).n_ i H x I->g x σ I fun cC az=>bI { D with b7:=N,eI:=N,cE:=D.b7 } cC az):=by
 refine ⟨fun i m σ H=>m=n - i/\i <= n/\Pv i σ H,⟨n,by simp,fk _,h0⟩,?_⟩;rintro i m σ H ⟨rfl,ah,p⟩;by_cases dt:i < n
 .refine .inr ⟨dt,Pv (i + 1),fun aA I jB=>⟨n - (i + 1),by omega,rfl,dt,jB⟩,fun x I y=>?_⟩;obtain ⟨e,y⟩:=y;subst e y;exact ax i σ _ dt p
 .have e:i=n:=by omega
  subst e;exact .inl ⟨bW _,hd σ H p⟩
noncomputable abbrev eN:=V->V->aq->cW->Prop
def hb (X:a8) (f:Value->Value->Sem Value) (r:eN):Prop:=
 ∀ (ab:List (Addr × Obj)) (s:Shared) (σ:St) (H:aq) (x y:V) (v u:Value) (Q:cW),Inv X ab σ H s->bH x v->bH y u->r x y H Q ->
  wpAny (model X.prog X.w) X.A (f v u) (gN X ab σ Q) X.dF s
def HD (X:a8) (f:Value->Sem Value) (r:V->aq->cW->Prop):Prop:=
 ∀ (ab:List (Addr × Obj)) (s:Shared) (σ:St) (H:aq) (x:V) (v:Value) (Q:cW),Inv X ab σ H s->bH x v->r x H Q ->
  wpAny (model X.prog X.w) X.A (f v) (gN X ab σ Q) X.dF s
def m4 (X:a8) (f:Value) (r:List V->aq->cW->Prop):Prop:=
 ∀ (ab:List (Addr × Obj)) (s:Shared) (σ:St) (H:aq) (xs:List V) (us:List Value) (Q:cW),Inv X ab σ H s->bY xs us->r xs H Q ->
  wpAny (model X.prog X.w) X.A (call f us) (gN X ab σ Q) X.dF s
def aaH (X:a8) (r:V->aq->(Bool->aq->Prop)->Prop):Prop:=
 ∀ (ab:List (Addr × Obj)) (s:Shared) (σ:St) (H:aq) (x:V) (v:Value) (Q:Bool->aq->Prop),Inv X ab σ H s->bH x v->r x H Q ->
  wpAny (model X.prog X.w) X.A (truthy v) (BS X ab σ Q) X.dF s
noncomputable def q2 (r:eN) (a9 bI:TE):TE:=fun σ H Q=>a9 σ H fun x H1=>bI σ H1 fun y az=>r x y az Q
noncomputable def C2 (r:V->aq->cW->Prop) (a9:TE):TE:=fun σ H Q=>a9 σ H fun x H1=>r x H1 Q
noncomputable def wy (C:Int->Int->Prop) (g:Int->Int->V):eN:=fun x y H Q=>f_ x fun i=>f_ y fun j=>C i j/\Q (g i j) H
noncomputable def oa (g:Int->Int->V):eN:=fun x y H Q=>f_ x fun i=>f_ y fun j=>Q (g i j) H
noncomputable def Bc (g:Int->V):V->aq->cW->Prop:=fun x H Q=>f_ x fun i=>Q (g i) H
section
variable {X:a8} {a b c:Expr} {a9 bI c0:TE} {pos:Pos}
theorem D1 (aX:br X a a9) (ae:br X b bI) {ab:List (Addr × Obj)} {s:Shared} {σ:St} {H:aq} {R:V->V->aq->Prop} (J:Inv X ab σ H s)
  (h:a9 σ H fun x H1=>bI σ H1 fun y az=>R x y az) {Q:Value->Shared->Prop} {f:Value->Value->Sem Value}
  (hf:∀ v u s2 x y az,Inv X ab σ az s2->bH x v->bH y u->R x y az->wpAny (model X.prog X.w) X.A (f v u) Q X.dF s2) :
  wpAny (model X.prog X.w) X.A (eval a X.env) (fun v dd=>wpAny (model X.prog X.w) X.A (eval b X.env) (fun u dT=>wpAny (model X.prog X.w) X.A (f v u) Q X.dF dT) X.dF dd) X.dF s:=by
 refine bC (aX ab s σ H _ J h) fun v s1 bx=>?_
 obtain ⟨x,H1,a3,cI,bL⟩:=bx;refine bC (ae ab s1 σ H1 _ a3 bL) fun u s2 bx=>?_
 obtain ⟨y,az,bP,fX,dO⟩:=bx;exact hf v u s2 x y az bP cI fX dO
theorem bD {op:Operator} {r:eN} (aS:hb X (binaryOp op) r) (aX:br X a a9) (ae:br X b bI):br X (.BinOp a op b pos) (q2 r a9 bI):=by
 intro ab s σ H Q J h;exact wpAny_BinOp (D1 aX ae J h fun v u s2 x y az bP bb bj q=>aS ab s2 σ az x y v u Q bP bb bj q)
theorem GE (aS:HD X (unaryOp op) r) (aX:br X a a9):br X (.UnaryOp op a pos) (C2 r a9):=by
 intro ab s σ H Q J h;exact UnaryOp_ (bC (aX ab s σ H _ J h) fun v s1 ⟨x,H1,a3,cI,bL⟩=>aS ab s1 σ H1 x v Q a3 cI bL)
theorem OB {f:Value->Value->Sem Value} {C:Int->Int->Prop} {g:Int->Int->Int}
  (rule:∀ (i j:Int) (t u:Tok) (s:Shared) (Q:Value->Shared->Prop) (E:Value->Shared->Prop),C i j->Q (.int (g i j) s.toks) { s with toks:=s.toks + 1 }->wpAny (model X.prog X.w) X.A (f (.int i t) (.int j u)) Q E s) :
  hb X f (wy C fun i j=>.int (g i j)):=by
 intro ab s σ H x y v u Q J bb bj h;obtain ⟨i,rfl,hM⟩:=f_.out h;obtain ⟨j,rfl,aw,q⟩:=f_.out hM;obtain ⟨t,rfl⟩:=bb;obtain ⟨t',rfl⟩:=bj;exact rule i j t t' s _ _ aw ⟨.int (g i j),H,J.tok _,⟨_,rfl⟩,q⟩
theorem L5 {f:Value->Value->Sem Value} {g:Int->Int->Int}
  (rule:∀ (i j:Int) (t u:Tok) (s:Shared) (Q:Value->Shared->Prop) (E:Value->Shared->Prop),Q (.int (g i j) s.toks) { s with toks:=s.toks + 1 }->wpAny (model X.prog X.w) X.A (f (.int i t) (.int j u)) Q E s) :
  hb X f (oa fun i j=>.int (g i j)):=by
 intro ab s σ H x y v u Q J bb bj h;obtain ⟨i,rfl,hM⟩:=f_.out h;obtain ⟨j,rfl,q⟩:=f_.out hM;obtain ⟨t,rfl⟩:=bb;obtain ⟨t',rfl⟩:=bj;exact rule i j t t' s _ _ ⟨.int (g i j),H,J.tok _,⟨_,rfl⟩,q⟩
theorem Cy {f:Value->Value->Sem Value} {g:Int->Int->Bool}
  (rule:∀ (i j:Int) (t u:Tok) (s:Shared) (Q:Value->Shared->Prop) (E:Value->Shared->Prop),Q (.bool (g i j)) s->wpAny (model X.prog X.w) X.A (f (.int i t) (.int j u)) Q E s) :
  hb X f (oa fun i j=>.bl (g i j)):=by
 intro ab s σ H x y v u Q J bb bj h;obtain ⟨i,rfl,hM⟩:=f_.out h;obtain ⟨j,rfl,q⟩:=f_.out hM;obtain ⟨t,rfl⟩:=bb;obtain ⟨t',rfl⟩:=bj;exact rule i j t t' s _ _ ⟨.bl (g i j),H,J,rfl,q⟩
def mS (i j:Int):Prop:=(-(2 ^ 64) < i/\i < 2 ^ 64)\/(-(2 ^ 64) < j/\j < 2 ^ 64)
theorem mS.ok (h:mS i j):IntMulOk i j:=by
 rcases h with ⟨af,ao⟩ | ⟨af,ao⟩
 .exact .of_left (intBits_le_64 af ao)
 .exact .of_right (intBits_le_64 af ao)
theorem d2:hb X (binaryOp .Add) (oa fun i j=>.int (i + j)):=L5 fun _ _ _ _ _ _ _ q=>add_int q
theorem jR:hb X (binaryOp .Sub) (oa fun i j=>.int (i - j)):=L5 fun _ _ _ _ _ _ _ q=>sub_int q
theorem jq:hb X (binaryOp .Mult) (wy mS fun i j=>.int (i * j)):=OB fun _ _ _ _ _ _ _ aw q=>mul_int q aw.ok
theorem i9:hb X (binaryOp .Mod) (wy (fun _ j=>0 < j) fun i j=>.int (i % j)):=OB fun i j _ _ _ _ _ aw q=>by
 have af:(0:Int) < j:=aw;exact mod_int' (by omega) (by rw [Int.fmod_eq_emod_of_nonneg i (by omega)];exact q)
theorem WO {f:Value->Sem Value} {g:Int->Int}
  (rule:∀ (i:Int) (t:Tok) (s:Shared) (Q:Value->Shared->Prop) (E:Value->Shared->Prop),Q (.int (g i) s.toks) { s with toks:=s.toks + 1 }->wpAny (model X.prog X.w) X.A (f (.int i t)) Q E s) :
  HD X f (Bc fun i=>.int (g i)):=by
 intro ab s σ H x v Q J bb h;obtain ⟨i,rfl,q⟩:=f_.out h;obtain ⟨t,rfl⟩:=bb;exact rule i t s _ _ ⟨.int (g i),H,J.tok _,⟨_,rfl⟩,q⟩
theorem tC:HD X (unaryOp .USub) (Bc fun i=>.int (-i)):=WO fun _ _ _ _ _ q=>neg_int q
end
noncomputable def Fh:V->V->Bool
 | .bU,.bU=>true | .bU,.int _=>true | .int _,.bU=>true | .bU,.bl _=>true | .bl _,.bU=>true | .bU,.str _=>true | .str _,.bU=>true
 | .int _,.int _=>true | .bl _,.bl _=>true | .str _,.str _=>true | .kH _,.kH _=>true
 | .int _,.str _=>true | .str _,.int _=>true | .bl _,.str _=>true | .str _,.bl _=>true
 | _,_=>false
noncomputable def DX:eN:=fun x y H Q=>Fh x y=true/\Q (.bl (decide (x=y))) H
noncomputable def G0:eN:=fun x y H Q=>Fh x y=true/\Q (.bl (!decide (x=y))) H
theorem Me:decide (V.int i=V.int j)=(i == j):=by
 rw [kD];simp
theorem Nt:decide (V.bl i=V.bl j)=(i == j):=by
 rw [kD];simp
theorem Lw:decide (V.str i=V.str j)=(i == j):=by
 rw [kD];simp
theorem Np:decide (V.kH i=V.kH j)=(i.toList == j.toList):=by
 rw [kD];cases i;cases j;simp
section
variable {X:a8} {a b c:Expr} {a9 bI c0:TE} {pos:Pos}
theorem e9 {k ro:Bool} (J:Inv X ab σ H s) (q:Q (.bl k) H) (e:k=ro):gN X ab σ Q (.bool ro) s:=by
 subst e;exact ⟨.bl k,H,J,rfl,q⟩
theorem eo:hb X (compareOp .Eq) DX:=by
 intro ab s σ H x y v u Q J bb bj h;obtain ⟨ax,q⟩:=h;cases x with
 | bU=>
  cases bb;cases y with
  | bU=>cases bj;exact ajO (e9 J q (by simp))
  | bl j=>cases bj;exact akG (e9 J q (by simp))
  | int j=>obtain ⟨t',rfl⟩:=bj;exact aiM (e9 J q (by simp))
  | str j=>obtain ⟨t',rfl⟩:=bj;exact akz (e9 J q (by simp))
  | _=>exact absurd (show false=true from ax) fB
 | bl i=>
  cases bb;cases y with
  | bU=>cases bj;exact ali (e9 J q (by simp))
  | bl j=>cases bj;exact eq_bool (e9 J q Nt)
  | str j=>obtain ⟨t',rfl⟩:=bj;exact akA (e9 J q (by simp))
  | _=>exact absurd (show false=true from ax) fB
 | int i=>
  obtain ⟨t,rfl⟩:=bb;cases y with
  | bU=>cases bj;exact alc (e9 J q (by simp))
  | int j=>obtain ⟨t',rfl⟩:=bj;exact eq_int (e9 J q Me)
  | str j=>obtain ⟨t',rfl⟩:=bj;exact ajW (e9 J q (by simp))
  | _=>exact absurd (show false=true from ax) fB
 | str i=>
  obtain ⟨t,rfl⟩:=bb;cases y with
  | bU=>cases bj;exact aj1 (e9 J q (by simp))
  | bl j=>cases bj;exact akS (e9 J q (by simp))
  | int j=>obtain ⟨t',rfl⟩:=bj;exact akv (e9 J q (by simp))
  | str j=>obtain ⟨t',rfl⟩:=bj;exact eq_str (e9 J q Lw)
  | _=>exact absurd (show false=true from ax) fB
 | kH i=>
  obtain ⟨t,rfl⟩:=bb;cases y with
  | kH j=>obtain ⟨t',rfl⟩:=bj;exact PySem.W.eq_bytes (e9 J q Np)
  | _=>exact absurd (show false=true from ax) fB
 | _=>cases y <;> exact absurd (show false=true from ax) fB
theorem sS:hb X (compareOp .NotEq) G0:=by
 intro ab s σ H x y v u Q J bb bj h;obtain ⟨ax,q⟩:=h;cases x with
 | bU=>
  cases bb;cases y with
  | bU=>cases bj;exact akE (e9 J q (by simp))
  | bl j=>cases bj;exact aka (e9 J q (by simp))
  | int j=>obtain ⟨t',rfl⟩:=bj;exact ajd (e9 J q (by simp))
  | str j=>obtain ⟨t',rfl⟩:=bj;exact ajS (e9 J q (by simp))
  | _=>exact absurd (show false=true from ax) fB
 | bl i=>
  cases bb;cases y with
  | bU=>cases bj;exact ak4 (e9 J q (by simp))
  | bl j=>cases bj;exact ne_bool (e9 J q (congrArg not Nt))
  | str j=>obtain ⟨t',rfl⟩:=bj;exact ajK (e9 J q (by simp))
  | _=>exact absurd (show false=true from ax) fB
 | int i=>
  obtain ⟨t,rfl⟩:=bb;cases y with
  | bU=>cases bj;exact ala (e9 J q (by simp))
  | int j=>obtain ⟨t',rfl⟩:=bj;exact ne_int (e9 J q (congrArg not Me))
  | str j=>obtain ⟨t',rfl⟩:=bj;exact alm (e9 J q (by simp))
  | _=>exact absurd (show false=true from ax) fB
 | str i=>
  obtain ⟨t,rfl⟩:=bb;cases y with
  | bU=>cases bj;exact ajQ (e9 J q (by simp))
  | bl j=>cases bj;exact alj (e9 J q (by simp))
  | int j=>obtain ⟨t',rfl⟩:=bj;exact akm (e9 J q (by simp))
  | str j=>obtain ⟨t',rfl⟩:=bj;exact ne_str (e9 J q (congrArg not Lw))
  | _=>exact absurd (show false=true from ax) fB
 | kH i=>
  obtain ⟨t,rfl⟩:=bb;cases y with
  | kH j=>obtain ⟨t',rfl⟩:=bj;exact PySem.W.ne_bytes (e9 J q (congrArg not Np))
  | _=>exact absurd (show false=true from ax) fB
 | _=>cases y <;> exact absurd (show false=true from ax) fB
theorem jd:hb X (compareOp .Lt) (oa fun i j=>.bl (decide (i < j))):=Cy fun _ _ _ _ _ _ _ q=>lt_int q
theorem Kt:hb X (compareOp .LtE) (oa fun i j=>.bl (decide (i <= j))):=Cy fun _ _ _ _ _ _ _ q=>le_int q
theorem kz:hb X (compareOp .Gt) (oa fun i j=>.bl (decide (j < i))):=Cy fun _ _ _ _ _ _ _ q=>gt_int q
theorem afo:hb X (compareOp .In) (fun x y H Q=>∃ i j,x=.str i/\y=.str j/\Q (.bl (!(rJ j i 0 j.length 1).isEmpty)) H):=by
 intro ab s σ H x y v u Q J bb bj h;obtain ⟨i,j,rfl,rfl,q⟩:=h;obtain ⟨t,rfl⟩:=bb;obtain ⟨t',rfl⟩:=bj;exact in_str (e9 J q rfl)
theorem abm:hb X (compareOp .Is) (fun x y H Q=>y=.bU/\Q (.bl (decide (x=.bU))) H):=by
 intro ab s σ H x y v u Q J bb bj h;obtain ⟨rfl,q⟩:=h;cases bj;refine is_none_gen (e9 J q ?_);cases x <;> first
  | (cases bb;rfl)
  | (obtain ⟨t,rfl⟩:=bb;rfl)
theorem Nk:hb X (compareOp .IsNot) (fun x y H Q=>y=.bU/\Q (.bl (!decide (x=.bU))) H):=by
 intro ab s σ H x y v u Q J bb bj h;obtain ⟨rfl,q⟩:=h;cases bj;refine isnot_none_gen (e9 J q ?_);cases x <;> first
  | (cases bb;rfl)
  | (obtain ⟨t,rfl⟩:=bb;rfl)
theorem cm (b:Expr) (h:op ≠ .In:=by decide) (ao:op ≠ .NotIn:=by decide):behindInMarks op b=false:=by
 have au:(op == CmpOp.In)=false:=by cases op <;> first | rfl | exact absurd rfl h
 have aI:(op == TO)=false:=by cases op <;> first | rfl | exact absurd rfl ao
 cases b <;> simp [behindInMarks,au,aI]
theorem hj (aS:hb X (compareOp op) r) (aX:br X a a9) (ae:br X b bI) (hm:behindInMarks op b=false):br X (.Compare a [op] [b] pos) (q2 r a9 bI):=by
 intro ab s σ H Q J h;exact wpAny_Compare1 (D1 aX ae J h fun v u s2 x y az bP bb bj q=>aS ab s2 σ az x y v u Q bP bb bj q) hm
noncomputable def FH (t:TE):TT:=fun σ H Q=>t σ H fun x I=>iR x fun k=>Q k I
theorem cP (aS:hb X (compareOp op) r) (aX:br X a a9) (ae:br X b bI) (hm:behindInMarks op b=false):i4 X (.Compare a [op] [b] pos) (FH (q2 r a9 bI)):=by
 intro ab s σ H Q J h;refine wpAny_isTrue_Compare1 (bC (aX ab s σ H _ J h) fun v s1 ⟨x,H1,a3,cI,bL⟩=>bC (ae ab s1 σ H1 _ a3 bL) fun u s2 ⟨y,az,bP,fX,dO⟩=>
  bC (aS ab s2 σ az x y v u _ bP cI fX dO) fun c s3 ⟨z,bk,es,vA,gj⟩=>?_) hm
 obtain ⟨k,e,fP⟩:=iR.out gj;subst e;cases vA;exact wpAny_truthy_bool ⟨bk,es,fP⟩
noncomputable def KI (r dj:eN) (a9 bI c0:TE):TE:=fun σ H Q=>a9 σ H fun x H1=>bI σ H1 fun y az=>r x y az fun z bk=>iR z fun k=>
 (if k=true then c0 σ bk fun d_ cJ=>dj y d_ cJ Q else Q (.bl false) bk)
theorem afQ (aS:hb X (compareOp op) r) (nv:hb X (compareOp Qr) dj) (aX:br X a a9) (ae:br X b bI) (aw:br X c c0)
  (hm:lastMarks [op,Qr] [b,c]=false:=by with_unfolding_all rfl):br X (.Compare a [op,Qr] [b,c] pos) (KI r dj a9 bI c0):=by
 intro ab s σ H Q J h;refine Compare_chain (bC (aX ab s σ H _ J h) fun v s1 ⟨x,H1,a3,cI,bL⟩=>chain_link (bC (ae ab s1 σ H1 _ a3 bL) fun u s2 ⟨y,az,bP,fX,dO⟩=>
  bC (aS ab s2 σ az x y v u _ bP cI fX dO) fun d s3 ⟨z,bk,es,vA,gj⟩=>?_)) hm
 obtain ⟨k,e,fP⟩:=iR.out gj;subst e;cases vA;refine wpAny_truthy_bool ?_;cases k with
 | false=>exact ite_ff ⟨.bl false,bk,es,rfl,fP⟩
 | true=>exact ite_tt (chain_last (bC (aw ab s3 σ bk _ es fP) fun d_ s4 ⟨hJ,cJ,hu,uv,nM⟩=>nv ab s4 σ cJ y hJ u d_ Q hu fX uv nM))
def NL (K:ba) (x:V) (H:aq) (k:Bool):Prop:=
 match x with
 | .bU=>k=false
 | .bl b=>k=b
 | .int i=>k=(i != 0)
 | .str y=>y.length <= sizeLine/\k=((y.length:Int) != 0)
 | .kH y=>y.size <= sizeLine/\k=((y.size:Int) != 0)
 | .ref p=>(∃ xs,aD K H p xs/\k = !xs.isEmpty)\/(∃ xs,cM K H p xs/\k = !xs.isEmpty)\/∃ kvs,H p=some (.bw kvs)/\k = !kvs.isEmpty
 | _=>False
theorem U3 (r:ez kvs vs):(!vs.isEmpty) = !kvs.isEmpty:=by
 cases r <;> rfl
theorem lw {a6:List Value} (r:bY xs a6):(!a6.toArray.isEmpty) = !xs.isEmpty:=by
 cases r <;> simp
theorem qH:(sizeLine:Nat) < 2 ^ 63:=by rw [sizeLine_eq];decide
theorem W8:aaH X (fun x H Q=>∃ k,NL X.K x H k/\Q k H):=by
 intro ab s σ H x v Q J bb h;obtain ⟨k,e,q⟩:=h;have aM:=qH;have ax:sizeLine=16777216:=sizeLine_eq;cases x with
 | bU=>
  cases bb;have b5:k=false:=e;subst b5;exact truthy_none ⟨H,J,q⟩
 | bl b=>
  cases bb;have b5:k=b:=e;subst b5;exact wpAny_truthy_bool ⟨H,J,q⟩
 | int i=>
  obtain ⟨t,rfl⟩:=bb;have b5:k=(i != 0):=e;subst b5;exact PySem.P.truthy_int ⟨H,J,q⟩
 | str y=>
  obtain ⟨t,rfl⟩:=bb;obtain ⟨a7,b5⟩:y.length <= sizeLine/\k=((y.length:Int) != 0):=e;subst b5;exact PySem.P.truthy_str (by omega) ⟨H,J.tok _,q⟩
 | kH y=>
  obtain ⟨t,rfl⟩:=bb;obtain ⟨a7,b5⟩:y.size <= sizeLine/\k=((y.size:Int) != 0):=e;subst b5;exact PySem.W.truthy_bytes (by omega) ⟨H,J.tok _,q⟩
 | ref p=>
  cases bb;have b5:(∃ xs,aD X.K H p xs/\k = !xs.isEmpty)\/(∃ xs,cM X.K H p xs/\k = !xs.isEmpty)\/∃ kvs,H p=some (.bw kvs)/\k = !kvs.isEmpty:=e;rcases b5 with ⟨xs,ag,b5⟩ | ⟨xs,ag,b5⟩ | ⟨kvs,ag,b5⟩
  .subst b5;obtain ⟨a6,r,pl,aQ⟩:=J.list ag;have hlen:=r.length;exact wpAny_truthy_list pl.isList (by simp only [eb];omega) ⟨H,J.tok _,by rw [lw r];exact q⟩
  .subst b5;obtain ⟨a6,r,pl,aQ⟩:=J.tuple ag;have hlen:=r.length;exact truthy_tuple pl (by simp only [eb];omega) ⟨H,J.tok _,by rw [lw r];exact q⟩
  .subst b5;obtain ⟨aQ,d1,vs,r,m⟩:kvs.length <= sizeLine/\(p == sysModules)=false/\∃ vs,ez kvs vs/\s.heap.DictOf (hV X.prog X.w) p vs:=J.bo p _ ag;have hlen:kvs.length=vs.length:=IW r;exact wpAny_truthy_dict d1 m (by omega) ⟨H,J.tok _,by rw [U3 r];exact q⟩
 | _=>exact (show False from e).elim
theorem yq (aX:br X a a9) (he:∀ whole,isTrue a X.env whole=(do let v <- whole;standAt a.pos;holding [v] (truthy v))) :
  i4 X a (fun σ H Q=>a9 σ H fun x I=>∃ k,NL X.K x I k/\Q k I):=by
 intro ab s σ H Q J h;exact isTrue_plain (bC (aX ab s σ H _ J h) fun v s1 ⟨x,H1,a3,cI,bL⟩=>W8 ab s1 σ H1 x v Q a3 cI bL) (he _)
theorem kV:hb X (binaryOp .Add) (fun x y H Q=>∃ i j,x=.str i/\y=.str j/\i.length + j.length <= sizeLine/\Q (.str (i ++ j)) H):=by
 intro ab s σ H x y v u Q J bb bj h;obtain ⟨i,j,rfl,rfl,aQ,q⟩:=h;obtain ⟨t,rfl⟩:=bb;obtain ⟨t',rfl⟩:=bj;exact add_str (fun t' tk=>⟨.str (i ++ j),H,J.tok _,⟨_,rfl⟩,q⟩) aQ
theorem ml {x:V} (r:bY [x] us):∃ u,us=[u]/\bH x u:=by
 cases r with
 | cons cI fX=>cases fX;exact ⟨_,rfl,cI⟩
theorem Xs {x y:V} (r:bY [x,y] us):∃ u d_,us=[u,d_]/\bH x u/\bH y d_:=by
 cases r with
 | cons cI fX=>
  cases fX with
  | cons vA uv=>cases uv;exact ⟨_,_,rfl,cI,vA⟩
theorem JI (aw:X.calm=true):m4 X (.builtin "max") (fun xs H Q=>∃ i j,xs=[.int i,.int j]/\Q (.int (if j > i then j else i)) H):=by
 intro ab s σ H xs us Q J r h;obtain ⟨i,j,rfl,q⟩:=h;obtain ⟨u,d_,rfl,⟨t,rfl⟩,⟨t',rfl⟩⟩:=Xs r;refine max_two_ints (J.ok.hd aw) fun h' tk k=>⟨_,H,J.kept k,?_,q⟩
 by_cases aO:j > i
 .rw [if_pos aO,if_pos aO];exact ⟨_,rfl⟩
 .rw [if_neg aO,if_neg aO];exact ⟨_,rfl⟩
theorem zq:m4 X (.type "int") (fun xs H Q=>(∃ i,xs=[.int i]/\Q (.int i) H)\/∃ k,xs=[.bl k]/\Q (.int (if k then 1 else 0)) H):=by
 intro ab s σ H xs us Q J r h;rcases h with ⟨i,rfl,q⟩ | ⟨k,rfl,q⟩
 .obtain ⟨u,rfl,t,rfl⟩:=ml r;exact call_int_int ⟨.int i,H,J,⟨_,rfl⟩,q⟩
 .obtain ⟨u,rfl,cI⟩:=ml r;cases cI;exact call_int_bool ⟨.int (if k then 1 else 0),H,J.tok _,⟨_,rfl⟩,q⟩
theorem ub:m4 X (.type "str") (fun xs H Q=>∃ i,xs=[.int i]/\i.natAbs.log2 < 1920/\Q (.str (toString i)) H):=by
 intro ab s σ H xs us Q J r h;obtain ⟨i,rfl,aQ,q⟩:=h;obtain ⟨u,rfl,t,rfl⟩:=ml r;exact PySem.P.str_of_int aQ ⟨.str _,H,J.tok _,⟨_,rfl⟩,q⟩
end
structure qQ (h:Heap) (x ar C:Addr) (dW:Str->Option Value):Prop where
 obj:h.get? x=some (rm C ar)
 ns:h.Ns1 ar dW
 ne:ar ≠ x
theorem WG {h:Heap} (n:h.Ns1 ar dW):∃ dp,h.get? ar=some dp/\∀ name,Ga name dp=some (dW name):=by
 obtain ⟨o,a4,cF,aS,hd,aB,_,hm⟩:=n;refine ⟨o,aS,fun name=>?_⟩;have e:=hm name;unfold nsFind findBy at e;rw [<- Array.find?_toList] at e;unfold Ga;rw [hd];dsimp only;split
 .rename_i y q;rw [q] at e;exact congrArg some e
 .rename_i q;rw [q] at e;have a:a4.toList.any (·.refKey)=false:=by
   rw [NG];intro y a7;obtain ⟨z,t,W0⟩:=aB y (Array.mem_toList_iff.mp a7);simp [DictEntry.refKey,W0]
  have oF:¬ a4.toList.any (·.refKey)=true:=by rw [a];exact fB
  rw [if_neg oF];exact congrArg some e
theorem qQ.look {h:Heap} {x ar C:Addr} (J:qQ h x ar C dW):∃ dp,PySem.W.InstAt h x (rm C ar) C (some dp)/\∀ name,Ga name dp=some (dW name):=
 let ⟨dp,aS,aM⟩:=WG J.ns
 ⟨dp,⟨J.obj,rfl,rfl,aS⟩,aM⟩
section
variable {prog:Program} {w:World} {A:Around} {E:Value->Shared->Prop} {s:Shared} {K:ba} {x ar C f:Addr} {dW:Str->Option Value} {name:Str} {v:Value}
theorem GM (X:K.In s.heap) (J:qQ s.heap x ar C dW) (bg:B6 K C name=true) (eM:x1 K C=true)
  (aX:dq K (.ref C) name=some none) (aK:dW name=some v) (abp:TU v=true) (h:Q v { s with toks:=s.toks + 1 }) :
  wpAny (model prog w) A (getAttr (.ref x) name expr) Q E s:=by
 obtain ⟨dp,bS,aM⟩:=J.look;exact PySem.W.get_value X bS (Pr bg).1 (PySem.W.findObj_own eM aX rfl (by rw [aM,aK])) abp h
theorem WA (X:K.In s.heap) (J:qQ s.heap x ar C dW) (bg:B6 K C name=true)
  (hf:dq K (.ref C) name=some (some (.ref f))) (cS:KW K (.ref f)=true) (aK:dW name=none) (h:Q (.ref f,[.ref x]) s) :
  wpAny (model prog w) A (getMethod (.ref x) name pl) Q E s:=by
 obtain ⟨dp,bS,aM⟩:=J.look;exact PySem.W.method_fn X bS (Pr bg).1 (Pr bg).2 hf (beq_iff_eq.mp cS) (by show (Ga name dp).map (·.isSome)=some false;rw [aM,aK];rfl) h
theorem Uv {ns:List Str} (X:K.In s.heap) (J:qQ s.heap x ar C dW)
  (ax:dq K (.ref C) "__setattr__"=some (some (.builtin "object.__setattr__"))) (av:agG K C=true) (cS:Sq K C name=some none) (eM:x1 K C=true)
  (hw:BV dW ns) (hsz:ns.length <= sizeLine)
  (h:∀ h',qQ h' x ar C (fun y=>if y=name then some v else dW y)->wi ar s.heap h'->Q () { s with heap:=h',toks:=s.toks + 2 }) :
  wpAny (model prog w) A (setAttr (.ref x) name v) Q E s:=by
 obtain ⟨dp,bS,aM⟩:=J.look;refine PySem.W.set_plain X bS ax (PySem.W.osa_open (s:={ s with toks:=s.toks + 1 }) (r:=none) X bS av cS fun b=>?_);obtain ⟨cd,aw,HW⟩:=PySem.W.any_some eM;have ag:s.heap.get? x=some ⟨.ref C,some ar,.plain,#[]⟩:=J.obj;refine wpAny_bind (wpAny_pure (wpAny_bind (wpAny_bind (wpAny_loadPart ag (wpAny_bind (akK (s:={ s with toks:=s.toks + 1 }) (PySem.W.looks_clsIn X aw) ?_))))));rw [HW];refine wpAny_pure (a:=some ar) (wpAny_bind (wpAny_pure (wpAny_bind ?_)));refine wpAny_nsSet1 (s:={ s with toks:=s.toks + 1 }) J.ns fun h' p' kS=>?_
 obtain ⟨akx,ajs,aiQ,VN,VP,ag1⟩:=p'.count (aiV name v hw);refine wpAny_bind (wpAny_lookBehind VN (by rw [VP];exact pastItsLine_dict (c4 ag1 (by rw [hQ];omega))) ?_);exact wpAny_pure (h _ ⟨(kS.2 _ (eg J.ne)).trans J.obj,p',J.ne⟩ kS)
theorem Zf (X:K.In s.heap) (hm:ab6 K C=true)
  (ah:dq K (.ref C) "__init__"=some (some (.ref f))) (hf:ag_ K (.ref f)=some (.type "function"))
  (h:codeAny (model prog w) (A.under (.builtin "type.__call__" ⟨.ref C :: vs,kw⟩)) (.call (.ref f) ⟨.ref (s.heap.objs.size + 1) :: vs,kw⟩) (PySem.W.InitBack (s.heap.objs.size + 1) R)
   { s with heap:=(s.heap.push pe).push (rm C s.heap.objs.size) }) :
  codeAny (model prog w) A (.call (.ref C) ⟨vs,kw⟩) R s:=by
 obtain ⟨eM,g,d,t,os⟩:=s;exact PySem.W.make_core (PySem.W.makes_of X hm) (PySem.W.looks_findIn X ah) (fun self=>PySem.W.bind_fn X self hf) (.inl rfl) h
end
noncomputable def c2 (f:Str) (v:V):List (Str × V)->List (Str × V)
 | []=>[(f,v)]
 | (g,x) :: r=>if g=f then (g,v) :: r else (g,x) :: c2 f v r
theorem PG (f g:Str) (v:V):∀ aH:List (Str × V),(c2 f v aH).lookup g=if g=f then some v else aH.lookup g
 | []=>by
  show oh g [(f,v)]=_;by_cases h:g=f
  .have ae:(g == f)=true:=beq_iff_eq.mpr h;simp only [oh,ae,if_pos h]
  .have ae:(g == f)=false:=beq_eq_false_iff_ne.mpr h;simp only [oh,ae,if_neg h]
 | (k,x) :: r=>by
  have b9:=PG f g v r;rw [show c2 f v ((k,x) :: r)=(if k=f then (k,v) :: r else (k,x) :: c2 f v r) from rfl];by_cases aB:k=f
  .rw [if_pos aB];by_cases h:g=k
   .have ae:(g == k)=true:=beq_iff_eq.mpr h;simp only [oh,ae,if_pos (h.trans aB)]
   .have ae:(g == k)=false:=beq_eq_false_iff_ne.mpr h;simp only [oh,ae,if_neg (fun e:g=f=>h (e.trans aB.symm))]
  .rw [if_neg aB];by_cases h:g=k
   .have ae:(g == k)=true:=beq_iff_eq.mpr h;simp only [oh,ae,if_neg (fun e:g=f=>aB (h.symm.trans e))]
   .have ae:(g == k)=false:=beq_eq_false_iff_ne.mpr h;simp only [oh,ae];exact b9
theorem Ff (f:Str) (v:V):∀ aH:List (Str × V),f ∈ (c2 f v aH).map (·.1)/\∀ g,g ∈ aH.map (·.1)->g ∈ (c2 f v aH).map (·.1)
 | []=>⟨by simp [c2],fun g h=>by simp at h⟩
 | (k,x) :: r=>by
  obtain ⟨i1,i2⟩:=Ff f v r;rw [show c2 f v ((k,x) :: r)=(if k=f then (k,v) :: r else (k,x) :: c2 f v r) from rfl];by_cases aB:k=f
  .rw [if_pos aB];subst aB;exact ⟨by simp,fun g h=>by simpa using h⟩
  .rw [if_neg aB];refine ⟨?_,fun g h=>?_⟩
   .rw [eV];exact hL _ i1
   .rw [eV] at h ⊢;rcases fh.mp h with e | e
    .exact fh.mpr (.inl e)
    .exact hL _ (i2 g e)
theorem I7 (f:Str) (v:V):∀ aH:List (Str × V),(c2 f v aH).length <= aH.length + 1
 | []=>by simp [c2]
 | (k,x) :: r=>by
  have b9:=I7 f v r;rw [show c2 f v ((k,x) :: r)=(if k=f then (k,v) :: r else (k,x) :: c2 f v r) from rfl];by_cases aB:k=f
  .rw [if_pos aB,hQ,hQ];omega
  .rw [if_neg aB,hQ,hQ];omega
theorem hD.some_of (r:hD (some v) o):∃ u,o=some u/\bH v u:=by
 cases o with
 | none=>exact (show False from r).elim
 | some u=>exact ⟨u,rfl,r⟩
theorem hD.none_of (r:hD none o):o=none:=by
 cases o with
 | none=>rfl
 | some u=>exact (show False from r).elim
theorem acu (r:bH v u):TU u=true:=by
 cases v with
 | bU=>cases (show u=qv from r);rfl
 | bl b=>cases (show u=j4 b from r);rfl
 | int i=>obtain ⟨t,e⟩:=(show ∃ t,u=oT i t from r);cases e;rfl
 | str x=>obtain ⟨t,e⟩:=(show ∃ t,u=uV x t from r);cases e;rfl
 | kH b=>obtain ⟨t,e⟩:=(show ∃ t,u=ahq b t from r);cases e;rfl
 | tq b=>obtain ⟨t,e⟩:=(show ∃ t,u=abJ b t from r);cases e;rfl
 | ref a=>cases (show u=fN a from r);rfl
 | ty n=>cases (show u=ab1 n from r);rfl
section
variable {P:Program} {w:World} {H I:aq} {h h':Heap} {a C ar:Addr} {aH mb:List (Str × V)}
theorem ta (bo:ep P w H h) (e:H a=some (.ins C ar aH)):∃ dW,qQ h a ar C dW/\(∀ f,hD (aH.lookup f) (dW f))/\BV dW (aH.map (·.1))/\aH.length <= 1000/\H ar=some (.own a):=by
 obtain ⟨d,z,ne,bZ,dW,n,r,q⟩:=(show ek P w H h a (.ins C ar aH) from bo a _ e);exact ⟨dW,⟨bZ,n,ne⟩,r,q,z,d⟩
end
structure g8 (K:ba) (C:Addr):Prop where
 Yf:B6 K C Str.empty=true
 hd:x1 K C=true
 po:agG K C=true
 aY:dq K (.ref C) "__setattr__"=some (some (.builtin "object.__setattr__"))
theorem g8.get {K:ba} (c:g8 K C) (f:Str):B6 K C f=true:=c.Yf
def cX (K:ba) (C:Addr) (f:Str):Prop:=dq K (.ref C) f=some none
theorem cX.Z' {K:ba} (n:cX K C f):Sq K C f=some none:=by
 unfold Sq;rw [show dq K (.ref C) f=some none from n];rfl
structure aj0 (K:ba) (C:Addr) (f:Str) (v:V) (u:Value):Prop where
 at_:dq K (.ref C) f=some (some u)
 rel:bH v u
 get:tb K u "__get__"=some none
 sJ:PySem.W.copiedNames.contains f=false
structure fx (K:ba) (C:Addr) (m:Str) (f:Addr):Prop where
 at_:dq K (.ref C) m=some (some (.ref f))
 fn:KW K (.ref f)=true
 bK:qS K (.ref f)=true
section
variable {X:a8} {ab:List (Addr × Obj)} {σ:St} {H:aq} {s:Shared} {a C ar:Addr} {aH:List (Str × V)} {f:Str} {v:V} {A:Around} {E:Value->Shared->Prop}
theorem Mf (J:Inv X ab σ H s) (e:H a=some (.ins C ar aH)) (c:g8 X.K C) (n:cX X.K C f) (l:aH.lookup f=some v)
  (h:∀ u aj,Inv X ab σ H aj->bH v u->Q u aj):wpAny (model X.prog X.w) A (getAttr (.ref a) f b) Q E s:=by
 obtain ⟨dW,O,r,_,_,_⟩:=ta J.bo e;obtain ⟨u,bq,f7⟩:=hD.some_of (v:=v) (o:=dW f) (by rw [<- l];exact r f);exact GM J.i' O (c.get f) c.hd n bq (acu f7) (h u _ (J.tok _) f7)
theorem H2 (J:Inv X ab σ H s) (e:H a=some (.ins C ar aH)) (c:g8 X.K C) (k:fx X.K C m g) (l:aH.lookup m=none)
  (h:Q (.ref g,[.ref a]) s):wpAny (model X.prog X.w) A (getMethod (.ref a) m pl) Q E s:=by
 obtain ⟨dW,O,r,_,_,_⟩:=ta J.bo e;have aT:dW m=none:=hD.none_of (by rw [<- l];exact r m);exact WA J.i' O (c.get m) k.at_ k.fn aT h
theorem QZ (J:Inv X ab σ H s) (e:H a=some (.ins C ar aH)) (c:g8 X.K C) (n:cX X.K C f) (aM:aH.length < 1000) (bj:bH y u)
  (h:∀ aj,Inv X ab σ (upd H a (.ins C ar (c2 f y aH))) aj->Q () aj):wpAny (model X.prog X.w) A (setAttr (.ref a) f u) Q E s:=by
 obtain ⟨dW,O,r,gB,_,aS⟩:=ta J.bo e;have aQ:(aH.map (·.1)).length <= sizeLine:=by rw [aU,sizeLine_eq];omega
 refine Uv J.i' O c.aY c.po n.Z' c.hd gB aQ fun h' Jo nC=>h _ ?_
 have hd:∃ o,h'.get? ar=some o:=let ⟨o,_,_,b5,_⟩:=Jo.ns;⟨o,b5⟩;refine J.write (x:=a) (e:=ar) (by rw [e];exact kQ) (.inr aS) (fun b q ae z=>(nC.2 b ae).trans z) hd ?_;refine ⟨by rw [aF O.ne];exact aS,?_,O.ne,Jo.obj,_,Jo.ns,fun g=>?_,fun g bg=>?_⟩
 .have:=I7 f y aH;omega
 .show hD ((c2 f y aH).lookup g) (if g=f then some u else dW g);rw [PG];by_cases q:g=f
  .rw [if_pos q,if_pos q];exact bj
  .rw [if_neg q,if_neg q];exact r g
 .by_cases q:g=f
  .rw [q];exact (Ff f y aH).1
  .refine (Ff f y aH).2 g (gB g fun z=>bg ?_);show (if g=f then some u else dW g)=none;rw [if_neg q];exact z
theorem Inv.made (J:Inv X ab σ H s):Inv X ab σ (upd (upd H s.heap.objs.size (.own (s.heap.objs.size + 1))) (s.heap.objs.size + 1) (.ins C s.heap.objs.size []))
  { s with heap:=(s.heap.push pe).push (rm C s.heap.objs.size) }:=by
 have au:(s.heap.push pe).get? s.heap.objs.size=some pe:=hN s.heap rfl;have aI:((s.heap.push pe).push (rm C s.heap.objs.size)).get? (s.heap.objs.size + 1)=some (rm C s.heap.objs.size):=by
  have:=hN (s.heap.push pe) (o:=rm C s.heap.objs.size) rfl;rwa [Nn] at this
 have bO:(s.heap.push pe).Ns s.heap.objs.size (fun _=>none):=⟨pe,#[],_,au,rfl,(fun e he=>absurd he (by simp)),fun _=>rfl⟩;have a3:=J.laid (a:=s.heap.objs.size) (o:=.own (s.heap.objs.size + 1)) (h':=s.heap.push pe) (t':=s.toks) (fun b u q=>e2 _ q) (bW _) ⟨_,au⟩;refine a3.laid (a:=s.heap.objs.size + 1) (o:=.ins C s.heap.objs.size []) (t':=s.toks) (fun b u q=>e2 _ q) (aao (Nn _ _)) ?_;have ne:s.heap.objs.size ≠ s.heap.objs.size + 1:=gz (Fe _);refine ⟨by rw [aF ne,db],fk _,ne,aI,fun _=>none,(Heap.Ns1.of_empty bO).at fun o q=>e2 _ q,fun _=>kQ,fun y a7=>absurd rfl a7⟩
theorem ahT {prog:Program} {w:World} {env:Env} {e:Expr} (ae:attributeBase e f env (eval e env)=eval e env)
  (h:wpAny (model prog w) A (eval e env) (fun o dd=>wpAny (model prog w) A (getAttr o f true) Q E dd) E s):wpAny (model prog w) A (eval (.Attribute e f pos) env) Q E s:=
 Attribute_any_ h (by rw [arm_eval_Attribute,ae])
end
def fE (K:ba) (H:aq) (a:Addr) (f:Str) (v:V):Prop:=∃ C ar aH,H a=some (.ins C ar aH)/\g8 K C/\cX K C f/\aH.lookup f=some v
noncomputable def JD (K:ba) (a9:TE) (f:Str):TE:=fun σ H Q=>a9 σ H fun x H1=>e1 x fun a=>∃ v,fE K H1 a f v/\Q v H1
noncomputable def Sb (K:ba) (a9 fI:TE) (f:Str):ed:=fun D σ H=>fI σ H fun y H1=>a9 σ H1 fun x az=>e1 x fun a=>∃ C ar aH,az a=some (.ins C ar aH)/\g8 K C/\cX K C f/\aH.length < 1000 /\
 D.b7 σ (upd az a (.ins C ar (c2 f y aH)))
def Kn (X:a8) (op:Operator) (j_:V->V->aq->cW->Prop):Prop:=
 ∀ (ab:List (Addr × Obj)) (s:Shared) (σ:St) (H:aq) (x y:V) (u v:Value) (Q:cW),Inv X ab σ H s->bH x u->bH y v->j_ x y H Q->wpAny (model X.prog X.w) X.A (inplaceOp op u v) (gN X ab σ Q) X.dF s
noncomputable def NX (K:ba) (a9 fI:TE) (j_:V->V->aq->cW->Prop) (f:Str):ed:=fun D σ H=>a9 σ H fun x H1=>∃ a C ar aH v,x=.ref a/\H1 a=some (.ins C ar aH)/\g8 K C/\cX K C f/\aH.lookup f=some v /\
 fI σ H1 fun y az=>j_ v y az fun z bk=>∃ g5 mb,bk a=some (.ins C g5 mb)/\mb.length < 1000/\D.b7 σ (upd bk a (.ins C g5 (c2 f z mb)))
section
variable {X:a8} {o e value:Expr} {f:Str} {pos pos' AN:Pos} {a9 fI:TE}
theorem bG (he:br X e a9) (ae:attributeBase e f X.env (eval e X.env)=eval e X.env):br X (.Attribute e f pos) (JD X.K a9 f):=by
 intro ab s σ H Q J h;refine ahT ae (bC (he ab s σ H _ J h) fun u s1 bx=>?_);obtain ⟨x,H1,a3,bb,gj⟩:=bx;obtain ⟨a,ex,v,⟨C,ar,aH,g_,c,n,l⟩,q⟩:=e1.out gj;subst ex;obtain rfl:u=fN a:=bb;exact Mf a3 g_ c n l fun tM s2 bP f7=>⟨v,H1,bP,f7,q⟩
theorem eS (aX:br X o a9) (aK:br X value fI) (ax:swapsWith value (some (.Attribute o f pos')) pos.line X.env=pure false):hI X (.Assign [.Attribute o f pos'] value pos) (Sb X.K a9 fI f):=by
 intro ab s σ H D J h;refine plainObj_wpAny_Assign_Attribute (bC (aK ab s σ H _ J h) fun u s1 ⟨y,H1,a3,bj,q⟩=>bC (aX ab s1 σ H1 _ a3 q) fun e3 s2 bx=>?_) ax;obtain ⟨x,az,bP,bb,gj⟩:=bx;obtain ⟨a,ex,C,ar,aH,g_,c,n,l,dO⟩:=e1.out gj;subst ex;obtain rfl:e3=fN a:=bb;exact QZ bP g_ c n l bj fun s3 es=>⟨σ,_,es,dO⟩
theorem Hr {j_:V->V->aq->cW->Prop} (aX:br X o a9) (aK:br X value fI) (adO:Kn X op j_):hI X (.AugAssign (.Attribute o f AN) op value pos) (NX X.K a9 fI j_ f):=by
 intro ab s σ H D J h;refine wpAny_AugAssign_AttributeAny (bC (aX ab s σ H _ J h) fun e3 s1 bx=>?_);obtain ⟨x,H1,a3,bb,a,C,ar,aH,v,ex,g_,c,n,l,q⟩:=bx;subst ex;obtain rfl:e3=fN a:=bb;refine Mf a3 g_ c n l fun u s2 bP f7=>bC (aK ab s2 σ H1 _ bP q) fun hn s3 ⟨y,az,es,bj,fP⟩=>bC (adO ab s3 σ az v y u hn _ es f7 bj fP) fun hl s4 bx=>?_
 obtain ⟨z,bk,hu,G9,g5,mb,XS,l',nM⟩:=bx;exact QZ hu XS c n l' G9 fun s5 uU=>⟨σ,_,uU,nM⟩
noncomputable def Cm:V->V->aq->cW->Prop:=fun x y H Q=>∃ i j,x=.int i/\y=.int j/\Q (.int (i + j)) H
theorem FP:Kn X .Add Cm:=by
 rintro ab s σ H x y u v Q J bb bj ⟨i,j,rfl,rfl,q⟩;obtain ⟨t,rfl⟩:=(show ∃ t,u=oT i t from bb);obtain ⟨t',rfl⟩:=(show ∃ t',v=oT j t' from bj);exact ai1 ⟨.int (i + j),H,J.tok _,⟨_,rfl⟩,q⟩
end
section
variable {X:a8} {ab:List (Addr × Obj)} {σ:St} {H:aq} {s:Shared} {A:Around} {E:Value->Shared->Prop} {Q:Value->Shared->Prop} {c:Value} {b:Bool}
inductive me (K:ba) (H:aq):V->Value->Prop where
 | bU:me K H .bU (.type "NoneType")
 | bl (x:Bool):me K H (.bl x) (.type "bool")
 | int (i:Int):me K H (.int i) (.type "int")
 | str (x:Str):me K H (.str x) (.type "str")
 | tq (x:UInt64):me K H (.tq x) (.type "float")
 | lst {a:Addr} {xs:List V} (e:H a=some (.lst xs)):me K H (.ref a) (.type "list")
 | eL {a:Addr} {o:Obj} {xs:List V} (e:H a=some (.eL o (.lst xs))):me K H (.ref a) (.type "list")
 | tup {a:Addr} {xs:List V} (e:H a=some (.tup xs)):me K H (.ref a) (.type "tuple")
 | bw {a:Addr} {kvs:List (Key × V)} (e:H a=some (.bw kvs)):me K H (.ref a) (.type "dict")
 | fU {a:Addr} {kvs:List (List Key × V)} (e:H a=some (.fU kvs)):me K H (.ref a) (.type "dict")
 | ins {a C ar:Addr} {aH:List (Str × V)} (e:H a=some (.ins C ar aH)) (cl:g8 K C) (aX:dq K (.ref C) "__class__"=some (some (.builtin "object.__class__")))
   (aT:tb K (.builtin "object.__class__") "__get__"=some (some (.builtin "getset_descriptor.__get__"))) (yC:IL K (.builtin "object.__class__")=some true)
   (hm:EV K C (.type "object")=some true):me K H (.ref a) (.ref C)
end
structure ee (k:Nat) (A:Around):Prop where
 hd:A.handled=none
 g4:A.depth + 3 * k + 5 < recursionLimit
 un:A.units + 16 * k + 200 < cLine
theorem ee.mono {j k:Nat} {A:Around} (r:ee k A) (h:j <= k):ee j A:=⟨r.hd,by have:=r.g4;omega,by have:=r.un;omega⟩
theorem ee.deeper {k:Nat} {A:Around} (r:ee (k + 1) A) (env:Env):ee k (A.deeper env):=
 ⟨r.hd,by have:=r.g4;show A.depth + 1 + 3 * k + 5 < _;omega,by have:=r.un;show A.units + 3 + 16 * k + 200 < _;omega⟩
theorem ee.in1 {k:Nat} {A:Around} (r:ee (k + 1) A):ee k A.in1:=
 ⟨r.hd,by have:=r.g4;show A.depth + 3 * k + 5 < _;omega,by have:=r.un;show A.units + 1 + 16 * k + 200 < _;omega⟩
theorem wE {A:Around}:(A.under (.builtin "type.__call__" ⟨.ref C :: us,kw⟩)).depth=A.depth + 1:=by
 first | rfl | simp [LG,Code.weight,Code.isCreation,Code.isGuard,Code.isCaller,abW,Mu,guardIds]
theorem abO {A:Around}:(A.under (.builtin "type.__call__" ⟨.ref C :: us,kw⟩)).units=A.units + 1:=by
 first | rfl | simp [LG,Code.cUnits,abW,Mu]
theorem ee.make {k:Nat} {A:Around} (r:ee (k + 1) A) (C:Addr) (us:List Value) (kw:List (Str × Value)):ee k (A.under (.builtin "type.__call__" ⟨.ref C :: us,kw⟩)):=
 ⟨r.hd,by have:=r.g4;rw [wE];omega,by have:=r.un;rw [abO];omega⟩
theorem ee.depth {k:Nat} {A:Around} (r:ee k A):A.depth < recursionLimit:=by have:=r.g4;omega
theorem ee.units {k:Nat} {A:Around} (r:ee k A):A.units + 64 < cLine:=by have:=r.un;omega
noncomputable def v3:fG:=fun _ H Q=>Q [] H
noncomputable def Ep (a9:TE) (pw:fG):fG:=fun σ H Q=>a9 σ H fun x H1=>pw σ H1 fun xs az=>Q (x :: xs) az
section
variable {X:a8} {e:Expr} {a4:List Expr} {bM:TE} {t:fG} {pos:Pos}
theorem aE:jM X [] v3:=fun _ _ _ _ H Q J h=>aim ⟨[],H,J,.nil,h⟩
theorem ai (aX:br X e bM) (ak:jM X a4 t) (ax:starEach (e :: a4) X.env=(false,eval e X.env) :: starEach a4 X.env:=by rfl):jM X (e :: a4) (Ep bM t):=by
 intro pos ab s σ H Q J h;rw [ax];show wpAny _ _ (spliced ((false,eval e X.env) :: backTo pos (starEach a4 X.env))) _ _ s;refine Lm (bC (aX ab s σ H _ J h) fun u s1 bx=>?_);obtain ⟨x,H1,a3,cI,bL⟩:=bx;exact bC (ak pos ab s1 σ H1 _ a3 bL) fun us s2 ⟨xs,az,bP,fX,dO⟩=>⟨x :: xs,az,bP,.cons cI fX,dO⟩
noncomputable def E1 (t:fG):TE:=fun σ H Q=>t σ H fun xs H1=>xs.length <= sizeLine/\∀ p,H1 p=none->Q (.ref p) (upd H1 p (.tup xs))
noncomputable def HK (t:fG):TE:=fun σ H Q=>t σ H fun xs H1=>xs.length <= sizeLine/\∀ p,H1 p=none->Q (.ref p) (upd H1 p (.lst xs))
theorem pz {cT} (h:jM X a4 t):br X (.Tuple a4 cT pos) (E1 t):=by
 intro ab s σ H Q J aN;refine wpAny_Tuple_spliced (bC (h pos ab s σ H _ J aN) fun us s1 ⟨xs,H1,a3,r,z,q⟩=>⟨by rw [<- r.length];exact z,?_⟩);have hf:H1 s1.heap.objs.size=none:=a3.bo.fresh (bW _);refine ⟨.ref s1.heap.objs.size,upd H1 s1.heap.objs.size (.tup xs),a3.laid (t':=s1.toks) (fun b u e=>e2 _ e) (bW _) ?_,rfl,q _ hf⟩;exact ⟨z,us,r,⟨_,hN _ rfl,rfl,_,rfl⟩⟩
theorem fg (h:jM X a4 t):br X (.List a4 pos) (HK t):=by
 intro ab s σ H Q J aN;refine wpAny_List_spliced (bC (h pos ab s σ H _ J aN) fun us s1 ⟨xs,H1,a3,r,z,q⟩=>⟨by rw [<- r.length];exact z,?_⟩);have hf:H1 s1.heap.objs.size=none:=a3.bo.fresh (bW _);refine ⟨.ref s1.heap.objs.size,upd H1 s1.heap.objs.size (.lst xs),a3.laid (t':=s1.toks) (fun b u e=>e2 _ e) (bW _) ?_,rfl,q _ hf⟩;exact ⟨z,us,0,r,hN _ rfl⟩
end
noncomputable abbrev bN:=List V->aq->cW->fQ->Prop
noncomputable abbrev jx:=List Env->aq->Shared->fQ->Value->Shared->Prop
structure mI (P:Program) (w:World) (K:ba) (mg:Str->Option Value) (base:Heap) (A:Around) (outer:List Env) (s:Shared) (H:aq):Prop where
 frames:A.frames=some outer
 mod:Mod K mg base
 bs:∀ b o,base.get? b=some o->s.heap.get? b=some o/\H b=none
 kc:base.objs.size <= s.heap.objs.size
 jO:s.heap.FunFrames base outer
 mJ:∀ b ∈ k0 outer,H b=none
 bo:ep P w H s.heap
 bare:AllBare s.gens
def Gq (outer:List Env) (P:Program) (w:World) (H:aq) (s:Shared) (Q:cW) (u:Value) (aj:Shared):Prop:=
 ∃ v I,aj.os=s.os/\AllBare aj.gens/\eY (k0 outer) [] H I s.heap aj.heap/\ep P w I aj.heap/\bH v u/\Q v I
def Hf (CX:jx) (outer:List Env) (P:Program) (w:World) (H:aq) (s:Shared) (Q:cW) (E:fQ) (r:Result) (aj:Shared):Prop:=
 match r with
 | .ok (.ret u)=>Gq outer P w H s Q u aj
 | .ok _=>False
 | .error e=>CX outer H s E e aj
structure cH (P:Program) (w:World) (K:ba) (mg:Str->Option Value) (base:Heap) (CX:jx) (k:Nat) (f:Addr) (fd:FuncData) (ps:List Str) (sp:bN):Prop where
 len:∀ vs H Q E,sp vs H Q E->vs.length=ps.length
 run:∀ (A:Around) (outer:List Env) (s:Shared) (H:aq) (args:Args) (us:List Value) (vs:List V) (Q:cW) (E:fQ),ee k A->mI P w K mg base A outer s H->BindsTo s fd args (ps.zip us)->bY vs us->sp vs H Q E ->
  codeAny (model P w) A (.call (.ref f) args) (Hf CX outer P w H s Q E) s
theorem cH.mono {w:World} {K:ba} {mg:Str->Option Value} {base:Heap} {j k:Nat} {fd:FuncData} (F:cH P w K mg base CX j f fd ps sp) (h:j <= k) :
  cH P w K mg base CX k f fd ps sp:=⟨F.len,fun A outer s H args us vs Q E ak=>F.run A outer s H args us vs Q E (ak.mono h)⟩
theorem cH.imp {w:World} {K:ba} {mg:Str->Option Value} {base:Heap} {k:Nat} {fd:FuncData} (F:cH P w K mg base CX k f fd ps sp)
  (h:∀ vs H Q E,wh vs H Q E->sp vs H Q E):cH P w K mg base CX k f fd ps wh:=
 ⟨fun vs H Q E q=>F.len vs H Q E (h _ _ _ _ q),fun A outer s H args us vs Q E ak he ae aK ax=>F.run A outer s H args us vs Q E ak he ae aK (h _ _ _ _ ax)⟩
theorem mI.make {w:World} {K:ba} {mg:Str->Option Value} {base:Heap} {A:Around} {outer:List Env} (e:mI P w K mg base A outer s H) (C:Addr) (us:List Value) (kw:List (Str × Value)) :
  mI P w K mg base (A.under (.builtin "type.__call__" ⟨.ref C :: us,kw⟩)) outer s H:=⟨by first | exact e.frames | (simpa [LG,Code.envs,Mu,pushEnvs] using e.frames),e.mod,e.bs,e.kc,e.jO,e.mJ,e.bo,e.bare⟩
theorem mI.in1 {w:World} {K:ba} {mg:Str->Option Value} {base:Heap} {A:Around} {outer:List Env} (e:mI P w K mg base A outer s H) :
  mI P w K mg base A.in1 outer s H:=⟨e.frames,e.mod,e.bs,e.kc,e.jO,e.mJ,e.bo,e.bare⟩
section
variable {X:a8} {ab:List (Addr × Obj)} {σ:St} {H:aq} {s aj:Shared}
theorem Inv.O_ (J:Inv X ab σ H s):mI X.prog X.w X.K X.mg X.base X.A X.stack s H:=
 ⟨J.ok.frames,J.ok.mod,J.bs,c4 J.ok.kc J.mQ,J.stack,J.EZ,J.bo,J.bare⟩
theorem Inv.after (J:Inv X ab σ H s) (h:Gq X.stack X.prog X.w H s Q u aj):gN X ab σ Q u aj:=by
 obtain ⟨v,I,os,bare,un,bo,r,q⟩:=h;obtain ⟨eM,g,d,t,WE⟩:=aj;obtain rfl:WE=s.os:=os;exact ⟨v,I,J.call (h':=eM) (g':=g) (d':=d) (t':=t) (ch:=[]) un bo bare (fun b z=>absurd z (by simp)),r,q⟩
end
noncomputable def vG (sp:bN) (dvs:List V) (E:fQ) (t:fG):TE:=fun σ H Q=>t σ H fun vs H1=>sp (vs ++ dvs) H1 Q E
noncomputable def CS (C:Addr) (m:Str) (sp:bN) (dvs:List V) (E:fQ) (a9:TE) (t:fG):TE:=fun σ H Q=>a9 σ H fun x H1=>e1 x fun a=>∃ ar aH,H1 a=some (.ins C ar aH)/\aH.lookup m=none /\
 t σ H1 fun vs az=>sp (x :: (vs ++ dvs)) az Q E
noncomputable def Nq (C:Addr) (sp:bN) (dvs:List V) (E:fQ) (t:fG):TE:=fun σ H Q=>t σ H fun vs H1=>∀ x ar,H1 x=none->H1 ar=none->ar ≠ x ->
 sp (.ref x :: (vs ++ dvs)) (upd (upd H1 ar (.own x)) x (.ins C ar [])) (fun v az=>v=.bU/\Q (.ref x) az) E
def b1 (K:ba) (fd:FuncData) (ps:List Str) (ds:List Value):Prop:=
 ∀ (s:Shared) (us:List Value),K.In s.heap->(us ++ ds).length=ps.length->BindsTo s fd ⟨us,[]⟩ (ps.zip (us ++ ds))
theorem b1.all {K:ba} {fd:FuncData} (h:∀ us:List Value,us.length=ps.length->bindArgs fd ⟨us,[]⟩=pure (ps.zip us)):b1 K fd ps []:=fun s us _ aM=>by
 rw [z3] at aM ⊢;exact .of_eq (h us aM)
def oB (CX:jx) (X:a8) (E:fQ):Prop:=∀ (ab:List (Addr × Obj)) (σ:St) (H:aq) (s:Shared) (e:Value) (aj:Shared),Inv X ab σ H s->CX X.stack H s E e aj->X.dF e aj
section
variable {X:a8} {CX:jx} {k:Nat} {f C:Addr} {fd:FuncData} {ps:List Str} {sp:bN} {dvs:List V} {ds:List Value} {E:fQ} {x m:Str} {p pos fW:Pos} {e o:Expr} {a4:List Expr} {a9:TE} {t:fG}
theorem wa (F:cH X.prog X.w X.K X.mg X.base CX k f fd ps sp) (ak:ee k X.A) (ae:b1 X.K fd ps ds) (hd:bY dvs ds) (ag:oB CX X E)
  (J:Inv X ab σ H s) (r:bY vs us) (h:sp (vs ++ dvs) H Q E):wpAny (model X.prog X.w) X.A (call (.ref f) us) (gN X ab σ Q) X.dF s:=by
 have fX:bY (vs ++ dvs) (us ++ ds):=r.append hd;have aM:(us ++ ds).length=ps.length:=by rw [<- fX.length];exact F.len _ _ _ _ h
 refine wpAny_call (codeAny_mono (F.run X.A X.stack s H ⟨us,[]⟩ (us ++ ds) (vs ++ dvs) Q E ak J.O_ (ae s us J.i' aM) fX h) fun r aj aN=>?_);cases r with
 | error e=>exact ag ab σ H s e aj J aN
 | ok d8=>
  cases d8 with
  | ret u=>exact J.after aN
  | next=>exact iK aN
  | brk=>exact iK aN
  | cont=>exact iK aN
theorem adK (F:cH X.prog X.w X.K X.mg X.base CX k f fd ps sp) (ak:ee k X.A) (bg:lX X x) (hm:X.mg x=some (.ref f)) (aB:qS X.K (.ref f)=true) (ae:b1 X.K fd ps ds) (hd:bY dvs ds) (ag:oB CX X E)
  (aX:jM X (e :: a4) t) (mu:(x == ("__debug__" : Str))=false:=by decide) (he:starEach (e :: a4) X.env=(false,eval e X.env) :: starEach a4 X.env:=by rfl) (cY:(backTo pos (starEach a4 X.env)).any (·.1)=false:=by rfl) :
  br X (.Call (.Name x p) (e :: a4) [] pos) (vG sp dvs E t):=by
 intro ab s σ H Q J h;refine wpAny_Call_Name_kw (yh J bg hm ?_ mu);refine Hc (h₀:=X.base) J.ok.mod.sj aB (bC (aX pos ab s σ H _ J h) fun us s1 ⟨vs,H1,a3,r,q⟩=>⟨a3.i',?_⟩) he cY;exact wa F ak ae hd ag a3 r q
theorem e4 (he:br X o a9) (c:g8 X.K C) (hm:fx X.K C m f) (F:cH X.prog X.w X.K X.mg X.base CX k f fd ps sp) (ak:ee k X.A) (ae:b1 X.K fd ps ds) (hd:bY dvs ds) (ag:oB CX X E) (aX:jM X (e :: a4) t)
  (gP:starEach (e :: a4) X.env=(false,eval e X.env) :: starEach a4 X.env:=by rfl) (cY:(backTo pos (starEach a4 X.env)).any (·.1)=false:=by rfl)
  (cS:eval (.Call (.Attribute o m fW) (e :: a4) [] pos) X.env=(do
   let e3 <- eval o X.env
   standAt fW.atName
   let (f,first) <- holding [e3] (getMethod e3 m pl)
   callWith pos f first (backTo pos (starEach (e :: a4) X.env)) (backToKw pos (keywordEach [] X.env))):=by rfl) :
  br X (.Call (.Attribute o m fW) (e :: a4) [] pos) (CS C m sp dvs E a9 t):=by
 intro ab s σ H Q J h;refine CK (pl:=pl) (bC (he ab s σ H _ J h) fun u s1 bx=>?_) cS;obtain ⟨x,H1,a3,bb,gj⟩:=bx;obtain ⟨a,ex,ar,aH,g_,l,q⟩:=e1.out gj;subst ex;obtain rfl:u=fN a:=bb;refine H2 a3 g_ c hm l ?_;refine Hc (first:=[.ref a]) (h₀:=X.base) J.ok.mod.sj hm.bK (bC (aX pos ab s1 σ H1 _ a3 q) fun us s2 ⟨vs,az,bP,r,dO⟩=>⟨bP.i',?_⟩) gP cY;exact wa (us:=.ref a :: us) (vs:=.ref a :: vs) F ak ae hd ag bP (.cons rfl r) dO
theorem jj (he:br X o a9) (c:g8 X.K C) (hm:fx X.K C m f) (F:cH X.prog X.w X.K X.mg X.base CX k f fd ps sp) (ak:ee k X.A) (ae:b1 X.K fd ps ds) (hd:bY dvs ds) (ag:oB CX X E)
  (cS:eval (.Call (.Attribute o m fW) [] [] pos) X.env=(do
   let e3 <- eval o X.env
   standAt fW.atName
   let (f,first) <- holding [e3] (getMethod e3 m pl)
   callWith pos f first (backTo pos (starEach [] X.env)) (backToKw pos (keywordEach [] X.env))):=by rfl) :
  br X (.Call (.Attribute o m fW) [] [] pos) (CS C m sp dvs E a9 v3):=by
 intro ab s σ H Q J h;refine CK (pl:=pl) (bC (he ab s σ H _ J h) fun u s1 bx=>?_) cS;obtain ⟨x,H1,a3,bb,gj⟩:=bx;obtain ⟨a,ex,ar,aH,g_,l,q⟩:=e1.out gj;subst ex;obtain rfl:u=fN a:=bb;refine H2 a3 g_ c hm l ?_;exact VA (first:=[.ref a]) a3.i' hm.bK (wa (us:=[.ref a]) (vs:=[.ref a]) F ak ae hd ag a3 (.cons rfl .nil) q)
structure oL (K:ba) (C f:Addr):Prop where
 makes:ab6 K C=true
 init:dq K (.ref C) "__init__"=some (some (.ref f))
 fn:KW K (.ref f)=true
 bK:qS K (.ref C)=true
theorem adp (M:oL X.K C f) (F:cH X.prog X.w X.K X.mg X.base CX k f fd ps sp) (ak:ee (k + 1) X.A) (ae:b1 X.K fd ps ds) (hd:bY dvs ds)
  (ag:oB CX X E) (J:Inv X ab σ H s) (r:bY vs us)
  (h:∀ x ar,H x=none->H ar=none->ar ≠ x->sp (.ref x :: (vs ++ dvs)) (upd (upd H ar (.own x)) x (.ins C ar [])) (fun v az=>v=.bU/\Q (.ref x) az) E) :
  wpAny (model X.prog X.w) X.A (call (.ref C) us) (gN X ab σ Q) X.dF s:=by
 have aN:=h (s.heap.objs.size + 1) s.heap.objs.size (J.bo.fresh (Fp _)) (J.bo.fresh (bW _)) (gz (Fe _));have bP:=Inv.made (C:=C) J;have fX:bY (V.ref (s.heap.objs.size + 1) :: (vs ++ dvs)) (fN (s.heap.objs.size + 1) :: (us ++ ds)):=.cons rfl (r.append hd);have aM:(fN (s.heap.objs.size + 1) :: us ++ ds).length=ps.length:=by
  have e:=fX.length;rw [F.len _ _ _ _ aN] at e;exact e.symm
 refine wpAny_call (Zf (f:=f) J.i' M.makes M.init (beq_iff_eq.mp M.fn) (codeAny_mono (F.run _ X.stack _ _ ⟨fN (s.heap.objs.size + 1) :: us,[]⟩ (fN (s.heap.objs.size + 1) :: (us ++ ds)) _ _ E (ak.make C us [])
  (bP.O_.make C us []) (ae _ (fN (s.heap.objs.size + 1) :: us) bP.i' aM) fX aN) fun r aj p2=>?_))
 cases r with
 | error e=>exact ag ab σ _ _ e aj bP p2
 | ok d8=>
  cases d8 with
  | ret u=>
   obtain ⟨v,I,es,cR,ev,fP⟩:=bP.after p2;subst ev;exact ⟨cR,⟨V.ref (s.heap.objs.size + 1),I,es,rfl,fP⟩⟩
  | next=>exact iK p2
  | brk=>exact iK p2
  | cont=>exact iK p2
theorem ry (M:oL X.K C f) (F:cH X.prog X.w X.K X.mg X.base CX k f fd ps sp) (ak:ee (k + 1) X.A) (bg:lX X x) (hm:X.mg x=some (.ref C)) (ae:b1 X.K fd ps ds) (hd:bY dvs ds) (ag:oB CX X E)
  (aX:jM X (e :: a4) t) (mu:(x == ("__debug__" : Str))=false:=by decide) (he:starEach (e :: a4) X.env=(false,eval e X.env) :: starEach a4 X.env:=by rfl) (cY:(backTo pos (starEach a4 X.env)).any (·.1)=false:=by rfl) :
  br X (.Call (.Name x p) (e :: a4) [] pos) (Nq C sp dvs E t):=by
 intro ab s σ H Q J h;refine wpAny_Call_Name_kw (yh J bg hm ?_ mu);refine Hc (h₀:=X.base) J.ok.mod.sj M.bK (bC (aX pos ab s σ H _ J h) fun us s1 ⟨vs,H1,a3,r,q⟩=>⟨a3.i',?_⟩) he cY;exact adp M F ak ae hd ag a3 r q
end
section
variable {X:a8} {CX:jx} {k:Nat} {f C:Addr} {fd:FuncData} {ps cc:List Str} {sp:bN} {E:fQ} {x m:Str} {p pos fW aja:Pos} {e o:Expr} {a4:List Expr} {ake:List Keyword} {bM a9:TE} {t tk:fG} {nm:Option Str}
structure ai3 (K:ba) (fd:FuncData) (ps cc:List Str) (g:List Value->List Value->List Value) (M6:List V->List V->List V):Prop where
 to:∀ (s:Shared) (us ws:List Value),K.In s.heap->(g us ws).length=ps.length->BindsTo s fd ⟨us,cc.zip ws⟩ (ps.zip (g us ws))
 rel:∀ {vs:List V} {us:List Value} {zs:List V} {ws:List Value},bY vs us->bY zs ws->bY (M6 vs zs) (g us ws)
variable {g:List Value->List Value->List Value} {M6:List V->List V->List V}
end
structure cq (N P:List Str) (sc:Scope):Prop where
 kind:sc.kind=.function
 co:sc.isCoroutine=false
 gen:sc.isGenerator=false
 aG:N.Nodup
 pre:N.take P.length=P
 par:∀ x ∈ P,sc.names.lookup x=some .local\/sc.names.lookup x=some .cell
 adP:∀ y ∈ sc.names,y.2 ≠ .free
theorem xz {kindOf:Str->Option NameKind} {x:Str}:∀ {binds:List (Str × Value)} {m:Str->Option Value},(∀ v,(x,v) ∉ binds)->bindL kindOf binds m x=m x
 | [],_,_=>rfl
 | (n,v) :: r,m,h=>by
  unfold bindL;rw [xz fun w hw=>h w (hL _ hw)];split
  .have:x ≠ n:=by rintro rfl;exact h v l4
   simp [this]
  .rfl
theorem Py {kindOf:Str->Option NameKind} {x:Str}:∀ {binds:List (Str × Value)} {m:Str->Option Value},(∀ v,(x,v) ∉ binds)->bindC kindOf binds m x=m x
 | [],_,_=>rfl
 | (n,v) :: r,m,h=>by
  unfold bindC;rw [Py fun w hw=>h w (hL _ hw)];split
  .rfl
  .have:x ≠ n:=by rintro rfl;exact h v l4
   simp [this]
theorem Si {kindOf:Str->Option NameKind} {x:Str} {v:Value}:∀ {P:List Str} {vs:List Value} {i:Nat} {m:Str->Option Value},P.Nodup->P[i]? = some x->vs[i]? = some v->kindOf x=some .local ->
  bindL kindOf (P.zip vs) m x=some v
 | [],_,_,_,_,h,_,_=>by simp at h
 | _ :: _,[],_,_,_,_,h,_=>by simp at h
 | p :: P,w :: vs,0,m,aG,af,ao,aB=>by
  simp at af ao;subst af;subst ao;show bindL kindOf ((p,w) :: P.zip vs) m p=_;unfold bindL;rw [xz fun v aK=>(rr.mp aG).1 (Mt aK).1,if_pos aB];simp
 | p :: P,w :: vs,i + 1,m,aG,af,ao,aB=>by
  show bindL kindOf ((p,w) :: P.zip vs) m x=_;unfold bindL;exact Si (i:=i) (rr.mp aG).2 (by simpa using af) (by simpa using ao) aB
theorem Lr {kindOf:Str->Option NameKind} {x:Str} {v:Value}:∀ {P:List Str} {vs:List Value} {i:Nat} {m:Str->Option Value},P.Nodup->P[i]? = some x->vs[i]? = some v->kindOf x ≠ some .local ->
  bindC kindOf (P.zip vs) m x=some v
 | [],_,_,_,_,h,_,_=>by simp at h
 | _ :: _,[],_,_,_,_,h,_=>by simp at h
 | p :: P,w :: vs,0,m,aG,af,ao,aB=>by
  simp at af ao;subst af;subst ao;show bindC kindOf ((p,w) :: P.zip vs) m p=_;unfold bindC;rw [Py fun v aK=>(rr.mp aG).1 (Mt aK).1,if_neg aB];simp
 | p :: P,w :: vs,i + 1,m,aG,af,ao,aB=>by
  show bindC kindOf ((p,w) :: P.zip vs) m x=_;unfold bindC;exact Lr (i:=i) (rr.mp aG).2 (by simpa using af) (by simpa using ao) aB
noncomputable def start (N:List Str) (vs:List V):St:=vs.map some ++ JZ (N.length - vs.length) none
noncomputable def p3 (CX:jx) (P:Program) (w:World) (K:ba) (mg:Str->Option Value) (base:Heap) (N:List Str) (qual:Str) (scope:Scope) (f:Addr) (cd:Value) (A:Around) (outer:List Env) (s:Shared) (H:aq) (E:fQ):a8 where
 prog:=P
 w:=w
 K:=K
 mg:=mg
 base:=base
 A:=A.deeper (envOfC qual scope s.heap.objs.size f cd)
 N:=N
 fs:=s
 p5:=H
 env:=envOfC qual scope s.heap.objs.size f cd
 outer:=outer
 stack:=envOfC qual scope s.heap.objs.size f cd :: outer
 ex:=[]
 calm:=true
 fn:=fun _=>true
 d7:=[]
 dF:=fun e aj=>wpAny (model P w) (A.deeper (envOfC qual scope s.heap.objs.size f cd)) (leaving (envOfC qual scope s.heap.objs.size f cd) e) (fun _ r4=>CX outer H s E e r4) (fun b5 r4=>CX outer H s E b5 r4) aj
theorem R2 {sc:Scope} {n:Nat} {x:Str} (h:sc.names.lookup x=some .cell):∃ c,(cellsFrom n sc.names []).lookup x=some c:=by
 have q:=Vv sc.names n [] (.inl h);exact agQ.mp q
theorem aaV {CX:jx} {P:Program} {w:World} {K:ba} {mg:Str->Option Value} {base:Heap} {N ps:List Str} {qual:Str} {scope:Scope} {f:Addr} {cd:Value} {A:Around} {outer:List Env} {s s1:Shared} {H:aq} {E:fQ} {us:List Value} {vs:List V}
  (S:cq N ps scope) (hd:A.handled=none) (eX:mI P w K mg base A outer s H) (aM:vs.length=ps.length) (r:bY vs us)
  (x:InCallC s s.heap.objs.size (bindL (envOfC qual scope s.heap.objs.size f cd).kindOf (ps.zip us) fun _=>none) (cellsFrom (s.heap.objs.size + 1) scope.names []) (bindC (envOfC qual scope s.heap.objs.size f cd).kindOf (ps.zip us) fun _=>none) s1) :
  Inv (p3 CX P w K mg base N qual scope f cd A outer s H E) [] (start N vs) H s1:=by
 have cY:ps.length <= N.length:=by have:=congrArg pT S.pre;rw [hq] at this;omega
 obtain ⟨af,tk,rfl,aB⟩:=x.done;have q6:∀ b:Addr,b ∉ (p3 CX P w K mg base N qual scope f cd A outer s H E).ex:=fun b z=>absurd (show b ∈ ([]:List Addr) from z) (by simp)
 refine ⟨⟨eX.mod,S.kind,rfl,rfl,bW _,fun y z c af ao=>?_,fun y a7=>?_,fun y c _ h=>?_,fun _=>hd,abE eX.frames,.inr ⟨rfl,rfl⟩,fun b z=>absurd z (q6 b),eX.bs,eX.kc,fun b _ _=>q6 b,fun b z=>absurd z (q6 b),eX.jO,eX.mJ⟩,
  rfl,eX.bare,eY.kept aB,⟨_,x.toInCall.ns,fun i y v af ao a_=>?_⟩,fun y c h=>⟨_,x.cell y c h⟩,eX.bo.fresh (bW _),fun y c h=>?_,fun p av=>absurd (show p ∈ ([]:List (Addr × Obj)) from av) (by simp),eX.bo.kept aB,?_⟩
 .exact name_of_addr x.apart (t2 af) (t2 ao)
 .have a7:scope.names.lookup y=some .cell\/scope.names.lookup y=some .free:=a7;rcases a7 with a7 | a7
  .exact R2 a7
  .exact absurd rfl (S.adP _ (t2 a7))
 .exact nu (x.above y c (t2 h))
 .have ah:i < vs.length:=by
   unfold start at ao;by_cases ah:i < vs.length
   .exact ah
   .rw [i5 (by simpa using ah)] at ao;rw [List.getElem?_replicate] at ao;split at ao <;> cases ao
  have aX:vs[i]? = some v:=by
   unfold start at ao;rw [gD (by simpa using ah),dm] at ao;cases e:vs[i]? with
   | none=>rw [e] at ao;cases ao
   | some a=>rw [e] at ao;cases ao;rfl
  obtain ⟨u,bq,cR⟩:=r.get aX;have av:ps[i]? = some y:=by
   rw [<- S.pre,sq (by omega)];exact af
  have PO:ps.Nodup:=by rw [<- S.pre];exact S.aG.sublist (List.take_sublist _ _)
  refine ⟨u,cR,?_⟩;rcases S.par y (cB av) with k | k
  .exact .inl ⟨k,Si PO av bq k⟩
  .obtain ⟨c,e⟩:=R2 (n:=s.heap.objs.size + 1) k;refine .inr ⟨.inl k,c,e,?_⟩;have q:=x.cell y c e;rw [Lr PO av bq (by show scope.names.lookup y ≠ _;rw [k];decide)] at q;exact q
 .exact eX.bo.fresh (nu (x.above y c (t2 h)))
 .unfold start;show _=N.length;rw [c6,aU,List.length_replicate];omega
theorem Rm {w:World} {K:ba} {mg:Str->Option Value} {base:Heap} {k:Nat} {name qual:Str} {A' dw doc pm fl eI mW:Value}
 {N ps:List Str} (lk:K.lookup f=some ⟨mW,dp,.func (v9 name qual params body scope A' dw doc pm an fl eI),rq⟩) (kl:LD K fl qual=true) (S:cq N ps scope)
    (len:∀ vs H Q E,sp vs H Q E->vs.length=ps.length)
    (n5:∀ (A:Around) (outer:List Env) (s:Shared) (H:aq) (vs:List V) (Q:cW) (E:fQ),ee k (A.deeper (envOfC qual scope s.heap.objs.size f fl))->sp vs H Q E ->
      ∃ t,kq (p3 CX P w K mg base N qual scope f fl A outer s H E) body t/\t { b7:=fun _ I=>Q .bU I,kK:=Q } (start N vs) H) :
    cH P w K mg base CX (k + 1) f (v9 name qual params body scope A' dw doc pm an fl eI) ps sp:=by
  refine ⟨len,fun A outer s H args us vs Q E ak eX ae r nf=>?_⟩;have aM:=len _ _ _ _ nf;have ka:K.In s.heap:=eX.mod.sj.keeps fun b o e=>(eX.bs b o e).1
  have lim:s.heap.NoLimit:=eX.mod.nolimit.keeps fun b o e=>(eX.bs b o e).1
  have aci:∀ y ∈ ps.zip us,scope.names.lookup y.1=some .local\/(scope.names.lookup y.1=some .cell/\((cellsFrom (s.heap.objs.size + 1) scope.names []).lookup y.1).isSome=true):=fun ⟨n,v⟩ a7=>by
    rcases S.par n (Mt a7).1 with q | q
    · exact .inl q
    · exact .inr ⟨q,Vv _ _ _ (.inl q)⟩
  refine codeAny_call_function ak.depth (ka _ _ lk) rfl S.co S.gen rfl (PySem.W.codeRec_of ka kl) (ae _ _ _ _ ?_);refine wpAny_newFunctionEnv_cells S.kind aci fun env he s1 x=>?_
  subst he;refine ⟨lim.keeps x.toInCall.keep,codeAny_func ?_⟩;obtain ⟨t,cS,aN⟩:=n5 A outer s H vs Q E (ak.deeper _) nf;have J:Inv (p3 CX P w K mg base N qual scope f fl A outer s H E) [] (start N vs) H s1:=aaV S ak.hd eX aM r x;refine wpAny_mono (cS [] s1 (start N vs) H _ J aN) (fun d8 aj ax=>?_) fun e aj ax=>ax
  have fin:∀ {aA:St} {I:aq} {v:V} {u:Value},Inv (p3 CX P w K mg base N qual scope f fl A outer s H E) [] aA I aj->bH v u->Q v I->Gq outer P w H s Q u aj:=
    fun {aA I v u} bS cR q=>⟨v,I,bS.os,bS.bare,bS.base,bS.bo,cR,q⟩
  cases d8 with
  | ret u=>
    obtain ⟨v,aA,I,bS,cR,q⟩:=ax;exact fin bS cR q
  | next=>
    obtain ⟨aA,I,bS,q⟩:=ax;exact fin (v:=V.bU) (u:=qv) bS rfl q
  | brk=>
    obtain ⟨_,_,_,q⟩:=ax;exact iK q
  | cont=>
    obtain ⟨_,_,_,q⟩:=ax;exact iK q
section
variable {X:a8} {x:Str} {p pos:Pos} {e:Expr} {a4:List Expr} {t:fG} {id T:String} {r:List V->aq->cW->Prop}
noncomputable def y4 (r:List V->aq->cW->Prop) (t:fG):TE:=fun σ H Q=>t σ H fun vs H1=>r vs H1 Q
theorem fq (aw:m4 X (.builtin id) r) (bg:lX X x) (hm:X.mg x=none) (aK:bootBuiltins x=some (.builtin id)) (aX:jM X (e :: a4) t) (aT:x ≠ "__name__" := by decide) (mu:(x == ("__debug__" : Str))=false:=by decide)
  (he:starEach (e :: a4) X.env=(false,eval e X.env) :: starEach a4 X.env:=by rfl) (cY:(backTo pos (starEach a4 X.env)).any (·.1)=false:=by rfl):br X (.Call (.Name x p) (e :: a4) [] pos) (y4 r t):=by
 intro ab s σ H Q J h;refine wpAny_Call_Name_kw (u0 J bg hm aK ?_ aT mu);exact aiF (bC (aX pos ab s σ H _ J h) fun us s1 ⟨vs,H1,a3,cI,bL⟩=>aw ab s1 σ H1 vs us Q a3 cI bL) he cY
theorem nz (aw:m4 X (.type T) r) (bg:lX X x) (hm:X.mg x=none) (aK:bootBuiltins x=some (.type T)) (aX:jM X (e :: a4) t) (aT:x ≠ "__name__" := by decide) (mu:(x == ("__debug__" : Str))=false:=by decide)
  (he:starEach (e :: a4) X.env=(false,eval e X.env) :: starEach a4 X.env:=by rfl) (cY:(backTo pos (starEach a4 X.env)).any (·.1)=false:=by rfl):br X (.Call (.Name x p) (e :: a4) [] pos) (y4 r t):=by
 intro ab s σ H Q J h;refine wpAny_Call_Name_kw (u0 J bg hm aK ?_ aT mu);exact Kd (bC (aX pos ab s σ H _ J h) fun us s1 ⟨vs,H1,a3,cI,bL⟩=>aw ab s1 σ H1 vs us Q a3 cI bL) he cY
end
end L2
namespace fM
open PySem PyProof.Rows
section
open PySem.SeqAt
open PySem.AutoSeq1 (wpAny_loadPart')
open PySem.MeetsSeq PySem.MeetsSeq2 PySem.MeetsSeq3
end
section
variable {prog:Program} {w:World} {A:Around} {E:Value->Shared->Prop} {s:Shared}
noncomputable def c9 (n d:Nat):Option Int->Nat
 | none=>d
 | some v=>if v < 0 then (v + (n:Int)).toNat else min v.toNat n
theorem ah5 (n d:Nat):c9 n d none=d:=rfl
theorem U_ (n d k:Nat):c9 n d (some (k:Int))=min k n:=by
 show (if (k:Int) < 0 then ((k:Int) + (n:Int)).toNat else min (k:Int).toNat n)=min k n;rw [if_neg (by omega),nd]
theorem abD (n d:Nat) (hd:d <= n) (o:Option Int):c9 n d o <= n:=by
 cases o with
 | none=>exact hd
 | some v=>
  show (if v < 0 then (v + (n:Int)).toNat else min v.toNat n) <= n;by_cases aK:v < 0
  .rw [if_pos aK];omega
  .rw [if_neg aK];exact Nat.min_le_right _ _
theorem J9 (v:Int) (n d:Nat):(if v < 0 then max (v + (n:Int)) 0 else min v (n:Int))=((c9 n d (some v):Nat):Int):=by
 show (if v < 0 then max (v + (n:Int)) 0 else min v (n:Int))=(((if v < 0 then (v + (n:Int)).toNat else min v.toNat n):Nat):Int);by_cases aK:v < 0
 .simp only [if_pos aK];omega
 .simp only [if_neg aK];omega
theorem W5 (lo ah:Option Int) (n:Nat):N_ lo ah 1 (n:Int)=(((c9 n 0 lo:Nat):Int),((c9 n n ah:Nat):Int)):=by
 have af:¬ ((1:Int) < 0):=by omega
 unfold N_;simp only [af,if_false];refine Prod.ext ?_ ?_
 .cases lo with
  | none=>rfl
  | some v=>exact J9 v n 0
 .cases ah with
  | none=>rfl
  | some v=>exact J9 v n n
theorem ZH (i j:Nat):Hw (i:Int) (j:Int) 1=j - i:=by
 unfold Hw;have af:(1:Int) > 0:=by omega
 simp only [af,if_true,Int.ediv_one];split <;> omega
theorem ML (p:IsPart v o) (h:Q o s):wpAny (model prog w) A (akY v) Q E s:=by
 cases p with
 | none=>exact slicePart_none h
 | int i t=>exact slicePart_int h
theorem aby {bF:Addr} {jk jG:Value} {lo ah:Option Int} {n:Nat} {Q:Int × Int × Nat->Shared->Prop} (ax:s.heap.IsSliceOf bF jk jG .none) (pl:IsPart jk lo) (pu:IsPart jG ah)
  (h:Q (((c9 n 0 lo:Nat):Int),1,c9 n n ah - c9 n 0 lo) s):wpAny (model prog w) A (agw (.ref bF) (pure (n:Int))) Q E s:=by
 obtain ⟨os,wz,O9,oP⟩:=id ax;unfold agw akw;refine wpAny_bind (wpAny_bind (wpAny_field wz oP (x:=jk) rfl (wpAny_bind (wpAny_field wz oP (x:=jG) rfl (wpAny_bind (wpAny_field wz oP (x:=.none) rfl (wpAny_pure ?_)))))));refine wpAny_bind (slicePart_none ?_);show wpAny _ _ (if ((1:Int) == 0)=true then _ else _) _ _ s;rw [if_neg (by decide)];refine wpAny_bind (ML pl (wpAny_bind (ML pu (wpAny_bind (wpAny_pure ?_)))));show wpAny _ _ (match N_ lo ah 1 (n:Int) with | (lo,ah)=>pure (lo,(1:Int),Hw lo ah 1)) _ _ s;rw [W5 lo ah n];show wpAny _ _ (pure (((c9 n 0 lo:Nat):Int),(1:Int),Hw ((c9 n 0 lo:Nat):Int) ((c9 n n ah:Nat):Int) 1)) _ _ s;rw [ZH];exact wpAny_pure h
theorem Vg (xs:Array Value) (i k:Nat):((fL k).filterMap fun (m:Nat)=>xs[((i:Int) + (m:Int) * 1).toNat]?).toArray=((xs.toList.drop i).take k).toArray:=by
 have e:(fun (m:Nat)=>xs[((i:Int) + (m:Int) * 1).toNat]?)=fun m=>xs[i + m]?:=by
  funext m;have:((i:Int) + (m:Int) * 1).toNat=i + m:=by omega
  rw [this]
 rw [e];have:=pick_run xs i k;rw [List.filterMap_map] at this;have aI:((fun x=>xs[x]?) ∘ fun x=>i + x)=fun m=>xs[i + m]?:=rfl
 rw [aI] at this;rw [this]
theorem Uq {t bF:Addr} {items:Array Value} {jk jG:Value} {lo ah:Option Int} {Q:Value->Shared->Prop} (cS:IsTup s.heap t items) (ax:s.heap.IsSliceOf bF jk jG .none) (pl:IsPart jk lo) (pu:IsPart jG ah)
  (hw:¬ (c9 items.size 0 lo=0/\c9 items.size items.size ah=items.size))
  (h:Q (.ref s.heap.objs.size) { s with heap:=s.heap.push { cls:=.type "tuple",data:=.seq ((items.toList.drop (c9 items.size 0 lo)).take (c9 items.size items.size ah - c9 items.size 0 lo)).toArray } })
  (hsz:items.size <= sizeLine):wpAny (model prog w) A (getItem (.ref t) (.ref bF)) Q E s:=by
 have yr:sizeOk (.seq ((items.toList.drop (c9 items.size 0 lo)).take (c9 items.size items.size ah - c9 items.size 0 lo)).toArray):=by
  show ((items.toList.drop (c9 items.size 0 lo)).take (c9 items.size items.size ah - c9 items.size 0 lo)).toArray.size <= sizeLine;rw [eb,hq,tP,DB];omega
 have aO:c9 items.size items.size ah <= items.size:=abD _ _ (bW _) ah;obtain ⟨os,wz,O9,oP⟩:=id ax;have Z1:s.TypeIs (.ref bF) "slice" := ⟨os,wz,O9⟩;unfold getItem
 try with_reducible refine wpAny_holding ?_
 first | refine wpAny_bind (wpAny_pure ?_) | skip
 refine wpAny_bind (wpAny_sequenceKey cS.typeIs (by decide) ?_);refine wpAny_bind (wpAny_callSpecial?_slot (name:=aa "__getitem__") cS.typeIs Q1
  (wpAny_call_entry Q1 cS.typeIs entry_tuple_getitem ?_ (args_tuple_getitem _ _)))
 show wpAny _ _ (ai2 (.ref t) >>= _) _ _ s;refine wpAny_bind (tupleItemsOf_ cS ?_);refine wpAny_bind (wpAny_typeOf Z1 ?_);rw [if_pos (by decide)];refine wpAny_bind (aby ax pl pu ?_);have De:¬ ((((c9 items.size 0 lo:Nat):Int) == 0 && (1:Int) == 1 && (c9 items.size items.size ah - c9 items.size 0 lo) == items.size)=true):=by
  intro q;rw [hy,hy] at q;have bL:((c9 items.size 0 lo:Nat):Int)=0:=eq_of_beq q.1.1;have dO:c9 items.size items.size ah - c9 items.size 0 lo=items.size:=eq_of_beq q.2;exact hw ⟨by omega,by omega⟩
 show wpAny _ _ (if (((c9 items.size 0 lo:Nat):Int) == 0 && (1:Int) == 1 && (c9 items.size items.size ah - c9 items.size 0 lo) == items.size)=true then _ else _) _ _ s;rw [if_neg De,Vg]
 first
  | exact wpAny_bind (m:=Ji _) (wpAny_newObj_type (wpAny_pure ⟨_,rfl,wpAny_pure h⟩) yr)
  | exact wpAny_bind (m:=Ji _) (wpAny_newObj_type (wpAny_bind (wpAny_pure (wpAny_pure ⟨_,rfl,wpAny_pure h⟩))) yr)
  | exact wpAny_bind (wpAny_bind (m:=Ji _) (wpAny_newObj_type (wpAny_pure (wpAny_pure ⟨_,rfl,wpAny_pure h⟩)) yr))
  | exact wpAny_bind (wpAny_bind (m:=Ji _) (wpAny_newObj_type (wpAny_pure ⟨_,rfl,wpAny_pure h⟩) yr))
end
end fM
namespace L2
open PySem PySem.Spec PyProof.Rows
noncomputable abbrev vp:=St->aq->(Option Int->aq->Prop)->Prop
def BJ (X:a8) (e:Option Expr) (t:vp):Prop:=
 ∀ (ab:List (Addr × Obj)) (s:Shared) (σ:St) (H:aq) (Q:Option Int->aq->Prop),Inv X ab σ H s->t σ H Q ->
  wpAny (model X.prog X.w) X.A (evalPart e X.env) (fun u aj=>∃ o I,Inv X ab σ I aj/\IsPart u o/\Q o I) X.dF s
noncomputable def G1:vp:=fun _ H Q=>Q none H
noncomputable def EF (t:TE):vp:=fun σ H Q=>t σ H fun x H1=>f_ x fun i=>Q (some i) H1
section
variable {X:a8} {e:Expr} {bM:TE} {lo ah:Option Expr} {dS uz:vp} {pos d6:Pos}
theorem io:BJ X none G1:=by
 intro ab s σ H Q J h;rw [evalPart_none];exact wpAny_pure ⟨none,H,J,.none,h⟩
theorem q9 (h:br X e bM):BJ X (some e) (EF bM):=by
 intro ab s σ H Q J hw;rw [evalPart_some];refine bC (h ab s σ H _ J hw) fun u s1 bx=>?_
 obtain ⟨x,H1,a3,cI,bL⟩:=bx;obtain ⟨i,rfl,q⟩:=f_.out bL;obtain ⟨t,rfl⟩:=cI;exact ⟨some i,H1,a3,.int i t,q⟩
def A1 (X:a8) (r:V->Option Int->Option Int->aq->cW->Prop):Prop:=
 ∀ (ab:List (Addr × Obj)) (s:Shared) (σ:St) (H:aq) (x:V) (v jk jG:Value) (lo ah:Option Int) (bF:Addr) (Q:cW),Inv X ab σ H s->bH x v->s.heap.IsSliceOf bF jk jG .none->IsPart jk lo->IsPart jG ah->r x lo ah H Q ->
  ∃ T id,typeLookup (.type T) "__getitem__"=pure (some (.builtin id))/\s.TypeIs v T/\wpAny (model X.prog X.w) X.A (getItem v (.ref bF)) (gN X ab σ Q) X.dF s
noncomputable def Fd (r:V->Option Int->Option Int->aq->cW->Prop) (bM:TE) (dS uz:vp):TE:=fun σ H Q=>bM σ H fun x H1=>dS σ H1 fun l az=>uz σ az fun u bk=>r x l u bk Q
theorem Tk (ak:A1 X r) (he:br X e bM) (aM:BJ X lo dS) (bq:BJ X ah uz):br X (.Subscript e (.Slice lo ah none d6) pos) (Fd r bM dS uz):=by
 intro ab s σ H Q J h;refine Subscript_ (bC (he ab s σ H _ J h) fun v s1 bx=>?_);obtain ⟨x,H1,a3,cI,bL⟩:=bx;refine wpAny_Slice (bC (aM ab s1 σ H1 _ a3 bL) fun jk s2 ⟨l,az,bP,pl,dO⟩=>bC (bq ab s2 σ az _ bP dO) fun jG s3 bx=>?_);obtain ⟨u,bk,es,pu,fP⟩:=bx;rw [evalPart_none];refine wpAny_pure ?_;have hu:Inv X ab σ bk { s3 with heap:=s3.heap.push { cls:=.type "slice",data:=.fields #[jk,jG,.none] } }:=es.kept (t':=s3.toks) fun b bZ q=>e2 _ q
 obtain ⟨T,id,iO,cS,bg⟩:=ak ab { s3 with heap:=s3.heap.push { cls:=.type "slice",data:=.fields #[jk,jG,.none] } } σ bk x v jk jG l u s3.heap.objs.size Q hu cI (alv ..) pl pu fP;show wpAny (model X.prog X.w) X.A (subscriptTail e (.Slice lo ah none d6) v (.ref s3.heap.objs.size)) (gN X ab σ Q) X.dF { s3 with heap:=s3.heap.push { cls:=.type "slice",data:=.fields #[jk,jG,.none] } };exact tail_any (ops:=[.ref s3.heap.objs.size,v]) cS iO bg (by with_unfolding_all rfl)
noncomputable def md (xs:List V) (lo ah:Option Int):List V:=(xs.drop (fM.c9 xs.length 0 lo)).take (fM.c9 xs.length xs.length ah - fM.c9 xs.length 0 lo)
theorem Lx (xs:List V) (lo ah:Option Int):(md xs lo ah).length <= xs.length:=by
 unfold md;rw [hq,tP];omega
noncomputable def Sh (K:ba):V->Option Int->Option Int->aq->cW->Prop:=fun x lo ah H Q=>∃ a xs,x=.ref a/\cM K H a xs /\
 ¬ (fM.c9 xs.length 0 lo=0/\fM.c9 xs.length xs.length ah=xs.length)/\∀ p,H p=none->Q (.ref p) (upd H p (.tup (md xs lo ah)))
theorem adZ:A1 X (Sh X.K):=by
 intro ab s σ H x v jk jG lo ah bF Q J bb ax pl pu h;obtain ⟨a,xs,rfl,ag,hw,q⟩:=h;cases bb;obtain ⟨a6,r,cS,aQ⟩:=J.tuple ag;have hlen:a6.toArray.size=xs.length:=by rw [eb];exact r.length.symm
 refine ⟨"tuple",_,Q1.lookup,cS.typeIs,?_⟩;refine fM.Uq cS ax pl pu (by rw [hlen];exact hw) ?_ (by rw [hlen];exact aQ);rw [hlen];refine ⟨.ref s.heap.objs.size,_,J.laid (t':=s.toks) (o:=.tup (md xs lo ah)) (fun b bZ q=>e2 _ q) (bW _) ?_,rfl,q _ (J.bo.fresh (bW _))⟩;exact ⟨c4 (Lx xs lo ah) aQ,_,(r.drop (fM.c9 xs.length 0 lo)).take (fM.c9 xs.length xs.length ah - fM.c9 xs.length 0 lo),IsTup.new _ _⟩
end
noncomputable def mA (n:Nat) (i:Int):Option Nat:=if 0 <= i then (if i < n then some i.toNat else none) else if -(n:Int) <= i then some (i + n).toNat else none
noncomputable def fH {α:Type} (xs:List α) (i:Int):Option α:=(mA xs.length i).bind fun j=>xs[j]?
theorem MH (h:mA n i=some j):seqIndex? i n=some j/\j < n/\-(n:Int) <= i/\i < n:=by
 unfold mA at h;by_cases h0:0 <= i
 .rw [if_pos h0] at h;by_cases af:i < n
  .rw [if_pos af] at h;have e:i.toNat=j:=dh h;exact ⟨by rw [seqIndex_of h0 af,e],by omega,by omega,af⟩
  .rw [if_neg af] at h;cases h
 .rw [if_neg h0] at h;by_cases af:-(n:Int) <= i
  .rw [if_pos af] at h;have e:(i + n).toNat=j:=dh h;exact ⟨by rw [seqIndex_neg (by omega) af,e],by omega,af,by omega⟩
  .rw [if_neg af] at h;cases h
theorem SB (h:fH xs i=some v):∃ j,seqIndex? i xs.length=some j/\xs[j]? = some v/\j < xs.length/\-(xs.length:Int) <= i/\i < xs.length:=by
 unfold fH at h;cases e:mA xs.length i with
 | none=>rw [e] at h;cases h
 | some j=>
  rw [e] at h;obtain ⟨af,ao,a_,cL⟩:=MH e;exact ⟨j,af,h,ao,a_,cL⟩
theorem cg {α:Type} {xs:List α} {j:Nat} {v:α} (h:xs[j]? = some v):fH xs (j:Int)=some v:=by
 have aO:j < xs.length:=(b6.mp h).1;have e:mA xs.length (j:Int)=some j:=by
  unfold mA;rw [if_pos (by omega),if_pos (by omega)];simp
 unfold fH;rw [e];exact h
theorem RE (xs:List α) (v:α):fH (xs ++ [v]) (-1)=some v:=by
 have aM:(xs ++ [v]).length=xs.length + 1:=by simp
 have e:mA (xs ++ [v]).length (-1)=some xs.length:=by
  unfold mA;rw [aM,if_neg (by decide),if_pos (by omega)];congr 1;omega
 unfold fH;rw [e];show (xs ++ [v])[xs.length]? = some v;simp
def P8 (b:Expr):Prop:=∀ o i,subscripted b false o i=operate [o,i] (getItem o i)
def u6 (X:a8) (r:eN):Prop:=
 ∀ (value slice:Expr) (ab:List (Addr × Obj)) (s:Shared) (σ:St) (H:aq) (x y:V) (v u:Value) (Q:cW),Inv X ab σ H s->bH x v->bH y u->r x y H Q ->
  subscripted slice false v u=operate [v,u] (getItem v u)->wpAny (model X.prog X.w) X.A (subscriptTail value slice v u) (gN X ab σ Q) X.dF s
def FK (X:a8) (id:String) (r:V->List V->aq->cW->Prop):Prop:=
 ∀ (ab:List (Addr × Obj)) (s:Shared) (σ:St) (H:aq) (x:V) (xs:List V) (v:Value) (us:List Value) (Q:cW),Inv X ab σ H s->bH x v->bY xs us->r x xs H Q ->
  wpAny (model X.prog X.w) X.A (call (.builtin id) (v :: us)) (gN X ab σ Q) X.dF s
section
variable {X:a8} {a b:Expr} {a9 bI:TE} {pos:Pos}
theorem aeP (ak:u6 X r) (aX:br X a a9) (ae:br X b bI) (ax:P8 b):br X (.Subscript a b pos) (q2 r a9 bI):=by
 intro ab s σ H Q J h;exact Subscript_ (D1 aX ae J h fun v u s2 x y az bP bb bj q=>ak a b ab s2 σ az x y v u Q bP bb bj q (ax _ _))
noncomputable def Im (K:ba):eN:=fun x y H Q=>e1 x fun p=>∃ xs,f_ y fun i=>aD K H p xs/\∃ v,fH xs i=some v/\Q v H
noncomputable def DG (K:ba):eN:=fun x y H Q=>e1 x fun p=>∃ xs,f_ y fun i=>cM K H p xs/\∃ v,fH xs i=some v/\Q v H
noncomputable def GW:eN:=fun x y H Q=>∃ z i c,x=.str z/\y=.int i/\z.length <= sizeLine/\fH z.cps.toList i=some c/\Q (.str ⟨#[c]⟩) H
theorem dE:u6 X (Im X.K):=by
 intro value slice ab s σ H x y v u Q J bb bj h ax;obtain ⟨p,rfl,xs,hM⟩:=e1.out h;obtain ⟨i,rfl,aN,z,he,q⟩:=f_.out hM;cases bb;obtain ⟨t,rfl⟩:=bj;obtain ⟨a6,r,pl,aQ⟩:=J.list aN;obtain ⟨j,af,ao,a_,cL,ej⟩:=SB he;obtain ⟨w,n3,hT⟩:=r.get ao;have aM:=r.length;have aT:=qH;have fin:gN X ab σ Q w s:=⟨z,H,J,hT,q⟩;by_cases h0:0 <= i
 .have aO:i.toNat=j:=by
   rw [seqIndex_of h0 ej] at af;exact dh af
  exact item_listR pl.isList h0 (by omega) (by rw [aO];simpa using n3) fin ax
 .have aO:(i + (a6.toArray.size:Int)).toNat=j:=by
   rw [seqIndex_neg (by omega) cL] at af;rw [eb,<- aM];exact dh af
  exact subscriptTail_builtinR (x:=w) pl.isList.typeIs slot_list_getitem.lookup
   (wpAny_getItem_list_neg (Q:=fun r aj=>r=w/\gN X ab σ Q r aj) pl.isList (by omega) (by rw [eb] <;> omega) (by omega) (by rw [aO];simpa using n3) ⟨rfl,fin⟩) ax
theorem eK:u6 X (DG X.K):=by
 intro value slice ab s σ H x y v u Q J bb bj h ax;obtain ⟨p,rfl,xs,hM⟩:=e1.out h;obtain ⟨i,rfl,aN,z,he,q⟩:=f_.out hM;cases bb;obtain ⟨t,rfl⟩:=bj;obtain ⟨a6,r,pl,aQ⟩:=J.tuple aN;obtain ⟨j,af,ao,a_,cL,ej⟩:=SB he;obtain ⟨w,n3,hT⟩:=r.get ao;have aM:=r.length;have aT:=qH;have fin:gN X ab σ Q w s:=⟨z,H,J,hT,q⟩;exact subscriptTail_builtinR (x:=w) pl.typeIs slot_tuple_getitem.lookup
  (getItem_tuple (j:=j) (Q:=fun r aj=>r=w/\gN X ab σ Q r aj) pl (by omega) (by omega) (by rw [eb,<- aM];exact af) (by simpa using n3) ⟨rfl,fin⟩) ax
theorem Ei:u6 X GW:=by
 intro value slice ab s σ H x y v u Q J bb bj h ax;obtain ⟨z,i,c,rfl,rfl,aQ,he,q⟩:=h;obtain ⟨t,rfl⟩:=bb;obtain ⟨t',rfl⟩:=bj;obtain ⟨j,af,ao,a_,cL,ej⟩:=SB he;have aM:z.cps.toList.length=z.length:=by simp [sO]
 rw [aM] at af cL ej;have aT:=qH;exact tail_any (typeIs_str s z t) slot_str_getitem.lookup (getItem_str (c:=c) (by
  have au:decide (i < -(2 ^ 63:Int))=false:=decide_eq_false (by omega);have aI:decide (i ≥ 2 ^ 63)=false:=decide_eq_false (by omega);rw [au,aI,SE]) (by rw [af];simpa using ao) ⟨.str ⟨#[c]⟩,H,J.tok _,⟨_,rfl⟩,q⟩) ax
theorem aiA (a6:List Value) (n j:Nat) (u:Value):pU (·.setIfInBounds j u) { cls:=.type "list",data:=.seq a6.toArray n } = { cls:=.type "list",data:=.seq (a6.set j u).toArray n }:=by
 simp [pU]
theorem Inv.lst {p:Addr} (J:Inv X ab σ H s) (h:H p=some (.lst xs)) :
  ∃ (a6:List Value) (n:Nat),bY xs a6/\s.heap.get? p=some { cls:=.type "list",data:=.seq a6.toArray n }/\xs.length <= sizeLine:=by
 obtain ⟨z,a6,n,r,e⟩:=J.bo p _ h;exact ⟨a6,n,r,e,z⟩
theorem Inv.Zy {p:Addr} {a6 its':List Value} (J:Inv X ab σ H s) (h:H p=some (.lst xs))
  (aS:s.heap.get? p=some { cls:=.type "list",data:=.seq a6.toArray n }) (hf:f { cls:=.type "list",data:=.seq a6.toArray n } = { cls:=.type "list",data:=.seq its'.toArray jr }) (r:bY ys its') (aQ:ys.length <= sizeLine) (t:Nat) :
  Inv X ab σ (upd H p (.lst ys)) { s with heap:=s.heap.update p f,toks:=t }:=by
 have e:(s.heap.update p f).get? p=some { cls:=.type "list",data:=.seq its'.toArray jr }:=by
  rw [Xk f aS (by rw [hf] <;> rfl),hf]
 refine J.write (x:=p) (e:=p) (by rw [h];trivial) (.inl rfl) (fun b u ae q=>(tm _ _ (eg ae)).trans q) ⟨_,e⟩ ?_;exact ⟨aQ,its',jr,r,e⟩
noncomputable def F9:V->V->V->aq->(aq->Prop)->Prop:=fun o i v H Q=>e1 o fun p=>∃ xs,f_ i fun k=>H p=some (.lst xs)/\∃ j,mA xs.length k=some j/\Q (upd H p (.lst (xs.set j v)))
theorem UK:OU X F9:=by
 intro ab s σ H o i v e3 hX u Q J ahh rX cR h;obtain ⟨p,rfl,xs,hM⟩:=e1.out h;obtain ⟨k,rfl,av,j,aO,q⟩:=f_.out hM;cases ahh;obtain ⟨t,rfl⟩:=rX;obtain ⟨a6,n,r,aS,aQ⟩:=J.lst av;obtain ⟨af,ao,a_,cL⟩:=MH aO;have aM:=r.length;have aT:=qH;have gy:Inv X ab σ (upd H p (.lst (xs.set j v))) { s with heap:=s.heap.update p (pU (·.setIfInBounds j u)) }:=
  J.Zy av aS (aiA a6 n j u) (r.set cR j) (by rw [IA];exact aQ) s.toks
 by_cases h0:0 <= k
 .have aB:k.toNat=j:=by
   rw [seqIndex_of h0 cL] at af;exact dh af
  exact PySem.W.ki_setAt aS h0 (by omega) (by rw [eb,<- aM];exact cL) (by rw [aB];exact ⟨_,gy,q⟩)
 .have aB:(k + (a6.toArray.size:Int)).toNat=j:=by
   rw [seqIndex_neg (by omega) a_] at af;rw [eb,<- aM];exact dh af
  exact PySem.W.ki_setBack aS (by omega) (by rw [eb,<- aM];exact a_) (by omega) (by rw [aB];exact ⟨_,gy,q⟩)
theorem YG (lo ah:Option Int) (n:Nat):(sliceBounds lo ah none n).1=((fM.c9 n 0 lo:Nat):Int)/\(sliceBounds lo ah none n).2.1=((fM.c9 n n ah:Nat):Int)/\(sliceBounds lo ah none n).2.2=1:=by
 refine ⟨?_,?_,rfl⟩
 .cases lo with
  | none=>simp [sliceBounds,fM.c9]
  | some i=>
   simp only [sliceBounds,fM.c9,ZC,show (1:Int) > 0 by decide,if_true];by_cases h:i < 0
   .simp only [h,if_true] <;> omega
   .simp only [h,if_false] <;> omega
 .cases ah with
  | none=>simp [sliceBounds,fM.c9]
  | some i=>
   simp only [sliceBounds,fM.c9,ZC,show (1:Int) > 0 by decide,if_true];by_cases h:i < 0
   .simp only [h,if_true] <;> omega
   .simp only [h,if_false] <;> omega
theorem ag6 (a6:List Value) (lo ah:Option Int):slicePick a6.toArray lo ah none=((a6.drop (fM.c9 a6.length 0 lo)).take (fM.c9 a6.length a6.length ah - fM.c9 a6.length 0 lo)).toArray:=by
 obtain ⟨af,ao,a_⟩:=YG lo ah a6.toArray.size;unfold slicePick;rw [af,ao,a_];simp only [sliceRange_one,pick_run,eb] <;> rfl
noncomputable def F8 (K:ba):V->Option Int->Option Int->aq->cW->Prop:=fun x lo ah H Q=>∃ a xs,x=.ref a/\aD K H a xs/\∀ p,H p=none->Q (.ref p) (upd H p (.lst (md xs lo ah)))
theorem M':A1 X (F8 X.K):=by
 intro ab s σ H x v jk jG lo ah bF Q J bb ax pl pu h;obtain ⟨a,xs,rfl,ag,q⟩:=h;cases bb;obtain ⟨a6,r,cS,aQ⟩:=J.list ag;have hlen:=r.length;refine ⟨"list",_,slot_list_getitem.lookup,cS.isList.typeIs,?_⟩;refine wpAny_getItem_list_slice cS.isList ax pl pu .none (by simp) ?_ (by rw [eb] <;> omega);rw [ag6,<- hlen];refine ⟨.ref s.heap.objs.size,_,J.laid (t':=s.toks) (o:=.lst (md xs lo ah)) (fun b bZ q=>e2 _ q) (bW _) ?_,rfl,q _ (J.bo.fresh (bW _))⟩;exact ⟨c4 (Lx xs lo ah) aQ,_,0,(r.drop (fM.c9 xs.length 0 lo)).take (fM.c9 xs.length xs.length ah - fM.c9 xs.length 0 lo),hN _ rfl⟩
noncomputable def kB:V->Bool
 | .bU=>true
 | .bl _=>true
 | .int _=>true
 | .str _=>true
 | _=>false
noncomputable def jF:V->V->Bool
 | .bU,.bU=>true
 | .bl a,.bl b=>a == b
 | .bl a,.int b=>(if a then 1 else 0) == b
 | .int a,.bl b=>a == (if b then 1 else 0)
 | .int a,.int b=>a == b
 | .str a,.str b=>a == b
 | _,_=>false
theorem OT {A:Around} {y x:V} (bj:bH y u) (bb:bH x v) (WR:kB y=true) (kW:kB x=true):Fq A s u v (jF y x):=by
 cases y with
 | bU=>
  cases bj;cases x with
  | bU=>cases bb;exact RW _
  | bl b=>cases bb;exact SeqAt.EqAt.none_bool b
  | int b=>obtain ⟨t,rfl⟩:=bb;exact SeqAt.EqAt.none_int b t
  | str b=>obtain ⟨t,rfl⟩:=bb;exact SeqAt.EqAt.none_str b t
  | _=>exact absurd (show false=true from kW) fB
 | bl a=>
  cases bj;cases x with
  | bU=>cases bb;exact SeqAt.EqAt.bool_none a
  | bl b=>cases bb;exact SeqAt.EqAt.bool_bool a b
  | int b=>obtain ⟨t,rfl⟩:=bb;exact SeqAt.EqAt.bool_int a b t
  | str b=>obtain ⟨t,rfl⟩:=bb;exact SeqAt.EqAt.bool_str a b t
  | _=>exact absurd (show false=true from kW) fB
 | int a=>
  obtain ⟨t',rfl⟩:=bj;cases x with
  | bU=>cases bb;exact SeqAt.EqAt.int_none a t'
  | bl b=>cases bb;exact SeqAt.EqAt.int_bool a t' b
  | int b=>obtain ⟨t,rfl⟩:=bb;exact SeqAt.EqAt.int_int a t' b t
  | str b=>obtain ⟨t,rfl⟩:=bb;exact Wu a t' b t
  | _=>exact absurd (show false=true from kW) fB
 | str a=>
  obtain ⟨t',rfl⟩:=bj;cases x with
  | bU=>cases bb;exact SeqAt.EqAt.str_none a t'
  | bl b=>cases bb;exact SeqAt.EqAt.str_bool a t' b
  | int b=>obtain ⟨t,rfl⟩:=bb;exact ack a t' b t
  | str b=>obtain ⟨t,rfl⟩:=bb;exact SeqAt.EqAt.str_str a t' b t
  | _=>exact absurd (show false=true from kW) fB
 | _=>exact absurd (show false=true from WR) fB
noncomputable def ke (x:V) (u:Value):Bool:=match u with
 | .none=>jF .bU x
 | .bool b=>jF (.bl b) x
 | .int i _=>jF (.int i) x
 | .str z _=>jF (.str z) x
 | _=>false
theorem MS {x y:V} (r:bH y u) (f:kB y=true):ke x u=jF y x:=by
 cases y with
 | bU=>cases r;rfl
 | bl b=>cases r;rfl
 | int i=>obtain ⟨t,rfl⟩:=r;rfl
 | str z=>obtain ⟨t,rfl⟩:=r;rfl
 | _=>exact absurd (show false=true from f) fB
theorem vW {x:V}:∀ {xs:List V} {us:List Value},bY xs us->xs.all kB=true->us.any (ke x)=xs.any fun y=>jF y x
 | _,_,.nil,_=>rfl
 | y :: xs,u :: us,.cons r t,f=>by
  rw [adT,hy] at f;rw [ui,ui,MS r f.1,vW t f.2]
theorem w3 {A:Around} {x:V} (bb:bH x v) (kW:kB x=true):∀ {xs:List V} {us:List Value},bY xs us->xs.all kB=true->∀ u ∈ us,Fq A s u v (ke x u)
 | _,_,.nil,_=>fun u bq=>by cases bq
 | y :: xs,u :: us,.cons r t,f=>fun tM bq=>by
  rw [adT,hy] at f;rcases fh.mp bq with rfl | bq
  .rw [MS r f.1];exact OT r bb f.1 kW
  .exact w3 bb kW t f.2 tM bq
noncomputable def pE (x:V) (xs:List V):Bool:=xs.any fun y=>jF y x
noncomputable def Bf (K:ba) (neg:Bool):eN:=fun x y H Q=>∃ p xs,y=.ref p/\(aD K H p xs\/cM K H p xs)/\kB x=true/\xs.all kB=true/\Q (.bl (if neg then !pE x xs else pE x xs)) H
theorem Dw:hb X (compareOp .In) (Bf X.K false):=by
 intro ab s σ H x y v u Q J bb bj h;obtain ⟨p,xs,rfl,aN,kW,aH,q⟩:=h;cases bj;rcases aN with aN | aN
 .obtain ⟨a6,r,pl,aQ⟩:=J.list aN;refine SeqAt.in_listAt (ke x) pl.isList (fun w hw=>w3 bb kW r aH w (by simpa using hw)) ⟨.bl _,H,J,rfl,?_⟩;rw [show a6.toArray.any (ke x)=a6.any (ke x) by simp,vW r aH];exact q
 .obtain ⟨a6,r,pl,aQ⟩:=J.tuple aN;refine SeqAt.in_tupleAt (ke x) pl (fun w hw=>w3 bb kW r aH w (by simpa using hw)) ⟨.bl _,H,J,rfl,?_⟩;rw [show a6.toArray.any (ke x)=a6.any (ke x) by simp,vW r aH];exact q
theorem x9:hb X (compareOp .NotIn) (Bf X.K true):=by
 intro ab s σ H x y v u Q J bb bj h;obtain ⟨p,xs,rfl,aN,kW,aH,q⟩:=h;cases bj;rcases aN with aN | aN
 .obtain ⟨a6,r,pl,aQ⟩:=J.list aN;refine SeqAt.notIn_listAt (ke x) pl.isList (fun w hw=>w3 bb kW r aH w (by simpa using hw)) ⟨.bl _,H,J,rfl,?_⟩;rw [show a6.toArray.any (ke x)=a6.any (ke x) by simp,vW r aH];exact q
 .obtain ⟨a6,r,pl,aQ⟩:=J.tuple aN;refine SeqAt.notIn_tupleAt (ke x) pl (fun w hw=>w3 bb kW r aH w (by simpa using hw)) ⟨.bl _,H,J,rfl,?_⟩;rw [show a6.toArray.any (ke x)=a6.any (ke x) by simp,vW r aH];exact q
theorem g0:m4 X (.builtin "len") (fun xs H Q=>ma xs fun x=>e1 x fun p=>∃ ys,(aD X.K H p ys\/cM X.K H p ys)/\Q (.int ys.length) H):=by
 intro ab s σ H xs us Q J r h;obtain ⟨aio,rfl,hM⟩:=ma.out h;obtain ⟨p,rfl,ys,aN,q⟩:=e1.out hM;obtain ⟨u,rfl,bb⟩:=ml r;cases bb;have aT:=qH;rcases aN with aN | aN
 .obtain ⟨a6,dj,pl,aQ⟩:=J.list aN;have hlen:=dj.length;exact Calls.call_len_list pl.isList (by simp only [eb] <;> omega) ⟨.int ys.length,H,J.tok _,⟨s.toks + 1,by rw [eb,hlen]⟩,q⟩
 .obtain ⟨a6,dj,pl,aQ⟩:=J.tuple aN;have hlen:=dj.length;exact len_tuple pl (by simp only [eb] <;> omega) ⟨.int ys.length,H,J.tok _,⟨s.toks + 1,by rw [eb,hlen]⟩,q⟩
theorem aa8:m4 X (.builtin "len") (fun xs H Q=>∃ z,xs=[.str z]/\z.length <= sizeLine/\Q (.int z.length) H):=by
 intro ab s σ H xs us Q J r h;obtain ⟨z,rfl,aQ,q⟩:=h;obtain ⟨u,rfl,t,rfl⟩:=ml r;have aT:=qH;exact len_str (by omega) ⟨.int z.length,H,J.tok _,⟨_,rfl⟩,q⟩
def Ju (K:ba) (T:String) (x:V) (H:aq):Prop:=match x with
 | .str _=>T = "str"
 | .int _=>T = "int"
 | .ref p=>(T = "list" /\ ∃ xs,aD K H p xs)\/(T = "tuple" /\ ∃ o,K.lookup p=some o/\o.cls=.type "tuple" /\ o.dict=none) \/
   (T = "dict" /\ ((∃ kvs,H p=some (.bw kvs))\/∃ kvs,H p=some (.fU kvs)))\/(T = "set" /\ ∃ S n,H p=some (.set S n))
 | _=>False
theorem Yh {x:V} (J:Inv X ab σ H s) (r:bH x v) (ty:Ju X.K T x H) :
  s.TypeIs v T/\∀ a,v=.ref a->∃ bZ,s.heap.get? a=some bZ/\bZ.dict=none:=by
 cases x with
 | str z=>
  obtain ⟨t,rfl⟩:=r;cases (show T = "str" from ty);exact ⟨typeIs_str s z t,fun _ e=>nomatch e⟩
 | int i=>
  obtain ⟨t,rfl⟩:=r;cases (show T = "int" from ty);exact ⟨typeIs_int s i t,fun _ e=>nomatch e⟩
 | ref p=>
  cases r;rcases ty with ⟨rfl,xs,aN⟩ | ⟨rfl,o,aB,aw,hd⟩ | ⟨rfl,aB⟩ | ⟨rfl,S,n,aB⟩
  .obtain ⟨a6,_,pl,_⟩:=J.list aN;refine ⟨pl.isList.typeIs,fun a e=>?_⟩;cases e;obtain ⟨o,n,e,c,hd,_⟩:=pl;exact ⟨o,e,hd⟩
  .refine ⟨⟨o,J.i' p o aB,aw⟩,fun a e=>?_⟩;cases e;exact ⟨o,J.i' _ o aB,hd⟩
  .have z:∃ o,s.heap.get? p=some o/\o.ExactDict:=by
    rcases aB with ⟨kvs,aB⟩ | ⟨kvs,aB⟩
    .obtain ⟨_,_,_,_,o,_,_,e,ex,_⟩:=J.bo p _ aB;exact ⟨o,e,ex⟩
    .obtain ⟨_,_,_,_,o,_,_,e,ex,_⟩:=J.bo p _ aB;exact ⟨o,e,ex⟩
   obtain ⟨o,e,ex⟩:=z;refine ⟨⟨o,e,ex.1⟩,fun a aI=>?_⟩;cases aI;exact ⟨o,e,ex.2.1⟩
  .obtain ⟨o,_,_,_,e,ex,_⟩:=J.bo p _ aB;refine ⟨⟨o,e,ex.1⟩,fun a aI=>?_⟩;cases aI;exact ⟨o,e,ex.2.1⟩
 | _=>exact iK ty
noncomputable def G' (K:ba) (T:String) (r:V->List V->aq->cW->Prop) (to:TE) (t:fG):TE:=fun σ H Q=>to σ H fun x H1=>Ju K T x H1/\t σ H1 fun xs az=>r x xs az Q
variable {o e:Expr} {a4:List Expr} {to:TE} {t:fG} {name:Str} {fW ig:Pos} {T id:String} {r:V->List V->aq->cW->Prop}
theorem gk (m':PlainAttrs T) (slot:Slot T name id) (Zj:typeOf (.builtin id)=pure (.type "method_descriptor")) (hm:FK X id r) (aS:br X o to) (aX:jM X (e :: a4) t)
  (Zg:attributeBase o name X.env (eval o X.env)=eval o X.env:=by rfl)
  (Wz:((backTo ig (starEach (e :: a4) X.env)).all (fun x=>!x.1) && (backToKw ig (keywordEach [] X.env)).all (fun x=>x.1.isSome)
   && decide ((e :: a4).length + ([]:List Keyword).length + (if ([]:List Keyword).isEmpty then 0 else 1) < 30))=true:=by rfl)
  (Zu:(fW.endLine == ig.line)=true:=by rfl) (ax:starEach (e :: a4) X.env=(false,eval e X.env) :: starEach a4 X.env:=by rfl) (hplain:(backTo ig (starEach a4 X.env)).any (·.1)=false:=by rfl) :
  br X (.Call (.Attribute o name fW) (e :: a4) [] ig) (G' X.K T r to t):=by
 intro ab s σ H Q J h;refine wpAny_Call_method_late Zg Wz Zu rfl (bC (aS ab s σ H _ J h) fun v s1 bx=>?_);obtain ⟨x,H1,a3,cI,ty,bL⟩:=bx;obtain ⟨af,ao⟩:=Yh a3 cI ty;refine ⟨T,id,m',slot,Zj,af,ao,?_⟩;have jD:=aX ig ab s1 σ H1 _ a3 bL;rw [ax] at jD ⊢;refine aap (by show (false || (backTo ig (starEach a4 X.env)).any (·.1))=false;rw [hplain] <;> rfl) (Zn ?_);exact bC jD fun us s2 ⟨vs,az,bP,fX,dO⟩=>hm ab s2 σ az x vs v us Q bP cI fX dO
end
def Iv (X:a8) (id:String) (r:V->List V->aq->cW->Prop):Prop:=
 ∀ (ab:List (Addr × Obj)) (s:Shared) (σ:St) (H:aq) (x:V) (xs:List V) (v:Value) (us:List Value) (Q:cW),Inv X ab σ H s->bH x v->bY xs us->r x xs H Q ->
  wpAny (model X.prog X.w) X.A (call (.builtin id) (v :: us)) (gN X ab σ Q) X.dF s
theorem bY.one:∀ {x:V} {us:List Value},bY [x] us->∃ u,us=[u]/\bH x u
 | _,_,.cons r .nil=>⟨_,rfl,r⟩
theorem bY.two:∀ {x y:V} {us:List Value},bY [x,y] us->∃ u v,us=[u,v]/\bH x u/\bH y v
 | _,_,_,.cons r (.cons q .nil)=>⟨_,_,rfl,r,q⟩
theorem bY.zero:∀ {us:List Value},bY [] us->us=[]
 | _,.nil=>rfl
theorem bY.dropLast (h:bY xs us):bY xs.dropLast us.dropLast:=by
 induction h with
 | nil=>exact .nil
 | cons r t b9=>
  cases t with
  | nil=>exact .nil
  | cons q t'=>exact .cons r b9
theorem bY.reverse (h:bY xs us):bY xs.reverse us.reverse:=by
 induction h with
 | nil=>exact .nil
 | cons r t b9=>rw [YS,YS];exact bY.append b9 (.cons r .nil)
section
variable {X:a8} {ab:List (Addr × Obj)} {σ:St} {H:aq} {s:Shared} {l b:Addr} {xs ys zs:List V}
theorem Inv.ID {a6 its':List Value} (J:Inv X ab σ H s) (kC:H l=some (.lst xs))
  (e:s.heap.get? l=some { cls:=.type "list",data:=.seq a6.toArray n }) (hf:f a6.toArray=its'.toArray) (aK:bY ys its') (aQ:ys.length <= sizeLine) :
  Inv X ab σ (upd H l (.lst ys)) { s with heap:=s.heap.update l (pU f),toks:=t' }:=by
 have q:=PySem.IsL.update e f;rw [hf] at q;refine J.write (x:=l) (e:=l) (by rw [kC];exact trivial) (.inl rfl) (fun tc u ae bq=>(tm s.heap (pU f) (eg ae)).trans bq) ⟨_,q⟩ ?_;exact ⟨aQ,its',_,aK,q⟩
theorem Inv.fresh (J:Inv X ab σ H s):H s.heap.objs.size=none:=J.bo.fresh (bW _)
theorem Inv.Bg (J:Inv X ab σ H s) (kC:H l=some (.lst xs)):xs.length <= sizeLine/\∃ (a6:List Value) (n:Nat),bY xs a6/\xs.length=a6.length/\s.heap.get? l=some { cls:=.type "list",data:=.seq a6.toArray n }:=by
 obtain ⟨z,a6,n,r,e⟩:=J.bo l _ kC;exact ⟨z,a6,n,r,r.length,e⟩
theorem aa2 (h:n <= sizeLine):Nu n=false:=by
 unfold Nu;exact decide_eq_false (by omega)
end
section
variable {X:a8}
noncomputable def GG:V->List V->aq->cW->Prop:=fun x vs H Q=>e1 x fun l=>ma vs fun y=>∃ xs,H l=some (.lst xs)/\xs.length < sizeLine/\Q .bU (upd H l (.lst (xs ++ [y])))
theorem ks:Iv X "list.append" GG:=by
 intro ab s σ H x vs v us Q J bb cR h;obtain ⟨l,rfl,hM⟩:=e1.out h;obtain ⟨y,rfl,xs,kC,aQ,q⟩:=ma.out hM;cases bb;obtain ⟨u,rfl,f7⟩:=cR.one;obtain ⟨z,a6,n,r,aM,e⟩:=J.Bg kC;refine call_meets kO ⟨_,e,rfl⟩ F.entry_list_append (F.args_list_append_2 _ _) (PySem.list_append l a6.toArray n u (by rw [eb];omega)) ⟨e,?_⟩;refine ⟨.bU,_,J.ID (its':=a6 ++ [u]) kC e (by simp) (r.append (.cons f7 .nil)) ?_,rfl,q⟩;rw [c6,ju];omega
noncomputable def IC:V->List V->aq->cW->Prop:=fun x vs H Q=>∃ l b xs zs,x=.ref l/\vs=[.ref b]/\H l=some (.lst xs)/\H b=some (.lst zs)/\xs.length + zs.length <= sizeLine/\Q .bU (upd H l (.lst (xs ++ zs)))
theorem Jm:Iv X "list.extend" IC:=by
 intro ab s σ H x vs v us Q J bb cR h;obtain ⟨l,b,xs,zs,rfl,rfl,kC,jb,aQ,q⟩:=h;cases bb;obtain ⟨u,rfl,f7⟩:=cR.one;cases f7;obtain ⟨z,a6,n,r,aM,e⟩:=J.Bg kC;obtain ⟨eT,xv,cV,fX,UY,aI⟩:=J.Bg jb;have hsz:a6.toArray.size + xv.toArray.size <= sizeLine:=by rw [eb,eb];omega
 have aay:¬ (!a6.toArray.isEmpty && Nu (a6.toArray.size + xv.toArray.size))=true:=by
  rw [aa2 hsz,ZI];exact fB
 refine call_meets Ea ⟨_,e,rfl⟩ F.entry_list_extend (F.args_list_extend_2 _ _)
  (AutoSeq1.list_extend_list_list_0 l a6.toArray n b xv.toArray cV aay (by rw [eb];omega) (by omega)) ⟨e,aI,?_⟩
 refine ⟨.bU,_,J.ID (its':=a6 ++ xv) kC e (by simp) (r.append fX) ?_,rfl,q⟩;rw [c6];omega
end
section
variable {prog:Program} {w:World} {A:Around} {E:Value->Shared->Prop} {s:Shared}
end
section
variable {X:a8}
end
section
variable {ei:Type} [DecidableEq ei]
noncomputable def cu (kvs:List (ei × V)) (k:ei):Option V:=(kvs.find? fun df=>decide (df.1=k)).map (·.2)
noncomputable def d3 (kvs:List (ei × V)) (k:ei) (v:V):List (ei × V):=
 if (kvs.any fun df=>decide (df.1=k))=true then kvs.map (fun df=>if df.1=k then (df.1,v) else df) else kvs ++ [(k,v)]
noncomputable def p1 (kvs:List (ei × V)) (k:ei):List (ei × V):=kvs.filter fun df=>decide (df.1 ≠ k)
theorem mK {p:ei × V} {k:ei} (e:p.1=k):cu (p :: r) k=some p.2:=by simp [cu,rR,e]
theorem mh {p:ei × V} {k:ei} (e:¬ p.1=k):cu (p :: r) k=cu r k:=by simp [cu,rR,e]
theorem vl (k:ei):∀ kvs:List (ei × V),(kvs.any fun df=>decide (df.1=k))=(cu kvs k).isSome
 | []=>rfl
 | p :: r=>by
  rw [ui];by_cases e:p.1=k
  .simp only [mK e,decide_eq_true e,q7,Option.isSome_some]
  .rw [mh e,decide_eq_false e,kX];exact vl k r
theorem Pp (k j:ei) (y:V):∀ kvs:List (ei × V),cu (kvs.map fun df=>if df.1=k then (df.1,y) else df) j=(cu kvs j).map fun x=>if j=k then y else x
 | []=>rfl
 | p :: r=>by
  have b9:=Pp k j y r;rw [eV];by_cases h:p.1=k
  .rw [if_pos h];by_cases e:p.1=j
   .rw [mK (p:=(p.1,y)) e,mK e,BM,if_pos (e.symm.trans h)]
   .rw [mh (p:=(p.1,y)) e,mh e,b9]
  .rw [if_neg h];by_cases e:p.1=j
   .rw [mK (p:=p) e,mK e,BM,if_neg (fun z=>h (e.trans z))]
   .rw [mh (p:=p) e,mh e,b9]
theorem Rb (k j:ei) (y:V):∀ kvs:List (ei × V),cu kvs k=none->cu (kvs ++ [(k,y)]) j=if j=k then some y else cu kvs j
 | [],_=>by
  by_cases e:k=j
  .rw [if_pos e.symm];exact mK (p:=(k,y)) e
  .rw [if_neg (fun z=>e z.symm)];exact mh (p:=(k,y)) e
 | p :: r,aT=>by
  rw [Bj];have aB:¬ p.1=k:=fun z=>by rw [mK z] at aT;cases aT
  rw [mh aB] at aT;have b9:=Rb k j y r aT;by_cases e:p.1=j
  .rw [mK e,mK e,if_neg (fun z=>aB (e.trans z))]
  .rw [mh e,mh e,b9]
theorem MZ (kvs:List (ei × V)) (k j:ei) (y:V):cu (d3 kvs k y) j=if j=k then some y else cu kvs j:=by
 unfold d3;by_cases a:(kvs.any fun df=>decide (df.1=k))=true
 .rw [if_pos a,Pp];rw [vl] at a;by_cases e:j=k
  .obtain ⟨x,ag⟩:=agQ.mp a;rw [if_pos e,e,ag,BM,if_pos rfl]
  .rw [if_neg e];cases cu kvs j with
   | none=>rfl
   | some x=>rw [BM,if_neg e]
 .rw [if_neg a];refine Rb k j y kvs ?_;rw [vl] at a;cases q:cu kvs k with
  | none=>rfl
  | some x=>rw [q] at a;exact (a rfl).elim
theorem EA (kvs:List (ei × V)) (k:ei) (v:V):(d3 kvs k v).length <= kvs.length + 1:=by
 unfold d3;split
 .rw [aU];omega
 .rw [c6,hQ,tX];omega
theorem qC {k:ei} (v:V) (h:cu kvs k=none):d3 kvs k v=kvs ++ [(k,v)]:=by
 unfold d3;rw [vl,h];exact if_neg (by decide)
theorem hD.E_ (r:hD o u):o.isSome=u.isSome:=by
 cases o with
 | none=>cases u with
  | none=>rfl
  | some _=>exact (show False from r).elim
 | some _=>cases u with
  | none=>exact (show False from r).elim
  | some _=>rfl
theorem hD.getD (r:hD o u) (j_:bH d d'):bH (o.getD d) (u.getD d'):=by
 cases o with
 | none=>cases u with
  | none=>exact j_
  | some _=>exact (show False from r).elim
 | some _=>cases u with
  | none=>exact (show False from r).elim
  | some _=>exact r
theorem ez.val (r:ez kvs vs) (k:ei):hD (cu kvs k) (valueAt vs k):=by
 unfold ez at r
 induction r with
 | nil=>exact kQ
 | @cons p q ps qs h t b9=>
  obtain ⟨af,ao⟩:=h;by_cases e:p.1=k
  .have b5:q.1=k:=af.symm.trans e;have b:valueAt (q :: qs) k=some q.2:=by simp [valueAt,rR,b5]
   rw [mK e,b];exact ao
  .have b5:¬ q.1=k:=fun z=>e (af.trans z)
   have b:valueAt (q :: qs) k=valueAt qs k:=by simp [valueAt,rR,b5]
   rw [mh e,b];exact b9
theorem ez.any (r:ez kvs vs) (k:ei):(kvs.any fun df=>decide (df.1=k))=vs.any fun df=>decide (df.1=k):=by
 unfold ez at r
 induction r with
 | nil=>rfl
 | cons h t b9=>rw [ui,ui,b9,h.1]
theorem ez.Hx (r:ez kvs vs) (k:ei) (bj:bH y u) :
  ez (kvs.map fun df=>if df.1=k then (df.1,y) else df) (vs.map fun df=>if df.1=k then (df.1,u) else df):=by
 unfold ez at r ⊢
 induction r with
 | nil=>exact .nil
 | @cons p q ps qs h t b9=>
  rw [eV,eV];refine .cons ?_ b9;obtain ⟨af,ao⟩:=h;by_cases e:p.1=k
  .rw [if_pos e,if_pos (af.symm.trans e)];exact ⟨af,bj⟩
  .rw [if_neg e,if_neg (fun z=>e (af.trans z))];exact ⟨af,ao⟩
theorem ez.put (r:ez kvs vs) (k:ei) (bj:bH y u):ez (d3 kvs k y) (stored vs k u):=by
 unfold d3 stored;rw [r.any k];by_cases e:(vs.any fun df=>decide (df.1=k))=true
 .rw [if_pos e,if_pos e];exact r.Hx k bj
 .rw [if_neg e,if_neg e];exact Ld r ⟨rfl,bj⟩
theorem ez.drop (r:ez kvs vs) (k:ei):ez (p1 kvs k) (without vs k):=by
 unfold ez at r ⊢;unfold p1 without
 induction r with
 | nil=>exact .nil
 | @cons p q ps qs h t b9=>
  obtain ⟨af,ao⟩:=h;rw [aal,aal];by_cases e:p.1=k
  .have a:¬ decide (p.1 ≠ k)=true:=by simp [e]
   have b:¬ decide (q.1 ≠ k)=true:=by simp [af.symm.trans e]
   rw [if_neg a,if_neg b];exact b9
  .have b5:¬ q.1=k:=fun z=>e (af.trans z)
   have a:decide (p.1 ≠ k)=true:=by simp [e]
   have b:decide (q.1 ≠ k)=true:=by simp [b5]
   rw [if_pos a,if_pos b];exact .cons ⟨af,ao⟩ b9
theorem ez.keys {kvs:List (ei × V)} {vs:List (ei × Value)} (r:ez kvs vs):kvs.map (·.1)=vs.map (·.1):=by
 unfold ez at r
 induction r with
 | nil=>rfl
 | cons h t b9=>rw [eV,eV,b9,h.1]
theorem ez.length (r:ez kvs vs):kvs.length=vs.length:=IW r
theorem VL (kvs:List (ei × V)) (k:ei):(p1 kvs k).length <= kvs.length:=Aj _ _
end
theorem rB {w:World} {k:Key} (r:bH (dw k) u):(hV P w).is k u=true:=by
 cases k with
 | inl i=>obtain ⟨t,e⟩:=(show ∃ t,u=oT i t from r);subst e;exact V0 P w i t
 | inr x=>obtain ⟨t,e⟩:=(show ∃ t,u=uV x t from r);subst e;exact Ud P w x t
theorem Oc {w:World}:∀ {cc:List Key} {us:List Value},bY (cc.map dw) us->ItemsAre (hV P w) cc us
 | [],_,r=>by rw [qh] at r;cases r;exact .nil
 | k :: cc,_,r=>by
  rw [eV] at r;cases r with
  | cons h t=>exact .cons (rB h) (Oc t)
noncomputable abbrev KT (H:aq):List (List Key × V)->List (List Key × Addr × Value)->Prop:=Paired fun p q=>p.1=q.1/\H q.2.1=some (.tup (p.1.map dw))/\bH p.2 q.2.2
theorem KT.val (r:KT H kvs xs) (k:List Key):hD (cu kvs k) ((atKey xs k).map (·.2)):=by
 induction r with
 | nil=>exact kQ
 | @cons p q ps qs h t b9=>
  obtain ⟨af,_,ao⟩:=h;by_cases e:p.1=k
  .have b5:q.1=k:=af.symm.trans e;have b:atKey (q :: qs) k=some q.2:=by simp [atKey,rR,b5]
   rw [mK e,b];exact ao
  .have b5:¬ q.1=k:=fun z=>e (af.trans z)
   have b:atKey (q :: qs) k=atKey qs k:=by simp [atKey,rR,b5]
   rw [mh e,b];exact b9
theorem KT.Hx (r:KT H kvs xs) (k:List Key) (bj:bH y u) :
  KT H (kvs.map fun df=>if df.1=k then (df.1,y) else df) (xs.map (putAt k u)):=by
 induction r with
 | nil=>exact .nil
 | @cons p q ps qs h t b9=>
  rw [eV,eV];refine .cons ?_ b9;obtain ⟨af,ao,a_⟩:=h;unfold putAt;by_cases e:p.1=k
  .rw [if_pos e,if_pos (af.symm.trans e)];exact ⟨af,ao,bj⟩
  .rw [if_neg e,if_neg (fun z=>e (af.trans z))];exact ⟨af,ao,a_⟩
theorem KT.put (r:KT H kvs xs) (k:List Key) (ae:H b=some (.tup (k.map dw))) (bj:bH y u) :
  KT H (d3 kvs k y) (storedH xs k b u):=by
 have e:(kvs.any fun df=>decide (df.1=k))=(atKey xs k).isSome:=by
  rw [vl,(r.val k).E_,UN]
 unfold d3 storedH;rw [e];by_cases q:(atKey xs k).isSome=true
 .rw [if_pos q,if_pos q];exact r.Hx k bj
 .rw [if_neg q,if_neg q];exact Ld r ⟨rfl,ae,bj⟩
theorem KT.keeps (r:KT H kvs xs) (cS:∀ b ys,H b=some (.tup ys)->I b=some (.tup ys)):KT I kvs xs:=
 Paired.qb r fun _ _ z=>⟨z.1,cS _ _ z.2.1,z.2.2⟩
section
variable {P:Program} {w:World} {H:aq} {h:Heap} {a:Addr}
theorem QF (ok:ep P w H h) (e:jQ H a u):ek P w H h a u:=e.ok ok
theorem vy (ok:ep P w H h) (e:jQ H a (.bw kvs)):kvs.length <= sizeLine/\(a == sysModules)=false/\∃ vs,ez kvs vs/\h.DictOf (hV P w) a vs:=
 show ek P w H h a (.bw kvs) from QF ok e
theorem wL (ok:ep P w H h) (e:H a=some (.bw kvs)):kvs.length <= sizeLine/\(a == sysModules)=false/\∃ vs,ez kvs vs/\h.DictOf (hV P w) a vs:=vy ok (.inl e)
theorem wZ {cc:List Key} (ok:ep P w H h) (e:H a=some (.tup (cc.map dw))):(tupleKind (hV P w)).is h cc a:=by
 obtain ⟨_,a6,r,o,af,ao,n,a_⟩:=(show ek P w H h a (.tup (cc.map dw)) from ok a _ e);exact ⟨o,a6.toArray,n,af,ao,a_,by simpa using Oc r⟩
theorem uM (ok:ep P w H h) (e:jQ H a (.fU kvs)):kvs.length <= sizeLine/\(a == sysModules)=false /\
  ∃ xs,KT H kvs xs/\h.DictOfH (tupleKind (hV P w)) a xs:=by
 obtain ⟨z,y,xs,r,o,a4,cF,af,ao,a_,cL,ej⟩:=(show ek P w H h a (.fU kvs) from QF ok e);refine ⟨z,y,xs,r,o,a4,cF,af,ao,a_,cL,fun x ag=>?_,ej⟩;have all:∀ {l:List (List Key × V)} {m:List (List Key × Addr × Value)},KT H l m->∀ x ∈ m,(tupleKind (hV P w)).is h x.1 x.2.1:=by
  intro l m q
  induction q with
  | nil=>intro x ag;exact nomatch ag
  | @cons p q ps qs aN t b9=>
   intro x ag;rcases fh.mp ag with e | ag
   .subst e;exact wZ ok (by rw [<- aN.1];exact aN.2.1)
   .exact b9 x ag
 exact all r x ag
theorem RA (ok:ep P w H h) (e:H a=some (.fU kvs)):kvs.length <= sizeLine/\(a == sysModules)=false /\
  ∃ xs,KT H kvs xs/\h.DictOfH (tupleKind (hV P w)) a xs:=uM ok (.inl e)
end
def gb (H:aq) (a:Addr) (y:V) (r:Option V):Prop:=
 (∃ kvs k,jQ H a (.bw kvs)/\y=dw k/\r=cu kvs k)\/∃ kvs k b,jQ H a (.fU kvs)/\y=.ref b/\H b=some (.tup (k.map dw))/\r=cu kvs k
def kv (H:aq) (a:Addr) (y v:V) (I:aq):Prop:=
 (∃ kvs k,H a=some (.bw kvs)/\y=dw k/\kvs.length < sizeLine/\I=upd H a (.bw (d3 kvs k v))) \/
 ∃ kvs k b,H a=some (.fU kvs)/\y=.ref b/\H b=some (.tup (k.map dw))/\kvs.length < sizeLine/\I=upd H a (.fU (d3 kvs k v))
theorem gb.k {k:Key} (e:H a=some (.bw kvs)):gb H a (dw k) (cu kvs k):=.inl ⟨kvs,k,.inl e,rfl,rfl⟩
theorem gb.t {k:List Key} (e:H a=some (.fU kvs)) (fa:H b=some (.tup (k.map dw))):gb H a (.ref b) (cu kvs k):=.inr ⟨kvs,k,b,.inl e,rfl,fa,rfl⟩
theorem kv.k {k:Key} (e:H a=some (.bw kvs)) (aM:kvs.length < sizeLine):kv H a (dw k) v (upd H a (.bw (d3 kvs k v))):=.inl ⟨kvs,k,e,rfl,aM,rfl⟩
theorem kv.t {k:List Key} (e:H a=some (.fU kvs)) (fa:H b=some (.tup (k.map dw))) (aM:kvs.length < sizeLine) :
  kv H a (.ref b) v (upd H a (.fU (d3 kvs k v))):=.inr ⟨kvs,k,b,e,rfl,fa,aM,rfl⟩
section
variable {X:a8} {ab:List (Addr × Obj)} {σ:St} {H:aq} {s:Shared} {a:Addr} {y v:V} {u r:Value} {o:Option V} {A:Around} {E:Value->Shared->Prop}
theorem Inv.big (J:Inv X ab σ H s):sysModules < s.heap.objs.size:=by
 have h:mainGlobals < s.heap.objs.size:=(J.mod.glob.keeps J.cE).lt;exact EC (by decide) h
theorem ahf (bq:A.units + 1 < cLine) (J:Inv X ab σ H s) (g:gb H a y (some v)) (bj:bH y u) (h:∀ d_ aj,Inv X ab σ H aj->bH v d_->Q d_ aj) :
  wpAny (model X.prog X.w) A (getItem (.ref a) u) Q E s:=by
 rcases g with ⟨kvs,k,e,jt,l⟩ | ⟨kvs,k,b,e,jt,fa,l⟩
 .subst jt;obtain ⟨z,hd,vs,rel,d4⟩:=vy J.bo e;obtain ⟨d_,hw,hT⟩:=hD.some_of (v:=v) (o:=valueAt vs k) (by rw [l];exact rel.val k);exact wpAny_getItem_of (rB bj) d4.mapOf hw (h d_ _ (J.tok _) hT)
 .subst jt;cases (show u=fN b from bj);obtain ⟨z,hd,xs,rel,d4⟩:=uM J.bo e;obtain ⟨d_,hw,hT⟩:=hD.some_of (v:=v) (o:=(atKey xs k).map (·.2)) (by rw [l];exact rel.val k);obtain ⟨p,av,hc⟩:=uL.mp hw;refine wpAny_getItem_heap (tupleKind_room_in1 bq) (wZ J.bo fa) d4 av ?_;rw [hc];exact h d_ _ (J.tok _) hT
theorem ae1 (bq:A.units + 1 < cLine) (J:Inv X ab σ H s) (g:gb H a y o) (bj:bH y u) (h:∀ aj,Inv X ab σ H aj->Q (.bool (!o.isSome)) aj) :
  wpAny (model X.prog X.w) A (compareOp .NotIn u (.ref a)) Q E s:=by
 rcases g with ⟨kvs,k,e,jt,l⟩ | ⟨kvs,k,b,e,jt,fa,l⟩
 .subst jt;obtain ⟨z,hd,vs,rel,d4⟩:=vy J.bo e;refine wpAny_notIn_of (rB bj) hd d4.mapOf ?_;rw [<- (rel.val k).E_,<- l];exact h _ (J.tok _)
 .subst jt;cases (show u=fN b from bj);obtain ⟨z,hd,xs,rel,d4⟩:=uM J.bo e;refine wpAny_notIn_heap (tupleKind_room_in1 bq) (wZ J.bo fa) hd d4 ?_;have q:=(rel.val k).E_;rw [UN] at q;rw [<- q,<- l];exact h _ (J.tok _)
theorem Av (J:Inv X ab σ H s) (gq:nP (H a)) (ax:wi a s.heap h') (he:∃ q,h'.get? a=some q) (new:ek X.prog X.w (upd H a bZ) h' a bZ) :
  Inv X ab σ (upd H a bZ) { s with heap:=h',toks:=t' }:=
 J.write (x:=a) (e:=a) gq (.inl rfl) (fun b q ae z=>(ax.2 b ae).trans z) he new
theorem DO {w:World} (z:kvs.length <= sizeLine) (hd:(a == sysModules)=false) (rel:ez kvs vs) (d4:h'.DictOf (hV P w) a vs) :
  ek P w I h' a (.bw kvs):=⟨z,hd,vs,rel,d4⟩
theorem Ty (bq:A.units + 1 < cLine) (J:Inv X ab σ H s) (g:kv H a y v I) (bj:bH y u) (cR:bH v r) (h:∀ aj,Inv X ab σ I aj->Q () aj) :
  wpAny (model X.prog X.w) A (setItem (.ref a) u r) Q E s:=by
 rcases g with ⟨kvs,k,e,jt,l,v8⟩ | ⟨kvs,k,b,e,jt,fa,l,v8⟩
 .subst jt v8;obtain ⟨z,hd,vs,rel,d4⟩:=wL J.bo e;have aQ:vs.length <= sizeLine:=by rw [<- rel.length];exact z
  have aM:(d3 kvs k v).length <= sizeLine:=by have:=EA kvs k v;omega
  refine wpAny_setItem_pairs (hsz:=aQ) (rB bj) d4 fun h' n1 ax=>h _ ?_
  have he:∃ q,h'.get? a=some q:=let ⟨q,_,_,aN,_⟩:=n1;⟨q,aN⟩;exact Av J (by rw [e];exact kQ) ax he (DO aM hd (rel.put k cR) n1)
 .subst jt v8;cases (show u=fN b from bj);obtain ⟨z,hd,xs,rel,d4⟩:=RA J.bo e;have aQ:xs.length <= sizeLine:=by rw [<- IW rel];exact z
  have aM:(d3 kvs k v).length <= sizeLine:=by have:=EA kvs k v;omega
  refine wpAny_setItem_heap (hsz:=aQ) (tupleKind_room_in1 bq) (wZ J.bo fa) d4 fun h' n1 ax=>h _ ?_
  obtain ⟨q,a4,cF,aN,ao,a_,cL,_,ej⟩:=n1;refine Av J (by rw [e];exact kQ) ax ⟨q,aN⟩ ⟨aM,hd,_,(rel.put k fa cR).keeps fun c ys kf=>?_,q,a4,cF,aN,ao,a_,cL,ej⟩;rw [aF (b8 kf e (fun z=>nomatch z))];exact kf
end
section
variable {X:a8} {ab:List (Addr × Obj)} {σ:St} {H:aq} {s:Shared} {a:Addr} {kvs:List (Key × V)} {k:Key} {u:Value} {A:Around} {E:Value->Shared->Prop}
theorem V5 (J:Inv X ab σ H s) (e:H a=some (.bw kvs)) (bj:bH (dw k) u) (l:cu kvs k=some v) (hm:more=[]\/∃ x,more=[x])
  (h:∀ d_ aj,Inv X ab σ (upd H a (.bw (p1 kvs k))) aj->bH v d_->Q d_ aj):wpAny (model X.prog X.w) A (call (.builtin "dict.pop") (.ref a :: u :: more)) Q E s:=by
 obtain ⟨z,hd,vs,rel,d4⟩:=wL J.bo e;obtain ⟨d_,hw,hT⟩:=hD.some_of (v:=v) (o:=valueAt vs k) (by rw [<- l];exact rel.val k);have av:(keyPart u).isSome=true:=by
  cases k with
  | inl i=>obtain ⟨t,q⟩:=(show ∃ t,u=oT i t from bj);subst q;rfl
  | inr x=>obtain ⟨t,q⟩:=(show ∃ t,u=uV x t from bj);subst q;rfl
 have aX:argsOk "dict.pop" ⟨.ref a :: u :: more,[]⟩:=by
  rcases hm with q | ⟨x,q⟩
  .subst q;exact PySem.F.args_dict_pop_2 _ _
  .subst q;exact T5 _ _ _
 refine call_meetsIn QM d4.typeIs WJ aX (meets_dict_pop_there (hV X.prog X.w) a (rB bj) more hm av)
  ⟨vs,d_,d4,by rw [<- rel.length];exact z,hw,fun h' n1 ax=>h d_ _ ?_ hT⟩
 have he:∃ q,h'.get? a=some q:=let ⟨q,_,_,aN,_⟩:=n1;⟨q,aN⟩;exact Av J (by rw [e];exact kQ) ax he (DO (c4 (VL kvs k) z) hd (rel.drop k) n1)
theorem acT (J:Inv X ab σ H s) (e:H a=some (.bw kvs)) (bj:bH (dw k) u) (l:cu kvs k=none) (h:∀ aj,Inv X ab σ H aj->Q r aj) :
  wpAny (model X.prog X.w) A (call (.builtin "dict.pop") [.ref a,u,r]) Q E s:=by
 obtain ⟨z,hd,vs,rel,d4⟩:=wL J.bo e;have aT:valueAt vs k=none:=hD.none_of (by rw [<- l];exact rel.val k);have av:(keyPart u).isSome=true:=by
  cases k with
  | inl i=>obtain ⟨t,q⟩:=(show ∃ t,u=oT i t from bj);subst q;rfl
  | inr x=>obtain ⟨t,q⟩:=(show ∃ t,u=uV x t from bj);subst q;rfl
 exact call_meetsIn QM d4.typeIs WJ (T5 _ _ _) (meets_dict_pop_default (hV X.prog X.w) a (rB bj) hd av r) ⟨vs,d4,aT,h _ (J.tok _)⟩
end
def HB (i:Expr):Prop:=∀ e3 hX,subscripted i false e3 hX=operate [e3,hX] (getItem e3 hX)
theorem LU {prog:Program} {w:World} {A:Around} {E:Value->Shared->Prop} {s:Shared} {env:Env} {value slice:Expr} {pos:Pos} {T id:String} {Q:Value->Shared->Prop}
  (aM:typeLookup (.type T) "__getitem__"=pure (some (.builtin id))) (ax:HB slice)
  (h:wpAny (model prog w) A (eval value env) (fun o dd=>wpAny (model prog w) A (eval slice env) (fun i dT=>dT.TypeIs o T/\wpAny (model prog w) A (getItem o i) Q E dT) E dd) E s) :
  wpAny (model prog w) A (eval (.Subscript value slice pos) env) Q E s:=by
 refine Subscript_ (wpAny_mono h (fun o dd h₁=>wpAny_mono h₁ (fun i dT vf=>?_) fun _ _ x=>x) fun _ _ x=>x);obtain ⟨iO,vf⟩:=vf;unfold subscriptTail;refine wpAny_bind ?_;rw [getitemInPython_of_ne iO.not_modules];refine wpAny_bind (wpAny_specialOf iO aM ?_);have fin:wpAny (model prog w) A (subscripted slice false o i) (fun r lQ=>wpAny (model prog w) A (letTemporaryGo value o r >>= fun _=>pure r) Q E lQ) E dT:=by
  rw [ax o i];exact wpAny_operating (wpAny_mono vf (fun r lQ yY=>wpAny_bind (wpAny_letTemporaryGo (wpAny_pure yY))) fun _ _ x=>x)
 first
  | exact wpAny_pure (wpAny_bind fin)
  | exact wpAny_bind (wpAny_pure (wpAny_bind fin))
  | exact wpAny_bind fin
theorem XZ (J:Inv X ab σ H s) (g:gb H a y o):s.TypeIs (.ref a) "dict" := by
 rcases g with ⟨kvs,k,e,_,_⟩ | ⟨kvs,k,b,e,_,_,_⟩
 .obtain ⟨_,_,vs,_,d4⟩:=vy J.bo e;exact d4.typeIs
 .obtain ⟨_,_,xs,_,d4⟩:=uM J.bo e;exact d4.typeIs
noncomputable def Fu (fR ty:TE):TE:=fun σ H Q=>fR σ H fun x H1=>ty σ H1 fun y az=>e1 x fun a=>∃ v,gb az a y (some v)/\Q v az
noncomputable def Ft (ty fR:TE):TE:=fun σ H Q=>ty σ H fun y H1=>fR σ H1 fun x az=>e1 x fun a=>∃ o,gb az a y o/\Q (.bl (!o.isSome)) az
noncomputable def Et (fR ty fI:TE):ed:=fun D σ H=>fI σ H fun v H1=>fR σ H1 fun x az=>ty σ az fun y bk=>e1 x fun a=>∃ cJ,kv bk a y v cJ/\D.b7 σ cJ
section
variable {X:a8} {o i e value:Expr} {pos pos' AN:Pos} {fR ty fI:TE}
theorem kJ (bq:X.A.units + 1 < cLine) (aS:br X o fR) (ah:br X i ty) (ax:HB i):br X (.Subscript o i pos) (Fu fR ty):=by
 intro ab s σ H Q J h;refine LU Y2.lookup ax (bC (aS ab s σ H _ J h) fun u s1 ⟨x,H1,a3,bb,bL⟩=>bC (ah ab s1 σ H1 _ a3 bL) fun hX s2 bx=>?_);obtain ⟨y,az,bP,bj,gj⟩:=bx;obtain ⟨a,ex,v,g,dO⟩:=e1.out gj;subst ex;obtain rfl:u=fN a:=bb;exact ⟨XZ bP g,ahf bq bP g bj fun d_ s3 es hT=>⟨v,az,es,hT,dO⟩⟩
theorem Pu (bq:X.A.units + 1 < cLine) (ah:br X i ty) (aS:br X o fR):Nl X .NotIn i o (Ft ty fR):=by
 intro ab s σ H Q J h;refine bC (ah ab s σ H _ J h) fun hX s1 ⟨y,H1,a3,bj,bL⟩=>bC (aS ab s1 σ H1 _ a3 bL) fun u s2 bx=>?_
 obtain ⟨x,az,bP,bb,gj⟩:=bx;obtain ⟨a,ex,e3,g,dO⟩:=e1.out gj;subst ex;obtain rfl:u=fN a:=bb;exact ae1 bq bP g bj fun s3 es=>⟨.bl (!e3.isSome),az,es,rfl,dO⟩
theorem tW (bq:X.A.units + 1 < cLine) (aS:br X o fR) (ah:br X i ty) (aK:br X value fI) (ax:swapsWith value (some (.Subscript o i pos')) pos.line X.env=pure false) :
  hI X (.Assign [.Subscript o i pos'] value pos) (Et fR ty fI):=by
 intro ab s σ H D J h;refine wpAny_Assign_Subscript (bC (aK ab s σ H _ J h) fun r s1 ⟨v,H1,a3,cR,bL⟩=>bC (aS ab s1 σ H1 _ a3 bL) fun u s2 ⟨x,az,bP,bb,dO⟩=>bC (ah ab s2 σ az _ bP dO) fun hX s3 bx=>?_) ax;obtain ⟨y,bk,es,bj,gj⟩:=bx;obtain ⟨a,ex,cJ,g,fP⟩:=e1.out gj;subst ex;obtain rfl:u=fN a:=bb;exact Ty bq es g bj cR fun s4 hu=>⟨σ,cJ,hu,fP⟩
end
theorem QA {w:World} (h:Heap) (ae:sysModules < h.objs.size):ek P w H (h.push { cls:=.type "dict",data:=.dict #[] }) h.objs.size (.bw []):=
 ⟨fk _,beq_eq_false_iff_ne.mpr (eg (gz ae)),[],.nil,Heap.DictOf.new h⟩
theorem ahl {w:World} (h:Heap) (ae:sysModules < h.objs.size):ek P w H (h.push { cls:=.type "dict",data:=.dict #[] }) h.objs.size (.fU []):=
 ⟨fk _,beq_eq_false_iff_ne.mpr (eg (gz ae)),[],.nil,_,#[],0,hN _ rfl,⟨rfl,rfl,rfl⟩,rfl,rfl,RY⟩
noncomputable def IT:TE:=fun _ H Q=>∀ p,H p=none->Q (.ref p) (upd H p (.bw []))
noncomputable def CU:TE:=fun _ H Q=>∀ p,H p=none->Q (.ref p) (upd H p (.fU []))
section
variable {X:a8} {pos:Pos}
theorem zU:br X (.Dict [] [] pos) IT:=fun ab s σ H Q J h=>
 wpAny_Dict_empty ⟨.ref s.heap.objs.size,_,J.laid (a:=s.heap.objs.size) (o:=.bw []) (t':=s.toks) (fun _ _ q=>e2 _ q) (bW _) (QA s.heap J.big),rfl,h _ (J.bo.fresh (bW _))⟩
theorem Z0:br X (.Dict [] [] pos) CU:=fun ab s σ H Q J h=>
 wpAny_Dict_empty ⟨.ref s.heap.objs.size,_,J.laid (a:=s.heap.objs.size) (o:=.fU []) (t':=s.toks) (fun _ _ q=>e2 _ q) (bW _) (ahl s.heap J.big),rfl,h _ (J.bo.fresh (bW _))⟩
end
noncomputable def qD:List (TE × TE)->St->aq->(List (V × V)->aq->Prop)->Prop
 | [],_,H,Q=>Q [] H
 | (tk,fI) :: r,σ,H,Q=>tk σ H fun x H1=>fI σ H1 fun y az=>qD r σ az fun ps bk=>Q ((x,y) :: ps) bk
noncomputable abbrev Rd:List (V × V)->List (Value × Value)->Prop:=Paired fun p q=>bH p.1 q.1/\bH p.2 q.2
def yp (X:a8) (pos:Pos) (keys:List (Option Expr)) (values:List Expr) (qJ:List (TE × TE)):Prop:=
 ∀ (ab:List (Addr × Obj)) (s:Shared) (σ:St) (H:aq) (Q:List (V × V)->aq->Prop),Inv X ab σ H s->qD qJ σ H Q ->
  wpAny (model X.prog X.w) X.A (evalPairs (pairTrees keys values X.env pos)) (fun vs aj=>∃ ps I,Inv X ab σ I aj/\Rd ps vs/\Q ps I) X.dF s
theorem Bv:yp X pos [] [] []:=fun ab s σ H Q J h=>pairTrees_nil_walk ⟨[],H,J,.nil,h⟩
theorem Uf {k v:Expr} {cc:List (Option Expr)} (aB:br X k tk) (aK:br X v fI) (ak:yp X pos cc vs qJ) :
  yp X pos (some k :: cc) (v :: vs) ((tk,fI) :: qJ):=fun ab s σ H Q J h=>
 pairTrees_cons_walk (bC (aB ab s σ H _ J h) fun u s1 ⟨x,H1,a3,bb,bL⟩=>bC (aK ab s1 σ H1 _ a3 bL) fun dZ s2 ⟨y,az,bP,bj,dO⟩=>
  bC (ak ab s2 σ az _ bP dO) fun ws s3 ⟨ps,bk,es,rel,fP⟩=>⟨(x,y) :: ps,bk,es,.cons ⟨bb,bj⟩ rel,fP⟩)
noncomputable def i3 (kvs more:List (Key × V)):List (Key × V):=more.foldl (fun acc df=>d3 acc df.1 df.2) kvs
theorem ez.merge:∀ {more:List (Key × V)} {rs:List (Key × Value)} {kvs:List (Key × V)} {vs:List (Key × Value)},ez more rs->ez kvs vs->ez (i3 kvs more) (merged vs rs):=by
 intro more rs kvs vs r;unfold ez at r
 induction r generalizing kvs vs with
 | nil=>intro q;exact q
 | @cons p q ps qs h t b9=>
  intro vZ;have e:ez (d3 kvs p.1 p.2) (stored vs q.1 q.2):=by
   have:=vZ.put p.1 h.2;rw [<- h.1];exact this
  exact b9 e
theorem Kh:∀ (more kvs:List (Key × V)),(i3 kvs more).length <= kvs.length + more.length
 | [],kvs=>by show kvs.length <= kvs.length + 0;omega
 | p :: r,kvs=>by
  have af:=Kh r (d3 kvs p.1 p.2);have ao:=EA kvs p.1 p.2;show (i3 (d3 kvs p.1 p.2) r).length <= _;rw [hQ];omega
theorem JN {w:World}:∀ {kvs:List (Key × V)} {ws:List (Value × Value)},Rd (kvs.map fun df=>(dw df.1,df.2)) ws->∃ rs,Carries (hV P w) ws rs/\ez kvs rs
 | [],_,r=>by rw [qh] at r;cases r;exact ⟨[],kQ,.nil⟩
 | p :: kvs,_,r=>by
  rw [eV] at r;cases r with
  | @cons a b as bs h t=>
   obtain ⟨rs,c,q⟩:=JN (P:=P) (w:=w) t;obtain ⟨e_,ec⟩:=b;exact ⟨(p.1,ec) :: rs,⟨rB h.1,rfl,c⟩,.cons ⟨rfl,h.2⟩ q⟩
noncomputable def XL (qJ:List (TE × TE)):TE:=fun σ H Q=>∀ p,H p=none->qD qJ σ (upd H p (.bw [])) fun ps az=>az p=some (.bw [])/\∃ kvs:List (Key × V),ps=kvs.map (fun df=>(dw df.1,df.2))/\kvs.length <= 15/\Q (.ref p) (upd az p (.bw (i3 [] kvs)))
theorem AZ {keys:List (Option Expr)} (h:yp X pos keys values qJ) (n9:keys.all (·.isSome)=true) (aM:keys.length=values.length) (h0:keys ≠ [])
  (aaN:keys.length <= 15):br X (.Dict keys values pos) (XL qJ):=by
 intro ab s σ H Q J q;have aT:=J.bo.fresh (bW s.heap.objs.size);have a3:=J.laid (a:=s.heap.objs.size) (o:=.bw []) (h':=s.heap.push { cls:=.type "dict",data:=.dict #[] }) (t':=s.toks) (fun _ _ q=>e2 _ q) (bW _) (QA s.heap J.big);refine wpAny_Dict_walk (knd:=hV X.prog X.w) n9 aM h0 aaN (bC (h ab _ σ _ _ a3 (q _ aT)) fun ws s2 bx=>?_);obtain ⟨ps,az,bP,rel,e,kvs,cF,lk,dO⟩:=bx;subst cF;obtain ⟨rs,c,F4⟩:=JN (P:=X.prog) (w:=X.w) rel;obtain ⟨z,hd,SX,vZ,d4⟩:=wL bP.bo e;cases vZ;refine ⟨rs,c,d4,fun h' n1 ax=>⟨.ref s.heap.objs.size,_,?_,rfl,dO⟩⟩;have aQ:(i3 [] kvs).length <= sizeLine:=by
  have af:=Kh kvs [];rw [tX] at af;rw [sizeLine_eq];omega
 have he:∃ q,h'.get? s.heap.objs.size=some q:=let ⟨q,_,_,aN,_⟩:=n1;⟨q,aN⟩;exact Av bP (by rw [e];exact kQ) ax he (DO aQ hd (F4.merge .nil) n1)
structure akM (X:a8) (o:Expr) (m:Str) (fW:Pos) (e:Expr) (ig:Pos):Prop where
 base:attributeBase o m X.env (eval o X.env)=eval o X.env
 O8:((backTo ig (starEach [e] X.env)).all (fun x=>!x.1) && (backToKw ig (keywordEach [] X.env)).all (fun x=>x.1.isSome)
  && decide (([e]:List Expr).length + ([]:List Keyword).length + (if ([]:List Keyword).isEmpty then 0 else 1) < 30))=true
 line:(fW.endLine == ig.line)=true
 trees:backTo ig (starEach [e] X.env)=[(false,eval e X.env)]
structure M2 (X:a8) (o:Expr) (m:Str) (fW:Pos) (e f:Expr) (ig:Pos):Prop where
 base:attributeBase o m X.env (eval o X.env)=eval o X.env
 O8:((backTo ig (starEach [e,f] X.env)).all (fun x=>!x.1) && (backToKw ig (keywordEach [] X.env)).all (fun x=>x.1.isSome)
  && decide (([e,f]:List Expr).length + ([]:List Keyword).length + (if ([]:List Keyword).isEmpty then 0 else 1) < 30))=true
 line:(fW.endLine == ig.line)=true
 trees:backTo ig (starEach [e,f] X.env)=[(false,eval e X.env),(false,eval f X.env)]
def B9 (H:aq) (a:Addr):Prop:=(∃ kvs,jQ H a (.bw kvs))\/∃ kvs,jQ H a (.fU kvs)
theorem Xf (J:Inv X ab σ H s) (d:B9 H a) :
  s.TypeIs (.ref a) "dict" /\ (∀ b,fN a=.ref b->∃ bZ,s.heap.get? b=some bZ/\bZ.dict=none)/\(a == sysModules)=false:=by
 rcases d with ⟨kvs,e⟩ | ⟨kvs,e⟩
 .obtain ⟨_,hd,vs,_,d4⟩:=vy J.bo e;refine ⟨d4.typeIs,fun b q=>?_,hd⟩;cases q;obtain ⟨bZ,_,_,af,ao,_⟩:=d4;exact ⟨bZ,af,ao.2.1⟩
 .obtain ⟨_,hd,xs,_,d4⟩:=uM J.bo e;refine ⟨d4.typeIs,fun b q=>?_,hd⟩;cases q;obtain ⟨bZ,_,_,af,ao,_⟩:=d4;exact ⟨bZ,af,ao.2.1⟩
section
variable {X:a8} {ab:List (Addr × Obj)} {σ:St} {H:aq} {s:Shared} {a:Addr} {y d:V} {u r:Value} {o:Option V} {A:Around} {E:Value->Shared->Prop}
end
noncomputable def PB (fR ty qN:TE):TE:=fun σ H Q=>fR σ H fun x H1=>∃ a,x=.ref a/\B9 H1 a/\ty σ H1 fun y az=>qN σ az fun z bk=>∃ kvs k,bk a=some (.bw kvs)/\y=dw k /\
 (∀ v,cu kvs k=some v->Q v (upd bk a (.bw (p1 kvs k))))/\(cu kvs k=none->Q z bk)
section
variable {X:a8} {o e f:Expr} {fW ig:Pos} {fR ty qN:TE}
theorem TV (aS:br X o fR) (he:br X e ty) (hf:br X f qN) (m:M2 X o "pop" fW e f ig):br X (.Call (.Attribute o "pop" fW) [e,f] [] ig) (PB fR ty qN):=by
 intro ab s σ H Q J h;refine wpAny_Call_method m.base m.O8 m.line PySem.F.plainAttrs_dict QM PySem.F.type_dict_pop (bC (aS ab s σ H _ J h) fun u s1 bx=>?_);obtain ⟨x,H1,a3,bb,a,ex,d,bL⟩:=bx;subst ex;obtain rfl:u=fN a:=bb;obtain ⟨t1,gn,_⟩:=Xf a3 d;refine ⟨t1,gn,?_⟩;rw [m.trees];refine aap rfl (Zn (Lm (bC (he ab s1 σ H1 _ a3 bL) fun hX s2 ⟨y,az,bP,bj,dO⟩=>
  Lm (bC (hf ab s2 σ az _ bP dO) fun Wh s3 ⟨z,bk,es,G9,kvs,k,g_,jt,fP,nM⟩=>aim ?_))))
 subst jt;cases l:cu kvs k with
 | some v=>exact V5 es g_ bj l (.inr ⟨Wh,rfl⟩) fun d_ s4 hu hT=>⟨v,_,hu,hT,fP v l⟩
 | none=>exact acT es g_ bj l fun s4 hu=>⟨z,bk,hu,G9,nM l⟩
end
section
variable {X:a8} {ab:List (Addr × Obj)} {σ:St} {H:aq} {s:Shared} {a:Addr} {kvs:List (Key × V)} {A:Around} {E:Value->Shared->Prop}
end
section
variable {X:a8} {ab:List (Addr × Obj)} {σ:St} {H:aq} {s:Shared} {a:Addr} {y:V} {u:Value} {A:Around} {E:Value->Shared->Prop}
end
end L2
namespace Mv
open PySem PySem.W PySem.Calls PyProof.Rows
theorem Yb {h:Heap}:∀ (ns:List Int) (vs:List Value),WellAll P h vs (ns.map acX)->IntsAre vs ns:=by
 intro ns
 induction ns with
 | nil=>
  intro vs w;rw [qh] at w;cases w;exact .nil
 | cons n ns b9=>
  intro vs w;rw [eV] at w;cases w with
  | cons a b=>
   cases a;exact .cons _ _ (b9 _ b)
theorem V2 {l:OpenLaw} {n:Nat} (aT:l.most=some n) {P:Params} {h:Heap} {args:List WData} {H9:List Value}
  (zT:l.row.toRowW.claim.pre args=true) (gL:WellAll P h H9 args) :
  ∃ a vs ns,H9=[fN a]/\args=[WData.list (ns.map acX)]/\h.get? a=some { cls:=.type "list",data:=.seq vs.toArray }/\IntsAre vs ns/\ns.length <= n:=by
 have fD:WShape.hasAll [] args [.list .int]=true:=(pre_splitW zT).1;have aw:l.pre.holds [] { args:=args }=true:=(pre_splitW zT).2;obtain ⟨d,r,rfl,af,ao⟩:=hasAllW_cons fD;obtain rfl:=hasAllW_nil ao;obtain ⟨xs,rfl,a_⟩:=hasW_list af;obtain ⟨ns,rfl⟩:=items_int a_;have hlen:ns.length <= n:=by
  unfold OpenLaw.pre at aw;have cL:(WTm.not (.lt (.lit (.int (n:Int))) (.len (.arg 0)))).holds [] { args:=[.list (ns.map .int)] }=true:=by
   have cL:=(holds_andW aw).1;rw [aT] at cL;exact cL
  have ej:=condW_of cL (w_not (w_lt w_lit (w_len_list (w_arg rfl))));rw [aU] at ej;refine Nat.le_of_not_lt fun q=>?_
  have ef:(n:Int) < ((ns.length:Nat):Int):=by omega
  first
   | (rw [decide_eq_true ef] at ej;exact absurd ej (by decide))
   | (simp at ej;omega)
 cases gL with
 | cons dk dZ=>
  cases dZ;cases dk with
  | list aS n9=>exact ⟨_,_,ns,rfl,rfl,aS,Yb ns _ n9,hlen⟩
theorem TX (l:OpenLaw) (args:List WData):l.row.toRowW.claim.post args (.bool true) args=true:=
 postW_of (r:=l.row.toRowW) (X:=(true == true))
  (show abf [] (.bool true) .bool=true by first | rfl | decide | simp [abf,WShape.arms,WShape.armsAll])
  (show (WTm.eq .res (.lit (.bool true))).value [] { args:=args,res:=some (.bool true),after:=args }=some (.bool (true == true)) from w_eq_bool (w_res rfl) w_lit) rfl
theorem Va {l:OpenLaw} {n:Nat} {q:Program} {loose:List Str} {Br:(Str->Option Value)->Heap->Prop} {s6:World->Heap->Prop} {d:DefRec}
  (aT:l.most=some n) (Gy:d.params.defaults=[])
  (call:∀ (w:World) (fs dd:Shared) (mg lR:Str->Option Value) (fZ:Addr) (o:Obj) (pm cd doc:Value) (a:Addr) (vs:List Value) (ns:List Int),
   Ground q loose [] Br w fs mg lR dd.heap->s6 w dd.heap ->
   dd.heap.get? fZ=some o->o.data=.func (docDef d.name d.params d.body d.scope pm cd doc)->dd.heap.CodeRec cd d.name->mg d.name=some (.ref fZ) ->
   dd.heap.get? a=some { cls:=.type "list",data:=.seq vs.toArray }->IntsAre vs ns->ns.length <= n->dd.gens=#[] ->
   codeAny (model l.prog w) callerA (.call (.ref fZ) ⟨[.ref a],[]⟩) (fun r aj=>r=.ok (.ret (.bool true))/\OldK dd.heap aj.heap/\aj.os=dd.os/\AllBare aj.gens) dd) :
  WalkO q loose Br s6 l.row.toRowW d [] (fun f vs=>Ux f vs):=by
 intro w fs dd mg lR G Y fZ o pm cd doc A' dw aS hd kl bJ vu bg args H9 as zT aj9 ajL gL nX;obtain rfl:A'=.none:=Dflts.none bJ Gy;obtain rfl:dw=.none:=Dflts.noKw bJ;obtain ⟨a,vs,ns,rfl,rfl,CC,hints,hlen⟩:=V2 aT zT gL;refine enter_call (codeAny_mono (call w fs dd mg lR fZ o pm cd doc a vs ns G Y aS (fd_plain hd) kl vu CC hints hlen bg) fun r aj aN=>?_);obtain ⟨rfl,ao,a_,cL⟩:=aN;exact ⟨.inl ⟨.bool true,.bool true,[],rfl,fun _=>rfl,.bool true,TX l _,fun _=>⟨ajZ,fun _ hm=>(nomatch hm)⟩⟩,ao,a_,cL⟩
section
variable {prog:Program} {w:World} {A:Around} {E:Value->Shared->Prop} {s:Shared} {K:Frag}
end
end Mv
namespace L2
open PySem PySem.Spec PyProof.Rows
theorem Mp:∀ {vs:List Value} {ns:List Int},IntsAre vs ns->bY (ns.map V.int) vs
 | _,_,.nil=>.nil
 | _,_,.cons n t h=>.cons ⟨t,rfl⟩ (Mp h)
noncomputable abbrev Ib {K:ba} {h:Heap} (_:K.In h):ba:=K
noncomputable def eW (s:Stmt) (j:Nat):Stmt:=match s with
 | .ClassDef _ _ _ body _ _ _ _ _ _ _=>body.getD j (.Pass ⟨0,0,0,0⟩)
 | _=>.Pass ⟨0,0,0,0⟩
noncomputable def y9 (s:Stmt):Arguments:=match s with
 | .FunctionDef _ a _ _ _ _ _ _ _ _=>a
 | _=>{ posonlyargs:=[],args:=[],vararg:=none,kwonlyargs:=[],kw_defaults:=[],kwarg:=none,defaults:=[] }
noncomputable def qx (s:Stmt):List Stmt:=match s with
 | .FunctionDef _ _ b _ _ _ _ _ _ _=>b
 | _=>[]
noncomputable def bz (s:Stmt):Scope:=match s with
 | .FunctionDef _ _ _ _ _ _ sc _ _ _=>sc
 | _=>{ kind:=.function,names:=[],isGenerator:=false,isCoroutine:=false }
noncomputable abbrev dz:jx:=fun _ _ _ _ _ _=>False
noncomputable abbrev CB:fQ:=fun _ _ _=>False
theorem cO:oB dz X CB:=fun _ _ _ _ _ _ _ h=>h.elim
structure b' (K:ba) (x qual:Str) (st:Stmt) (f:Addr) (fd:FuncData):Prop where
 ex:∃ (mW:Value) (dp:Option Addr) (dw doc pm:Value) (an:Option Addr) (fl eI:Value) (rq:Array (Option Value)),
  fd=v9 x qual (y9 st) (qx st) (bz st) .none dw doc pm an fl eI/\K.lookup f=some ⟨mW,dp,.func fd,rq⟩/\LD K fl qual=true
 bK:qS K (.ref f)=true
section
variable {P:Program} {w:World} {K:ba} {mg:Str->Option Value} {base:Heap}
theorem b'.ok {x qual:Str} {st:Stmt} {fd:FuncData} {N ps:List Str} {k:Nat} (F:b' K x qual st f fd) (S:cq N ps (bz st)) (len:∀ vs H Q E,sp vs H Q E->vs.length=ps.length)
  (n5:∀ (fl:Value) (A:Around) (outer:List Env) (s:Shared) (H:aq) (vs:List V) (Q:cW) (E:fQ),ee k (A.deeper (envOfC qual (bz st) s.heap.objs.size f fl))->sp vs H Q E ->
   ∃ t,kq (p3 dz P w K mg base N qual (bz st) f fl A outer s H E).k9 (qx st) t/\t { b7:=fun _ I=>Q .bU I,kK:=Q } (start N vs) H):cH P w K mg base dz (k + 1) f fd ps sp:=by
 obtain ⟨mW,dp,dw,doc,pm,an,fl,eI,rq,rfl,lk,kl⟩:=F.ex;refine Rm lk kl S len fun A outer s H vs Q E ak nf=>?_
 obtain ⟨t,h,q⟩:=n5 fl A outer s H vs Q E ak nf;exact ⟨t,h.k9,q⟩
theorem b'.binds {x qual:Str} {st:Stmt} {fd:FuncData} (F:b' K x qual st f fd)
  (h:∀ (dw doc pm:Value) (an:Option Addr) (fl eI:Value) (us:List Value),us.length=ps.length->bindArgs (v9 x qual (y9 st) (qx st) (bz st) .none dw doc pm an fl eI) ⟨us,[]⟩=pure (ps.zip us)):b1 K fd ps []:=by
 obtain ⟨mW,dp,dw,doc,pm,an,fl,eI,rq,rfl,lk,kl⟩:=F.ex;exact .all (h dw doc pm an fl eI)
theorem ab8 {x qual:Str} {st:Stmt} {dw doc pm fl eI:Value} (l:K.lookup f=some ⟨mW,dp,.func (v9 x qual (y9 st) (qx st) (bz st) .none dw doc pm an fl eI),rq⟩)
  (c:LD K fl qual=true) (k:qS K (.ref f)=true):b' K x qual st f (v9 x qual (y9 st) (qx st) (bz st) .none dw doc pm an fl eI):=⟨⟨mW,dp,dw,doc,pm,an,fl,eI,rq,rfl,l,c⟩,k⟩
end
def agt (A:Around):Prop:=A.units + 1 < cLine
def Tj (A:Around):Prop:=A.units + 64 < cLine
theorem Xi {A:Around} {k:Nat} (ak:ee k A):Tj A:=ak.units
theorem g7 {A:Around} {k:Nat} (ak:ee k A):agt A:=hp (Nat.add_le_add_left (by decide:1 <= 64) _) ak.units
section
variable {X:a8}
theorem U (i:Nat) {x:Str} (bu:X.N[i]? = some x:=by rfl) (aK:A3 X.env.scope x:=by first | exact oQ rfl | exact mM (oQ rfl) | exact mM (mM rfl)) (hd:(x == ("__debug__" : Str))=false:=by decide)
  (kl:(x == ("__classdict__" : Str))=false:=by decide):br X (.Name x pos) (yF i):=ac7 bu aK hd kl
end
def ac (H I:aq):Prop:=∀ b o,H b=some o->I b=some o
theorem ac.refl (H:aq):ac H H:=fun _ _ h=>h
theorem ac.trans (a:ac H H1) (b:ac H1 az):ac H az:=fun c o h=>b c o (a c o h)
theorem ac.free (e:ac H I) (h:I l=si):H l=si:=by
 cases q:H l with
 | none=>rfl
 | some o=>
  rw [e l o q] at h;cases h
theorem ac.seq {K:ba} (e:ac H I) (h:aD K H a xs):aD K I a xs:=by
 rcases h with (h | ⟨o,h⟩) | h
 .exact .inl (.inl (e _ _ h))
 .exact .inl (.inr ⟨o,e _ _ h⟩)
 .exact .inr h
section
variable {ei:Type} [DecidableEq ei]
end
end L2
set_option maxHeartbeats 4000000
namespace L2
open PySem PySem.Spec PyProof.Rows
noncomputable def i7 (cells:List (Str × Addr)):List (Str × NameKind)->List (Str × Addr)->List (Str × Addr)
 | [],acc=>acc
 | (n,k) :: r,acc=>if k == .free then (match cells.lookup n with | some c=>i7 cells r ((n,c) :: acc) | none=>i7 cells r acc) else i7 cells r acc
theorem Hq {env:Env}:∀ (names:List (Str × NameKind)) (acc:List (Str × Addr)),(∀ y ∈ names,y.2=.free->∃ c,env.cells.lookup y.1=some c) ->
  (forIn names acc (fun (x:Str × NameKind) (cs:List (Str × Addr))=>(if (x.2 == .free)=true then do let a <- cellOf env x.1;pure (uO ((x.1,a) :: cs)) else pure (uO cs):Sem (ForInStep (List (Str × Addr))))))=pure (i7 env.cells names acc)
 | [],acc,_=>rfl
 | (n,k) :: r,acc,h=>by
  have ak:∀ y ∈ r,y.2=.free->∃ c,env.cells.lookup y.1=some c:=fun y a7=>h y (hL _ a7)
  rw [List.forIn_cons];by_cases aB:(k == qi)=true
  .have e:k=.free:=by simpa using aB
   obtain ⟨c,aw⟩:=h (n,k) l4 e;have AQ:env.cells.lookup n=some c:=aw;simp only [i7,aB,if_true,AQ,cellOf];exact Hq r _ ak
  .simp only [i7,aB];exact Hq r _ ak
theorem NY {env:Env} (h:∀ y ∈ scope.names,y.2=.free->∃ c,env.cells.lookup y.1=some c):closureFor scope env=pure (i7 env.cells scope.names []):=by
 unfold closureFor;exact congrArg (fun t=>t >>= pure) (Hq scope.names [] h)
theorem xp {cells:List (Str × Addr)}:∀ (names:List (Str × NameKind)) (acc:List (Str × Addr)) {x:Str} {c:Addr},(i7 cells names acc).lookup x=some c->acc.lookup x=some c\/cells.lookup x=some c
 | [],acc,x,c,h=>.inl h
 | (n,k) :: r,acc,x,c,h=>by
  unfold i7 at h;split at h
  .cases q:cells.lookup n with
   | none=>rw [q] at h;exact xp r acc h
   | some d=>
    rw [q] at h;rcases xp r _ h with z | z
    .rw [kk] at z;by_cases ag:(x == n)=true
     .rw [ag] at z;have e:x=n:=by simpa using ag
      subst e
      right;rw [q];exact z
     .have ey:(x == n)=false:=by simpa using ag
      rw [ey] at z;exact .inl z
    .exact .inr z
  .exact xp r acc h
theorem Am {cells:List (Str × Addr)}:∀ (names:List (Str × NameKind)) (acc:List (Str × Addr)) {x:Str} {c:Addr},acc.lookup x=some c->cells.lookup x=some c->(i7 cells names acc).lookup x=some c
 | [],acc,x,c,h,_=>h
 | (n,k) :: r,acc,x,c,h,aw=>by
  unfold i7;split
  .cases q:cells.lookup n with
   | none=>exact Am r acc h aw
   | some d=>
    refine Am r _ ?_ aw;rw [kk];by_cases ag:(x == n)=true
    .have e:x=n:=by simpa using ag
     subst e;rw [ag];rw [q] at aw;exact aw
    .have ey:(x == n)=false:=by simpa using ag
     rw [ey];exact h
  .exact Am r acc h aw
theorem vN {cells:List (Str × Addr)}:∀ (names:List (Str × NameKind)) (acc:List (Str × Addr)) {x:Str} {c:Addr},(x,qi) ∈ names->cells.lookup x=some c->(i7 cells names acc).lookup x=some c
 | [],_,_,_,h,_=>nomatch h
 | (n,k) :: r,acc,x,c,h,aw=>by
  rcases fh.mp h with e | h
  .cases e;unfold i7;rw [if_pos (by decide),aw];refine Am r _ ?_ aw;rw [kk];simp
  .unfold i7;split
   .cases q:cells.lookup n with
    | none=>exact vN r acc h aw
    | some d=>exact vN r _ h aw
   .exact vN r acc h aw
theorem Dh:∀ {l:List (Str × α)} {x:Str} {a:α},l.lookup x=some a->(x,a) ∈ l
 | [],_,_,h=>by simp at h
 | (n,b) :: r,x,a,h=>by
  rw [kk] at h;by_cases ag:(x == n)=true
  .have e:x=n:=by simpa using ag
   subst e;rw [ag] at h;have aI:b=a:=dh h;subst aI;exact l4
  .have ey:(x == n)=false:=by simpa using ag
   rw [ey] at h;exact hL _ (Dh h)
theorem acR {env:Env} {x:Str} {k:NameKind} (h:(relabel scope env).names.lookup x=some k) (aB:k=.cell\/k=.free) (aw:∀ y ∈ scope.names,y.2 ≠ .cell):(x,qi) ∈ scope.names:=by
 have af:=Dh h;obtain ⟨⟨n,j⟩,hm,e⟩:=cp.mp af;have b5:(if (j == qi && env.scope.kind == .function && env.kindOf n == some .cell)=true then (n,Qc) else (n,j))=(x,k):=e;split at b5
 .rename_i M_;have au:n=x:=(J_ b5).1;subst au;have aO:j=.free:=by
   simp only [hy] at M_;simpa using M_.1.1
  subst aO;exact hm
 .have au:n=x:=(J_ b5).1;have aI:j=k:=(J_ b5).2;subst au;subst aI;rcases aB with z | z
  .exact absurd z (aw _ hm)
  .subst z;exact hm
theorem WT {env:Env} {x:Str} (h:scope.names.lookup x=some .free):(relabel scope env).names.lookup x=some .cell\/(relabel scope env).names.lookup x=some .free:=by
 have all:∀ (names:List (Str × NameKind)),names.lookup x=some .free ->
   (names.map fun (n,k)=>if (k == qi && env.scope.kind == .function && env.kindOf n == some .cell) then (n,Qc) else (n,k)).lookup x=some .cell \/
   (names.map fun (n,k)=>if (k == qi && env.scope.kind == .function && env.kindOf n == some .cell) then (n,Qc) else (n,k)).lookup x=some .free:=by
  intro names
  induction names with
  | nil=>intro h;simp at h
  | cons p r b9=>
   obtain ⟨n,k⟩:=p;intro h;rw [eV];by_cases ag:(x == n)=true
   .simp only [kk,ag] at h;have aB:k=.free:=dh h;subst aB;by_cases aw:(qi == qi && env.scope.kind == .function && env.kindOf n == some .cell)=true
    .left;simp only [if_pos aw,kk,ag]
    .right;simp only [if_neg aw,kk,ag]
   .have ey:(x == n)=false:=by simpa using ag
    simp only [kk,ey] at h;by_cases aw:(k == qi && env.scope.kind == .function && env.kindOf n == some .cell)=true
    .simp only [if_pos aw,kk,ey];exact b9 h
    .simp only [if_neg aw,kk,ey];exact b9 h
 exact all scope.names h
noncomputable abbrev a8.block (X:a8) (scope:Scope) (C:Addr) (N:List Str) (s:Shared) (H:aq) (bt:List Addr):a8 where
 prog:=X.prog
 w:=X.w
 K:=X.K
 mg:=X.mg
 base:=X.base
 A:=X.A
 N:=N
 fs:=s
 p5:=H
 env:=compEnvC scope (i7 X.env.cells scope.names []) C X.env
 outer:=X.stack
 stack:=X.stack
 ex:=bt
 fn:=fun _=>false
 calm:=X.calm
 d7:=[]
 dF:=fun _ _=>False
structure o7 (env:Env) (scope:Scope):Prop where
 kind:scope.kind=.function
 sf:∀ y ∈ scope.names,y.2 ≠ .cell
 fr:∀ y ∈ scope.names,y.2=.free->env.kindOf y.1=some .cell\/env.kindOf y.1=some .free
 loc:∀ x ∈ scope.names,x.2=.local->scope.names.lookup x.1=some .local
noncomputable def mc (sel:List (Option Nat)) (σ:St):St:=sel.map fun o=>o.bind fun j=>(σ[j]?).join
def uP (M:List Str) (scope:Scope) (N:List Str) (sel:List (Option Nat)):Prop:=
 sel.length=N.length/\∀ (i j:Nat) (x:Str),sel[i]? = some (some j)->N[i]? = some x->M[j]? = some x/\scope.names.lookup x=some .free
section
variable {X:a8} {ab:List (Addr × Obj)} {σ:St} {H:aq} {s:Shared} {scope:Scope} {bt:List Addr} {C:Addr} {N:List Str}
theorem o7.cells (S:o7 X.env scope) (ok:X.Ok):∀ y ∈ scope.names,y.2=.free->∃ c,X.env.cells.lookup y.1=some c:=fun y a7 e=>ok.has y.1 (S.fr y a7 e)
theorem sw {x:Str} (h:(i7 X.env.cells scope.names []).lookup x=some c):X.env.cells.lookup x=some c:=by
 rcases xp _ _ h with z | z
 .simp at z
 .exact z
theorem O4 (J:Inv X ab σ H s) (S:o7 X.env scope) (hf:∀ b ∈ bt,jo X ab H b) (ax:∀ b ∈ bt,b < s.heap.objs.size) (dg:s.heap.objs.size <= C):(X.block scope C N s H bt).Ok where
 mod:=J.ok.mod
 kind:=S.kind
 glob:=J.ok.glob
 blt:=J.ok.blt
 above:=dg
 inj:=fun x y c af ao=>J.ok.inj x y c (sw af) (sw ao)
 has:=fun x h=>by
  have aB:∃ k,(relabel scope X.env).names.lookup x=some k/\(k=.cell\/k=.free):=by
   rcases h with h | h
   .exact ⟨_,h,.inl rfl⟩
   .exact ⟨_,h,.inr rfl⟩
  obtain ⟨k,af,ao⟩:=aB;have hm:=acR af ao S.sf;obtain ⟨c,aw⟩:=S.cells J.ok _ hm rfl;exact ⟨c,vN _ _ hm aw⟩
 pD:=fun _ _ h _=>nomatch h
 hd:=J.ok.hd
 frames:=J.ok.frames
 qU:=.inl rfl
 ux:=fun b ae=>⟨gz (hC (ax b ae) dg),fun x c e=>(hf b ae).2.2.2.2.1 x c (sw e)⟩
 bs:=J.bs
 kc:=c4 J.ok.kc J.mQ
 pW:=fun b o e ae=>by
  rcases (hf b ae).2.2.2.1 with z | z
  .exact J.ok.pW b o e z
  .exact absurd (hC (hC (eA e) J.ok.kc) z) (nA _)
 o4:=fun b ae aQ=>by
  rcases fh.mp (J.AW b aQ) with z | z
  .exact (hf b ae).2.1 z
  .exact (hf b ae).2.2.1 z
 jO:=J.stack
 mJ:=J.EZ
theorem Z5 (J:Inv X ab σ H s) (S:o7 X.env scope) (hf:∀ b ∈ bt,jo X ab H b) (ax:∀ b ∈ bt,b < s.heap.objs.size) (dg:s.heap.objs.size <= C)
  (k:∀ b o,s.heap.get? b=some o->h'.get? b=some o) (aT:h'.Ns C m) (ph:uP X.N scope N sel):Inv (X.block scope C N s H bt) [] (mc sel σ) H { s with heap:=h',toks:=t' } where
 ok:=O4 J S hf ax dg
 os:=rfl
 bare:=J.bare
 base:=eY.kept k
 loc:=by
  refine ⟨m,aT,fun i x v au aI bO=>?_⟩;obtain ⟨m0,oq,aM⟩:=J.loc;obtain ⟨j,GC,ah3⟩:∃ j,sel[i]? = some (some j)/\σ[j]? = some (some v):=by
   unfold mc at aI;rw [dm] at aI;cases q:sel[i]? with
   | none=>rw [q] at aI;cases aI
   | some o=>
    rw [q] at aI;cases o with
    | none=>cases aI
    | some j=>
     refine ⟨j,rfl,?_⟩;have zY:(σ[j]?).join=some v:=dh aI;cases r:σ[j]? with
     | none=>rw [r] at zY;cases zY
     | some z=>rw [r] at zY;exact congrArg some zY
  obtain ⟨Tt,x_⟩:=ph.2 i j x GC au;have hm:=Dh x_;have aB:=S.fr _ hm rfl;have aK:A3 X.env.scope x:=aB.elim (fun z=>.inr (.inl z)) fun z=>.inr (.inr z)
  obtain ⟨u,r,l⟩:=aM j x v Tt ah3 aK;refine ⟨u,r,?_⟩;rcases l with ⟨ahc,_⟩ | ⟨_,c,aw,Aa⟩
  .rcases aB with z | z <;> (have hJ:X.env.kindOf x=_:=z;rw [ahc] at hJ;cases hJ)
  .refine .inr ⟨?_,c,vN _ _ hm aw,?_⟩
   .exact WT x_
   .obtain ⟨o,aS,hd⟩:=Aa;exact ⟨o,k _ _ aS,hd⟩
 cell:=fun x c e=>by
  obtain ⟨v,o,aS,hd⟩:=J.cell x c (sw e);exact ⟨v,o,k _ _ aS,hd⟩
 free:=J.bo.fresh dg
 i8:=fun x c e=>J.i8 x c (sw e)
 pin:=fun p av=>nomatch av
 bo:=J.bo.kept k
 len:=by unfold mc;rw [aU];exact ph.1
theorem Inv.adopt (J:Inv X ab σ H s) (hY:jo X ab H a) (new:ek X.prog X.w (upd H a o) s.heap a o):Inv X ab σ (upd H a o) s:=by
 obtain ⟨aT,eJ,pZ,hex,lh,jJ⟩:=hY;refine J.step (g':=s.gens) (d':=s.drawn) (t':=s.toks) (h':=s.heap) (ch:=[a]) (fun b ae=>?_) (fun b o _ _ _ e _=>e) (fun b o _ _ _ e _=>⟨o.slots,e⟩) (fun b o ae e n=>?_) (fun b o _ e=>⟨o,e⟩)
  (fun b xs e=>?_) (fun b o u e=>?_) (fun b ps e=>⟨#[],?_⟩) (fun m hm=>hm) (fun b u e=>?_) J.bare
 .have e:b=a:=by simpa using ae
  subst e;exact ⟨hex,eJ,lh,jJ⟩
 .rw [aF (fun z=>ae (by simp [z]))];exact n
 .rw [aF (dB e aT)];exact e
 .rw [aF (dB e aT)];exact e
 .rw [aF (dB e aT),e];simp
 .by_cases ae:b=a
  .subst ae;rw [db] at e;cases e;exact new
  .rw [aF ae] at e;exact (J.bo b u e).nL (fun c v _ q=>q) (fun c q=>by rw [aF (dB q aT)];exact q) fun c xs q=>by rw [aF (dB q aT)];exact q
end
theorem UM {prog:Program} {w:World} {A:Around} {it acc:Value} {env:Env} (J:Nat->Shared->Prop)
  (turn:∀ n s,J n s->wpAny (model prog w) A (pyNext it) (fun r dd=>match r with
   | none=>R (.ok .next) dd
   | some v=>wpAny (model prog w) A (letOwnedTupleGo uj it v) (fun _ fs=>wpAny (model prog w) A (assign uj env v) (fun _ dT=>
     wpAny (model prog w) A (forIn ifs true fun c r=>if r=true then do let ok <- isTrue c env (eval c env);pure (uO ok) else pure (uO r)) (fun ok lQ=>
      if ok=true then wpAny (model prog w) A (eval elt env) (fun x AM=>
       wpAny (model prog w) A (call (.builtin "list.append") [acc,x]) (fun _ Sv=>∃ m,m < n/\J m Sv) (fun _ _=>False) AM) (fun _ _=>False) lQ
      else ∃ m,m < n/\J m lQ) (fun _ _=>False) dT) (fun _ _=>False) fs) (fun _ _=>False) dd) (fun _ _=>False) s)
  (n:Nat) (h:J n s) :
  codeAny (model prog w) A (.compLoop (.ListComp elt [⟨uj,iter,ifs,0⟩] scope pos) 0 it acc env) R s:=by
 refine codeAny_loop rfl J (fun n s JH=>?_) n h;show wpAny _ A ((compTurn (.ListComp elt [⟨uj,iter,ifs,0⟩] scope pos) 0 it acc env).onRaise (fun x=>do noteFrame x env;theTreesLotGoes x)) _ _ s;refine wpAny_noted (wpAny_noRaise ?_);rw [compTurn_list];refine wpAny_bind (wpAny_standAt (wpAny_bind (wpAny_mono (turn n s JH) (fun r dd h₁=>?_) fun _ _ h'=>h')));cases r with
 | none=>exact wpAny_pure h₁
 | some v=>
  refine wpAny_bind (wpAny_mono h₁ (fun _ fs h₀=>?_) fun _ _ h'=>h');refine wpAny_bind (wpAny_mono h₀ (fun _ dT vf=>wpAny_bind (wpAny_mono vf (fun ok lQ yY=>?_) fun _ _ h'=>h')) fun _ _ h'=>h');cases ok with
  | false=>exact wpAny_pure ⟨rfl,yY⟩
  | true=>
   exact wpAny_bind (wpAny_bind (wpAny_mono yY (fun x AM Wx=>wpAny_bind (wpAny_mono Wx (fun _ Sv abe=>wpAny_pure (wpAny_pure ⟨rfl,abe⟩)) fun _ _ h'=>h')) fun _ _ h'=>h'))
def tQ (X:a8) (ifs:List Expr) (t:TT):Prop:=
 ∀ (ab:List (Addr × Obj)) (s:Shared) (σ:St) (H:aq) (Q:Bool->aq->Prop),Inv X ab σ H s->t σ H Q ->
  wpAny (model X.prog X.w) X.A (forIn ifs true fun c r=>if r=true then do let ok <- isTrue c X.env (eval c X.env);pure (uO ok) else pure (uO r)) (BS X ab σ Q) X.dF s
noncomputable def oW:TT:=fun _ H Q=>Q true H
theorem h4:tQ X [] oW:=fun _ _ _ H _ J h=>wpAny_tests_nil ⟨H,J,h⟩
theorem uZ {t:TT} (h:i4 X c t):tQ X [c] t:=fun ab s σ H Q J q=>wpAny_tests_one (h ab s σ H Q J q)
def Sub (σ aA:St):Prop:=aA.length=σ.length/\∀ (i:Nat) (v:V),σ[i]? = some (some v)->aA[i]? = some (some v)
theorem Sub.refl (σ:St):Sub σ σ:=⟨rfl,fun _ _ h=>h⟩
theorem Sub.set {x:Option V} (h:Sub σ aA) (e:σ[i]? = some none):Sub σ (aA.set i x):=by
 refine ⟨by rw [IA];exact h.1,fun j v q=>?_⟩;have aO:i ≠ j:=fun z=>by subst z;rw [e] at q;cases q
 rw [A6 aO];exact h.2 j v q
def rA (bS:jm) (g:gi) (c0:TT) (bM:TE) (du:St) (Q:cW) (W:Nat->Nat->List V->aq->Prop):Prop:=∀ i m ys H,W i m ys H ->
 (bS.stop i H/\∀ p,H p=none->Q (.ref p) (upd H p (.lst ys))) \/
 (bS.go i H/\ys.length < sizeLine/\∀ x I,bS.n_ i H x I->g x du I fun cC az=>Sub du cC/\c0 cC az fun c bk=>if c=true then bM cC bk fun y cJ=>∃ c3,c3 < m/\W (i + 1) c3 (ys ++ [y]) cJ else ∃ c3,c3 < m/\W (i + 1) c3 ys bk)
noncomputable def Cx (gB:TI) (g:gi) (c0:TT) (bM:TE) (sel:List (Option Nat)):TE:=fun σ H Q=>gB σ H fun bS H1=>∃ W:Nat->Nat->List V->aq->Prop,(∃ m,W 0 m [] H1)/\rA bS g c0 bM (mc sel σ) Q W
section
variable {X:a8} {elt dc iter:Expr} {ifs:List Expr} {scope:Scope} {pos:Pos} {gB:TI} {g:gi} {c0:TT} {bM:TE} {N:List Str} {sel:List (Option Nat)}
structure fy (X:a8) (scope:Scope) (N:List Str) (dc elt:Expr) (ifs:List Expr) (g:gi) (c0:TT) (bM:TE):Prop where
 NK:∀ C s H bt,l7 (X.block scope C N s H bt) dc g
 tests:∀ C s H bt,tQ (X.block scope C N s H bt) ifs c0
 elem:∀ C s H bt,br (X.block scope C N s H bt) elt bM
theorem fy.of {N:List Str} (af:∀ C s H bt,l7 (X.block scope C N s H bt) dc g)
  (ao:∀ C s H bt,∃ t,tQ (X.block scope C N s H bt) ifs t/\t=c0) (a_:∀ C s H bt,∃ t,br (X.block scope C N s H bt) elt t/\t=bM):fy X scope N dc elt ifs g c0 bM:=
 ⟨af,fun C s H bt=>by obtain ⟨t,h,rfl⟩:=ao C s H bt;exact h,fun C s H bt=>by obtain ⟨t,h,rfl⟩:=a_ C s H bt;exact h⟩
theorem PF {ab:List (Addr × Obj)} {dT:Shared} {σ:St} {h5:aq} {Q:cW} {it:Addr} {bt:List Addr} {h1:Nat->Heap->Prop} {bS:jm} {W:Nat->Nat->List V->aq->Prop} {E:Value->Shared->Prop} {RR:Value->Addr->Result->Shared->Prop}
  (aw:X.calm=true) (S:o7 X.env scope) (ph:uP X.N scope N sel) (B:fy X scope N dc elt ifs g c0 bM) (bP:Inv X ab σ h5 dT) (T:pH X.prog X.w X.K dc bS bt it h1) (pM:h1 0 dT.heap) (f2:∀ b ∈ bt,jo X ab h5 b)
  (mi:∃ m,W 0 m [] h5) (fK:rA bS g c0 bM (mc sel σ) Q W)
  (fin:∀ D C ys I aj,Inv X ab σ (upd I D (.lst ys)) aj->(∃ m,aj.heap.Ns C m)->jo X ab (upd I D (.lst ys)) C->Q (.ref D) (upd I D (.lst ys))->RR (.ref D) C (.ok .next) aj) :
  wpAny (model X.prog X.w) X.A (newList []) (fun acc lQ=>wpAny (model X.prog X.w) X.A (newFunctionEnv scope X.env.globals (i7 X.env.cells scope.names []) [] X.env.qual none .none (some X.env)) (fun KC AM=>
   codeAny (model X.prog X.w) X.A (.compStart (.ListComp elt [⟨dc,iter,ifs,0⟩] scope pos) 0 (.ref it) acc { KC with scope:=relabel scope X.env }) (RR acc KC.locals) AM) E lQ) E dT:=by
 refine wpAny_newObj_type (wpAny_newFunctionEnv S.sf (by intro y a7;simp at a7) (fun h₁ Ct A0=>?_) S.kind);dsimp only at Ct A0 ⊢;generalize Hi:dT.heap.push { cls:=.type "list",dict:=none,data:=.seq ([]:List Value).toArray }=az at Ct A0 ⊢;have dg:az.objs.size=dT.heap.objs.size + 1:=by rw [<- Hi,Nn]
 have t9:dT.heap.objs.size ≠ az.objs.size:=by rw [dg];exact gz (Fe _)
 have G7:dT.heap.objs.size <= az.objs.size:=by rw [dg];exact Fp _
 have below:∀ b,b < dT.heap.objs.size->b ≠ az.objs.size/\b ≠ dT.heap.objs.size:=fun b ae=>⟨by rw [dg];exact gz (Nat.lt_succ_of_lt ae),gz ae⟩
 have old:∀ b o,dT.heap.get? b=some o->h₁.get? b=some o:=fun b o e=>A0.extBut b o (below b (eA e)).1 (e2 _ (Hi ▸ e2 _ e))
 have Zz:h₁.get? dT.heap.objs.size=some { cls:=.type "list",data:=.seq ([]:List Value).toArray }:=A0.extBut _ _ t9 (e2 _ (Hi ▸ hN _ rfl));have uw:∀ b ∈ bt,b < dT.heap.objs.size:=fun b ae=>by
  obtain ⟨o,e,_⟩:=T.obj _ _ pM b ae;exact eA e
 generalize aj6:az.objs.size=C at *;generalize nt:dT.heap.objs.size=D at *;have PU:h1 0 h₁:=T.keep _ _ _ pM fun b _ o e=>old b o e
 have ad4:Inv (X.block scope C N dT h5 bt) [] (mc sel σ) h5 { dT with heap:=h₁,toks:=dT.toks + ([]:List (Str × Value)).length }:=
  Z5 bP S f2 (fun b ae=>by rw [nt];exact uw b ae) (by rw [nt];exact G7) old Ct ph
 have DR:D ∉ (X.block scope C N dT h5 bt).aH:=fun z=>by
  have hJ:=bP.AW D z;rcases fh.mp hJ with e | e
  .exact absurd bP.lt (by rw [<- e,nt];exact nA _)
  .exact bP.D2 (by rw [nt];exact bW _) e
 have loop:∀ lQ:Shared,lQ = { dT with heap:=h₁,toks:=dT.toks + ([]:List (Str × Value)).length } ->
   codeAny (model X.prog X.w) X.A (.compLoop (.ListComp elt [⟨dc,iter,ifs,0⟩] scope pos) 0 (.ref it) (.ref D) (compEnvC scope (i7 X.env.cells scope.names []) C X.env)) (RR (.ref D) C) lQ:=by
  rintro lQ rfl;obtain ⟨m0,mi⟩:=mi;refine UM (fun k aj=>∃ i ys us n I,Inv (X.block scope C N dT h5 bt) [(D,{ cls:=.type "list",data:=.seq us n })] (mc sel σ) I aj/\(∃ vs:List Value,us=vs.toArray/\bY ys vs)/\ys.length <= sizeLine/\h1 i aj.heap/\(∀ b ∈ bt,I b=none)/\W i k ys I) ?_ m0
   ⟨0,[],_,0,h5,ad4.qw fun p av=>?_,⟨[],rfl,.nil⟩,fk _,PU,fun b ae=>(f2 b ae).1,mi⟩
  .rintro k aj ⟨i,ys,us,n,I,Em,⟨vs,rfl,cR⟩,PT,st,fr,w⟩;have Js:∀ {pl:List (Addr × Obj)} {iP:aq},(∀ p ∈ pl,p.1=D)->(∀ b ∈ bt,iP b=none)->∀ b ∈ bt,jo (X.block scope C N dT h5 bt) pl iP b:=fun {pl iP} av aT b ae=>
    ⟨aT b ae,(below b (uw b ae)).1,(O4 (N:=N) (C:=C) bP S f2 (fun b ae=>by rw [nt];exact uw b ae) (by rw [nt];exact G7)).o4 b ae,.inl ae,fun x c e=>(f2 b ae).2.2.2.2.1 x c (sw e),fun p Ve z=>by
     have adf:p ∈ pl:=by simpa using Ve
     exact (below b (uw b ae)).2 (by rw [<- z];exact av p adf)⟩
   have I4:∀ p ∈ [((D,{ cls:=.type "list",data:=.seq vs.toArray n }):Addr × Obj)],p.1=D:=fun p av=>by
    have e:p=(D,{ cls:=.type "list",data:=.seq vs.toArray n }):=by simpa using av
    rw [e]
   rcases fK i k ys I w with ⟨stop,It⟩ | ⟨go,hlen,step⟩
   .refine bC (T.done (X.block scope C N dT h5 bt) rfl rfl rfl aw i _ aj _ I _ Em (Js I4 fr) st stop) fun r s4 bx=>?_
    obtain ⟨ak,hu⟩:=bx;subst ak;have rG:=hu.pin (D,{ cls:=.type "list",data:=.seq vs.toArray n }) (by simp);have RG:I D=none:=rG.2.1;have aiw:Inv X ab σ I s4:=bP.acj (ch:=bt) hu.os hu.base hu.bo hu.bare fun b ae=>⟨(f2 b ae).2.2.2.1,(f2 b ae).2.1,(f2 b ae).2.2.2.2.1,(f2 b ae).2.2.2.2.2⟩
    have qA:jo X ab I D:=bP.n7 (by rw [nt];exact bW _) RG;have aiC:Inv X ab σ (upd I D (.lst ys)) s4:=aiw.adopt qA ⟨PT,vs,n,cR,rG.1⟩;obtain ⟨VY,UO,_⟩:=hu.loc;refine fin D C ys I s4 aiC ⟨VY,UO⟩ (bP.n7 (by rw [nt];exact G7) ?_) (It D RG);rw [aF (eg t9)];exact hu.free
   .refine bC (T.item (X.block scope C N dT h5 bt) rfl rfl rfl aw i _ aj _ I _ Em (Js I4 fr) st go) fun r s4 bx=>?_
    obtain ⟨u,ak,cL⟩:=bx;subst ak;refine bC cL fun _ s5 bx=>?_
    obtain ⟨x,dH,uU,E5,Cc,rP,Ef⟩:=bx;have B2:=uU.pinned (Js I4 Ef) (T.obj _ _ rP);refine bC (B.NK C dT h5 bt _ s5 _ dH x u _ B2 E5 (step x dH Cc)) fun _ gV bx=>?_
    obtain ⟨lW,hH,I2,nC,I1⟩:=bx;refine bC (B.tests C dT h5 bt _ gV lW hH _ I2 I1) fun c jN bx=>?_
    obtain ⟨ft,j5,mD⟩:=bx;have again:∀ {sP:St} {iG:aq} {f':Shared},Inv (X.block scope C N dT h5 bt) ([(D,{ cls:=.type "list",data:=.seq vs.toArray n })] ++ u5 bt s5.heap) sP iG f'->h1 (i + 1) f'.heap/\(∀ b ∈ bt,iG b=none):=fun {sP iG f'} oR=>by
     refine ⟨T.keep _ _ _ rP fun b ae o e=>(oR.pin (b,o) (iz _ (iz _ (Ab ae e)))).1,fun b ae=>?_⟩;obtain ⟨o,e,d⟩:=T.obj _ _ rP b ae;exact (oR.pin (b,o) (iz _ (iz _ (Ab ae e)))).2.1
    have back:∀ {iG:aq} {f':Shared} {pl:List (Addr × Obj)},Inv (X.block scope C N dT h5 bt) pl lW iG f'->Inv (X.block scope C N dT h5 bt) pl (mc sel σ) iG f':=fun {iG f' pl} oR=>oR.weak nC.1.symm nC.2
    cases c with
    | false=>
     obtain ⟨c3,hm,d_⟩:=mD;obtain ⟨t1,gn⟩:=again j5;exact ⟨c3,hm,i + 1,ys,_,n,ft,back j5.Bw,⟨vs,rfl,cR⟩,PT,t1,gn,d_⟩
    | true=>
     refine bC (B.elem C dT h5 bt _ jN lW ft _ j5 mD) fun v f' bx=>?_
     obtain ⟨y,iG,oR,X9,c3,hm,d_⟩:=bx;obtain ⟨t1,gn⟩:=again oR;have rG:=oR.pin (D,{ cls:=.type "list",data:=.seq vs.toArray n }) (by simp);refine append_at (hsz:=by have:=cR.length;rw [eb];omega) rG.1 fun uW QK age=>?_
     have Xx:Inv (X.block scope C N dT h5 bt) [] (mc sel σ) iG f':=(back oR).qw fun p av=>nomatch av
     have qA:jo (X.block scope C N dT h5 bt) [] iG D:=⟨rG.2.1,t9,DR,.inr (by show dT.heap.objs.size <= D;rw [nt];exact bW _),(fun x c e z=>by
      obtain ⟨akD,o,aS,hd⟩:=oR.cell x c e;rw [z,rG.1] at aS;cases aS;cases hd),(fun p av=>nomatch av)⟩
     have aab:Inv (X.block scope C N dT h5 bt) [] (mc sel σ) iG { f' with heap:=uW }:=Xx.turned (t':=f'.toks) (it:=D) (fun b o ae e=>(QK.2 b ae).trans e) qA.1 qA.2.1 qA.2.2.2.1 qA.2.2.2.2.1 qA.2.2.2.2.2;refine ⟨c3,hm,i + 1,ys ++ [y],vs.toArray.push v,n + 1,iG,aab.qw fun p av=>?_,⟨vs ++ [v],by simp,Ld cR X9⟩,by rw [c6,ju];omega,T.keep _ _ _ t1 fun b ae o e=>(QK.2 b (below b (uw b ae)).2).trans e,gn,d_⟩;have e:p=(D,{ cls:=.type "list",data:=.seq (vs.toArray.push v) (n + 1) }):=by simpa using av
     subst e;exact ⟨age,rG.2.1,t9,DR,fun v z=>by cases z⟩
  .have e:p=(D,{ cls:=.type "list",data:=.seq ([]:List Value).toArray }):=by simpa using av
   subst e;exact ⟨Zz,bP.bo.fresh (by rw [nt];exact bW _),t9,DR,fun v z=>by cases z⟩
 exact codeAny_compStart_list (loop _ rfl) (T.self _ 0 _ _ _ PU (loop _ rfl))
theorem hE (aw:X.calm=true) (ah:oz X dc iter gB) (S:o7 X.env scope) (ph:uP X.N scope N sel) (B:fy X scope N dc elt ifs g c0 bM)
  (ax:∀ x,foldedSetIterable iter X.env x=pure x:=by intro _;rfl):br X (.ListComp elt [⟨dc,iter,ifs,0⟩] scope pos) (Cx gB g c0 bM sel):=by
 intro ab s σ H Q J h;rw [eval_ListComp];refine wpAny_comprehension_free (use:=none) rfl ax (NY (S.cells J.ok)) S.kind S.loc ?_;refine bC (ah ab s σ H _ J h) fun v s1 af=>bC af fun zC s2 ao=>?_
 obtain ⟨it,bt,h1,bS,az,e,bP,T,pM,f2,W,mi,fK⟩:=ao;subst e;refine PF (RR:=fun acc C=>compPost (model X.prog X.w) X.A X.dF none (gN X ab σ Q) acc C) aw S ph B bP T pM f2 mi fK fun D C ys I aj gy ⟨m,hm⟩ hY q=>?_
 exact ⟨m,hm,fun h' ts=>⟨.ref D,_,gy.turned (t':=aj.toks) (it:=C) (fun b o ae e=>(ts.2 b ae).trans e) hY.1 hY.2.1 hY.2.2.2.1 hY.2.2.2.2.1 hY.2.2.2.2.2,rfl,q⟩⟩
theorem CY {i:Nat} {y:Str} {py Rw:Pos} (bu:X.N.Nodup) (ah:X.N[i]? = some y) (ag:Loc X.env.scope y) (aw:X.calm=true) (hit:oz X dc iter gB) (S:o7 X.env scope) (ph:uP X.N scope N sel) (B:fy X scope N dc elt ifs g c0 bM)
  (afW:swapsWith (.ListComp elt [⟨dc,iter,ifs,0⟩] scope pos) (some (.Name y py)) Rw.line X.env=pure true) (hf:X.fn y=true\/X.env.scope.names.lookup y=some .local:=by first | exact .inl rfl | exact .inr rfl | assumption)
  (ax:∀ x,foldedSetIterable iter X.env x=pure x:=by intro _;rfl):hI X (.Assign [.Name y py] (.ListComp elt [⟨dc,iter,ifs,0⟩] scope pos) Rw) (sm (Cx gB g c0 bM sel) (gd i)):=by
 intro ab s σ H D J h;rw [exec_Assign_Name_used _ _ _ _ afW];refine wpAny_bind (wpAny_standAt (wpAny_bind ?_));show wpAny _ X.A (do let _ <- comprehension (.ListComp elt [⟨dc,iter,ifs,0⟩] scope pos) scope X.env _ (newList []) false (eval iter X.env) (some (assign (.Name y py) X.env))) _ _ s;refine wpAny_bind (wpAny_mono (wpAny_comprehension_free (use:=some (assign (.Name y py) X.env)) (Q:=fun _ aj=>rW X ab D .next aj) rfl ax (NY (S.cells J.ok)) S.kind S.loc ?_) (fun _ aj aN=>wpAny_pure (wpAny_pure aN)) fun _ _ e=>e);refine bC (hit ab s σ H _ J h) fun v s1 af=>bC af fun zC s2 ao=>?_
 obtain ⟨it,bt,h1,bS,az,e,bP,T,pM,f2,W,mi,fK⟩:=ao;subst e;refine PF (RR:=fun acc C=>compPost (model X.prog X.w) X.A X.dF (some (assign (.Name y py) X.env)) (fun _ aj=>rW X ab D .next aj) acc C) aw S ph B bP T pM f2 mi fK fun Da C ys I aj gy ⟨m,hm⟩ hY q=>?_
 show wpAny _ X.A (assign (.Name y py) X.env (.ref Da)) _ _ _;refine wpAny_assign_Name (O' gy bu ah ag (show bH (.ref Da) (.ref Da) from rfl) (fun s3 es bx=>?_) hf);obtain ⟨a,ts,aX⟩:=bx;have abi:C ≠ a:=by
  rcases aX with z | z
  .rw [z];exact hY.2.1
  .exact fun w=>hY.2.2.2.2.1 y a z w.symm
 refine ⟨m,hm.sameBut ts abi,fun h' X3=>⟨_,_,es.turned (t':=s3.toks) (it:=C) (fun b o ae e=>(X3.2 b ae).trans e) hY.1 hY.2.1 hY.2.2.2.1 hY.2.2.2.2.1 hY.2.2.2.2.2,q⟩⟩
end
def oA (Pv:Nat->List V->aq->Prop) (g:gi) (c0:TT) (bM:TE) (du:St) (i:Nat) (x:V) (ys:List V) (H:aq):Prop:=
 ∀ N:List V->aq->Prop,(∀ jz I,Pv (i + 1) jz I->N jz I)->g x du H fun cC az=>Sub du cC/\c0 cC az fun c bk=>if c=true then bM cC bk fun y cJ=>N (ys ++ [y]) cJ else N ys bk
theorem U0 {K:ba} (Pv:Nat->List V->aq->Prop) (aQ:xs.length <= sizeLine) (h0:Pv 0 [] H) (aM:∀ i ys H,i <= xs.length->Pv i ys H->aD K H a xs/\ys.length <= i)
  (ax:∀ i x ys H,xs[i]? = some x->Pv i ys H->oA Pv g c0 bM du i x ys H) (hd:∀ ys H,Pv xs.length ys H->∀ p,H p=none->Q (.ref p) (upd H p (.lst ys))) :
  ∃ W:Nat->Nat->List V->aq->Prop,(∃ m,W 0 m [] H)/\rA (mT K a) g c0 bM du Q W:=by
 refine ⟨fun i m ys H=>m=xs.length - i/\i <= xs.length/\Pv i ys H,⟨xs.length,by simp,fk _,h0⟩,?_⟩;rintro i m ys H ⟨rfl,ah,p⟩;have q:=(aM i ys H ah p).1;have y':=(aM i ys H ah p).2;by_cases dt:i < xs.length
 .refine .inr ⟨⟨xs,xs[i],q,by simp [dt]⟩,by omega,fun x I y=>?_⟩;obtain ⟨e,y⟩:=y;subst e;exact ax i x ys _ (y xs q) p (fun jz I=>∃ c3,c3 < xs.length - i/\c3=xs.length - (i + 1)/\i + 1 <= xs.length/\Pv (i + 1) jz I) fun jz I r=>⟨xs.length - (i + 1),by omega,rfl,dt,r⟩
 .have e:i=xs.length:=by omega
  subst e;exact .inl ⟨⟨xs,q,bW _⟩,hd ys H p⟩
theorem Wd {K:ba} (Pv:Nat->List V->aq->Prop) (aQ:xs.length <= sizeLine) (h0:Pv 0 [] H) (aM:∀ i ys H,i <= xs.length->Pv i ys H->cM K H a xs/\ys.length <= i)
  (ax:∀ i x ys H,xs[i]? = some x->Pv i ys H->oA Pv g c0 bM du i x ys H) (hd:∀ ys H,Pv xs.length ys H->∀ p,H p=none->Q (.ref p) (upd H p (.lst ys))) :
  ∃ W:Nat->Nat->List V->aq->Prop,(∃ m,W 0 m [] H)/\rA (Bh K a) g c0 bM du Q W:=by
 refine ⟨fun i m ys H=>m=xs.length - i/\i <= xs.length/\Pv i ys H,⟨xs.length,by simp,fk _,h0⟩,?_⟩;rintro i m ys H ⟨rfl,ah,p⟩;have q:=(aM i ys H ah p).1;have y':=(aM i ys H ah p).2;by_cases dt:i < xs.length
 .refine .inr ⟨⟨xs,xs[i],q,by simp [dt]⟩,by omega,fun x I y=>?_⟩;obtain ⟨e,y⟩:=y;subst e;exact ax i x ys _ (y xs q) p (fun jz I=>∃ c3,c3 < xs.length - i/\c3=xs.length - (i + 1)/\i + 1 <= xs.length/\Pv (i + 1) jz I) fun jz I r=>⟨xs.length - (i + 1),by omega,rfl,dt,r⟩
 .have e:i=xs.length:=by omega
  subst e;exact .inl ⟨⟨xs,q,bW _⟩,hd ys H p⟩
theorem ad2 {lo:Int} {n:Nat} {g:gi} {c0:TT} {bM:TE} {du:St} {Q:cW} {H:aq} (Pv:Nat->List V->aq->Prop) (aQ:n <= sizeLine) (h0:Pv 0 [] H) (aM:∀ i ys H,i <= n->Pv i ys H->ys.length <= i)
  (ax:∀ i ys H,i < n->Pv i ys H->oA Pv g c0 bM du i (.int (lo + i)) ys H) (hd:∀ ys H,Pv n ys H->∀ p,H p=none->Q (.ref p) (upd H p (.lst ys))) :
  ∃ W:Nat->Nat->List V->aq->Prop,(∃ m,W 0 m [] H)/\rA (mq lo n) g c0 bM du Q W:=by
 refine ⟨fun i m ys H=>m=n - i/\i <= n/\Pv i ys H,⟨n,by simp,fk _,h0⟩,?_⟩;rintro i m ys H ⟨rfl,ah,p⟩;have y':=aM i ys H ah p;by_cases dt:i < n
 .refine .inr ⟨dt,by omega,fun x I y=>?_⟩;obtain ⟨e,y⟩:=y;subst e y;exact ax i ys _ dt p (fun jz I=>∃ c3,c3 < n - i/\c3=n - (i + 1)/\i + 1 <= n/\Pv (i + 1) jz I) fun jz I r=>⟨n - (i + 1),by omega,rfl,dt,r⟩
 .have e:i=n:=by omega
  subst e;exact .inl ⟨bW _,hd ys H p⟩
noncomputable def od (xs:List V):jm:=⟨fun i _=>i < xs.length,fun i H x I=>I=H/\xs[i]? = some x,fun i _=>xs.length <= i⟩
theorem Qs {w:World} {K:ba} {it:Addr} {St:Nat->Heap->Prop} (fK:∀ A:Around,A.handled=none->Walks P w A it [it] [it] xs.length aan St)
  (cK:∀ i v,aan i v->∃ x,xs[i]? = some x/\bH x v)
  (tI:∀ i h,St i h->∃ o n vs,h.get? it=some o/\o.cls=.type n/\o.data=.fields vs/\["enumerate","zip","dict_itemiterator","dict_reverseitemiterator","odict_iterator","itertools.zip_longest","itertools.pairwise"].contains n=false)
  (x_:∀ i h h',St i h->(∀ o,h.get? it=some o->h'.get? it=some o)->St i h')
  (ab2:∀ (A:Around) (i:Nat) (s:Shared) (Q:Value->Shared->Prop) (E:Value->Shared->Prop),St i s.heap->Q (.ref it) s->wpAny (model P w) A (pyIter (.ref it)) Q E s) :
  pH P w K dc (od xs) [it] it (fun i h=>i <= xs.length/\St i h) where
 mem:=by simp
 obj:=fun i h st b ae=>by
  have e:b=it:=by simpa using ae
  subst e;obtain ⟨o,n,vs,e,_,d,_⟩:=tI i h st.2;exact ⟨o,e,fun v z=>by rw [d] at z;cases z⟩
 keep:=fun i h h' st k=>⟨st.1,x_ i h h' st.2 fun o e=>k it (by simp) o e⟩
 item:=by
  intro X G_ hw fS aw i ab s σ H E J hf st bg;subst G_ hw fS;obtain ⟨f0,f1,f2,dY,f4,ea⟩:=hf it (by simp);refine (fK X.A (J.ok.hd aw)).item i s _ _ bg st.2 fun v h' tk aK ko l0=>?_
  obtain ⟨x,ag,bb⟩:=cK i v aK;have a3:Inv X ab σ H { s with heap:=h',toks:=tk }:=J.turned (fun b o ae e=>l0 b o (by simpa using ae) e) f0 f1 dY f4 ea;obtain ⟨o,n,vs,e,c,d,nm⟩:=tI _ _ ko;exact ⟨v,rfl,v7 (s:={ s with heap:=h',toks:=tk }) e c d nm ⟨x,H,a3,bb,⟨rfl,ag⟩,⟨bg,ko⟩,fun b ae=>(hf b ae).1⟩⟩
 done:=by
  intro X G_ hw fS aw i ab s σ H E J hf st bg;subst G_ hw fS;obtain ⟨f0,f1,f2,dY,f4,ea⟩:=hf it (by simp);have e:i=xs.length:=Nat.le_antisymm st.1 bg;subst e;exact (fK X.A (J.ok.hd aw)).done s _ _ st.2 fun h' tk l0=>⟨rfl,J.turned (fun b o ae e=>l0 b o (by simpa using ae) e) f0 f1 dY f4 ea⟩
 self:=fun A i s Q E st h=>ab2 A i s Q E st.2 h
noncomputable def iY (c:Nat):Str:=⟨#[c]⟩
noncomputable def Tm (x:Str):List V:=x.cps.toList.map fun c=>V.str (iY c)
theorem Nw (x:Str):(Tm x).length=x.cps.size:=by unfold Tm;simp
theorem VQ {x:Str} {i c:Nat} (h:x.cps[i]? = some c):(Tm x)[i]? = some (.str (iY c)):=by
 unfold Tm;rw [dm,aa_,h];rfl
theorem OX {x:Str} {i:Nat} {v:Value} (h:SignAt x i v):∃ y,(Tm x)[i]? = some y/\bH y v:=by
 obtain ⟨c,u,aw,rfl⟩:=h;exact ⟨.str (iY c),VQ aw,u,rfl⟩
section
variable {X:a8} {dc:Expr}
noncomputable def FU (dS:TE):TI:=fun σ H R=>dS σ H fun x H1=>∃ z,x=.str z/\R (od (Tm z)) H1
theorem afV (aM:br X l dS):oz X dc l (FU dS):=by
 intro ab s σ H R J h;refine bC (aM ab s σ H _ J h) fun v s1 bx=>?_
 obtain ⟨x,H1,a3,cI,bL⟩:=bx;obtain ⟨z,e,q⟩:=bL;subst e;obtain ⟨t,rfl⟩:=cI;have hY:∀ b ∈ [s1.heap.objs.size],jo X ab H1 b:=fun b ae=>by
  have e:b=s1.heap.objs.size:=by simpa using ae
  subst e;exact a3.n7 (bW _) (a3.bo.fresh (bW _))
 have aQ:=Nw z;cases aX:z.cps.all (· < 128) with
 | false=>
  refine wpAny_pyIter_wide aX ⟨s1.heap.objs.size,[s1.heap.objs.size],fun i h=>i <= (Tm z).length/\h.IsStrIter s1.heap.objs.size "str_iterator" z t i,_,H1,rfl,a3.kept (t':=s1.toks) fun b o e=>e2 _ e,
   Qs (fun A jD=>by rw [aQ];exact Walks.strWide jD _ z t) (fun i v=>OX) (fun i h ⟨o,e,c,d⟩=>⟨o,_,_,e,c,d,by decide⟩) (fun i h h' ⟨o,e,r⟩ k=>⟨o,k o e,r⟩) (fun A i s Q E st q=>wpAny_pyIter_striter_wide st q),
   ⟨fk _,_,hN _ rfl,rfl,rfl⟩,hY,q⟩
 | true=>
  refine wpAny_pyIter_ascii aX ⟨s1.heap.objs.size,[s1.heap.objs.size],fun i h=>i <= (Tm z).length/\h.IsStrIter s1.heap.objs.size "str_ascii_iterator" z t i,_,H1,rfl,a3.kept (t':=s1.toks) fun b o e=>e2 _ e,
   Qs (fun A jD=>by rw [aQ];exact Walks.strAscii jD _ z t) (fun i v=>OX) (fun i h ⟨o,e,c,d⟩=>⟨o,_,_,e,c,d,by decide⟩) (fun i h h' ⟨o,e,r⟩ k=>⟨o,k o e,r⟩) (fun A i s Q E st q=>wpAny_pyIter_striter_ascii st q),
   ⟨fk _,_,hN _ rfl,rfl,rfl⟩,hY,q⟩
end
theorem US {xs:List V} {g:gi} {bI:ed} {D:gW} {σ:St} {H:aq} (Pv:Nat->St->aq->Prop) (h0:Pv 0 σ H)
  (ax:∀ i x σ H,xs[i]? = some x->Pv i σ H->g x σ H fun cC az=>bI { D with b7:=Pv (i + 1),eI:=Pv (i + 1),cE:=D.b7 } cC az) (hd:∀ σ H,Pv xs.length σ H->D.b7 σ H) :
  ∃ W:Nat->Nat->St->aq->Prop,(∃ m,W 0 m σ H)/\∀ i m σ H,W i m σ H ->
   ((od xs).stop i H/\D.b7 σ H)\/((od xs).go i H/\∃ N:St->aq->Prop,(∀ aA I,N aA I->∃ c3,c3 < m/\W (i + 1) c3 aA I)/\∀ x I,(od xs).n_ i H x I->g x σ I fun cC az=>bI { D with b7:=N,eI:=N,cE:=D.b7 } cC az):=by
 refine ⟨fun i m σ H=>m=xs.length - i/\i <= xs.length/\Pv i σ H,⟨xs.length,by simp,fk _,h0⟩,?_⟩;rintro i m σ H ⟨rfl,ah,p⟩;by_cases dt:i < xs.length
 .refine .inr ⟨dt,Pv (i + 1),fun aA I jB=>⟨xs.length - (i + 1),by omega,rfl,dt,jB⟩,fun x I y=>?_⟩;obtain ⟨e,y⟩:=y;subst e;exact ax i x σ _ y p
 .have e:i=xs.length:=by omega
  subst e;exact .inl ⟨bW _,hd σ H p⟩
theorem UL (Pv:Nat->List V->aq->Prop) (aQ:xs.length <= sizeLine) (h0:Pv 0 [] H) (aM:∀ i ys H,i <= xs.length->Pv i ys H->ys.length <= i)
  (ax:∀ i x ys H,xs[i]? = some x->Pv i ys H->oA Pv g c0 bM du i x ys H) (hd:∀ ys H,Pv xs.length ys H->∀ p,H p=none->Q (.ref p) (upd H p (.lst ys))) :
  ∃ W:Nat->Nat->List V->aq->Prop,(∃ m,W 0 m [] H)/\rA (od xs) g c0 bM du Q W:=by
 refine ⟨fun i m ys H=>m=xs.length - i/\i <= xs.length/\Pv i ys H,⟨xs.length,by simp,fk _,h0⟩,?_⟩;rintro i m ys H ⟨rfl,ah,p⟩;have y':=aM i ys H ah p;by_cases dt:i < xs.length
 .refine .inr ⟨dt,by omega,fun x I y=>?_⟩;obtain ⟨e,y⟩:=y;subst e;exact ax i x ys _ y p (fun jz I=>∃ c3,c3 < xs.length - i/\c3=xs.length - (i + 1)/\i + 1 <= xs.length/\Pv (i + 1) jz I) fun jz I r=>⟨xs.length - (i + 1),by omega,rfl,dt,r⟩
 .have e:i=xs.length:=by omega
  subst e;exact .inl ⟨bW _,hd ys H p⟩
section
variable {X:a8}
noncomputable def B0:V->Option Int->Option Int->aq->cW->Prop:=fun x lo ah H Q=>∃ z,x=.str z/\z.length <= sizeLine/\Q (.str (lx z lo ah)) H
theorem xb:A1 X B0:=by
 intro ab s σ H x v jk jG lo ah bF Q J bb ax pl pu h;obtain ⟨z,rfl,aQ,q⟩:=h;obtain ⟨t,rfl⟩:=bb;refine ⟨"str",_,F.slot_str_getitem.lookup,typeIs_str s z t,?_⟩;have fin:∀ t' k,gN X ab σ Q (.str (lx z lo ah) t') { s with toks:=k }:=fun t' k=>⟨.str _,H,J.tok _,⟨_,rfl⟩,q⟩
 cases pl with
 | none=>
  cases pu with
  | none=>exact wpAny_getItem_str_slice (l:=none) (u:=none) (st:=none) ax rfl (post_val_or_str ⟨c4 (sE z _ _) aQ,fin⟩)
  | int j Dy=>exact wpAny_getItem_str_slice (l:=none) (u:=some (j,Dy)) (st:=none) ax rfl (post_val_or_str ⟨c4 (sE z _ _) aQ,fin⟩)
 | int i LI=>
  cases pu with
  | none=>exact wpAny_getItem_str_slice (l:=some (i,LI)) (u:=none) (st:=none) ax rfl (post_val_or_str ⟨c4 (sE z _ _) aQ,fin⟩)
  | int j Dy=>exact wpAny_getItem_str_slice (l:=some (i,LI)) (u:=some (j,Dy)) (st:=none) ax rfl (post_val_or_str ⟨c4 (sE z _ _) aQ,fin⟩)
noncomputable def aW (ys:List Str):List V:=ys.map V.str
theorem TH:∀ {ys:List Str} {us:List Value},bY (aW ys) us->StrsAre us ys:=by
 intro ys
 induction ys with
 | nil=>intro us r;cases r;exact .nil
 | cons y ys b9=>
  intro us r;cases r with
  | cons cI fX=>
   obtain ⟨t,rfl⟩:=cI;exact .cons y t (b9 fX)
theorem Mz:∀ (l:List (Str × Tok)),bY (aW (l.map (·.1))) (strValues l)
 | []=>.nil
 | (x,t) :: r=>.cons ⟨t,rfl⟩ (Mz r)
noncomputable def Dr (K:ba):V->List V->aq->cW->Prop:=fun x vs H Q=>∃ sep p ys,x=.str sep/\vs=[.ref p]/\aD K H p (aW ys)/\(ys.map (·.length)).sum + ys.length * sep.length <= 16777216/\Q (.str (o3 sep ys)) H
theorem uF:FK X "str.join" (Dr X.K):=by
 intro ab s σ H x xs v us Q J bb cR h;obtain ⟨sep,p,ys,rfl,rfl,aN,aQ,q⟩:=h;obtain ⟨t,rfl⟩:=bb;obtain ⟨u,rfl,f7⟩:=ml cR;cases f7;obtain ⟨a6,r,pl,_⟩:=J.list aN;exact join_list pl.isList (by simpa using TH r) aQ fun t' k=>⟨.str _,H,J.tok _,⟨_,rfl⟩,q⟩
end
theorem aak {prog:Program} {w:World} {A:Around} {x y:Str} {t u:Tok} (a7:(y.length == 0)=false)
  (h:∀ l k,l.map (·.1)=ik x y->Q (.ref s.heap.objs.size) { s with heap:=s.heap.push { cls:=.type "list",data:=.seq (strValues l).toArray },toks:=k }) (hsz:x.length + 2 <= sizeLine) :
  wpAny (model prog w) A (call (.builtin "str.split") [.str x t,.str y u]) Q E s:=by
 have aT:(af5 x (rJ x y 0 x.length (x.length + 1)) y.length).length <= sizeLine:=by
  have au:=StrLaws.occ_length_le x y 0 x.length (x.length + 1);rw [length_partsBetween];omega
 cases af:(decide (x.length < y.length) || decide (Xa x < Xa y))
 .cases hf:(rJ x y 0 x.length (x.length + 1)).isEmpty
  .refine call_meets zy (typeIs_str _ _ _) Rk (Ph _ _) (meets_str_split_sep x y t u af a7 hf (by omega) aT) ?_;show wants Q E _ { s with toks:=_,heap:=s.heap.push { cls:=.type "list",data:=.seq (strsFrom s.toks (af5 x (rJ x y 0 x.length (x.length + 1)) y.length)).toArray } };rw [strsFrom_eq];exact h (numbered s.toks _) _ ((numbered_texts _ _).trans ((if_neg (ne_true_of_eq_false af)).trans (if_neg (ne_true_of_eq_false hf))).symm)
  .exact call_meets zy (typeIs_str _ _ _) Rk (Ph _ _) (meets_str_split_not_found x y t u af a7 hf)
    (h [(x,t)] s.toks ((if_neg (ne_true_of_eq_false af)).trans (if_pos hf)).symm)
 .exact call_meets zy (typeIs_str _ _ _) Rk (Ph _ _) (meets_str_split_cannot_occur x y t u af)
   (h [(x,t)] s.toks (if_pos af).symm)
section
variable {X:a8}
noncomputable def HR:V->List V->aq->cW->Prop:=fun x vs H Q=>∃ z y,x=.str z/\vs=[.str y]/\y.length ≠ 0/\z.length + 2 <= sizeLine/\(ik z y).length <= sizeLine/\∀ p,H p=none->Q (.ref p) (upd H p (.lst (aW (ik z y))))
theorem KG:FK X "str.split" HR:=by
 intro ab s σ H x xs v us Q J bb cR h;obtain ⟨z,y,rfl,rfl,a7,aQ,aT,q⟩:=h;obtain ⟨t,rfl⟩:=bb;obtain ⟨u,rfl,f7⟩:=ml cR;obtain ⟨ak7,rfl⟩:=f7;refine aak (by simpa using a7) (fun l k aM=>?_) aQ;refine ⟨.ref s.heap.objs.size,_,J.laid (t':=k) (o:=.lst (aW (ik z y))) (fun b o e=>e2 _ e) (bW _) ⟨by unfold aW;rw [aU];exact aT,strValues l,0,by rw [<- aM];exact Mz l,hN _ rfl⟩,rfl,q _ (J.bo.fresh (bW _))⟩
theorem aeu:m4 X (.type "int") (fun xs H Q=>∃ z n,xs=[.str z]/\intText? z=some n/\z.length <= 640/\Q (.int n) H):=by
 intro ab s σ H xs us Q J r h;obtain ⟨z,n,rfl,aT,aQ,q⟩:=h;obtain ⟨u,rfl,t,rfl⟩:=ml r;exact PySem.W.KIN.call_text aT aQ ⟨.int n,H,J.tok _,⟨_,rfl⟩,q⟩
theorem Ie:∀ {bs:List Bool} {us:List Value},bY (bs.map V.bl) us->us=bs.map j4
 | [],_,.nil=>rfl
 | b :: bs,_,.cons r t=>by
  have e:_=j4 b:=r;rw [e,Ie t];rfl
theorem KZ {A:Around} (bs:List Bool):TruthOf X.prog X.w A (fun i v=>(bs.map j4).toArray[i]? = some v) (fun i=>bs.getD i true):=by
 intro i v s Q E cK aV;have e:(bs.map j4)[i]? = some v:=by simpa using cK
 rw [dm] at e;cases q:bs[i]? with
 | none=>rw [q] at e;cases e
 | some b=>
  rw [q] at e;have b5:j4 b=v:=dh e;subst b5;refine wpAny_truthy_bool ?_;have:bs.getD i true=b:=by simp [As,q]
  have An:Q (bs.getD i true) s:=aV;rw [this] at An;exact An
theorem Y' (bs:List Bool):(fL bs.length).all (fun i=>bs.getD i true)=bs.all id:=by
 rw [kD];simp only [m7,om,id];constructor
 .intro h b ae;obtain ⟨i,ah,e⟩:=Xr.mp ae;have:=h i ah;simp [As,ah,e] at this;exact this
 .intro h i ah;simp [As,ah];exact h _ (jg ah)
theorem aaU (bs:List Bool):(fL bs.length).any (fun i=>bs.getD i true)=bs.any id:=by
 rw [kD];simp only [p6,om,id];constructor
 .rintro ⟨i,ah,h⟩;refine ⟨bs[i],jg ah,?_⟩;simp [As,ah] at h;exact h
 .rintro ⟨b,ae,h⟩;obtain ⟨i,ah,e⟩:=Xr.mp ae;refine ⟨i,ah,?_⟩;simp [As,ah,e];exact h
theorem aeU (aw:X.calm=true):m4 X (.builtin "all") (fun xs H Q=>∃ (p:Addr) (bs:List Bool),xs=[.ref p]/\aD X.K H p (bs.map V.bl)/\Q (.bl (bs.all id)) H):=by
 intro ab s σ H xs us Q J r h;obtain ⟨p,bs,rfl,aN,q⟩:=h;obtain ⟨u,rfl,f7⟩:=ml r;cases f7;obtain ⟨a6,cR,pl,_⟩:=J.list aN;have e:=Ie cR;subst e;refine call_all_walk (wpAny_pyIter_list pl.isList ?_);have b4:p ≠ s.heap.objs.size:=gz (by obtain ⟨o,_,aS,_⟩:=pl;exact eA aS);refine ⟨s.heap.objs.size,_,_,_,_,_,fun i=>bs.getD i true,rfl,zW (show X.A.in1.handled=none from J.ok.hd aw) _ p b4 (bs.map j4).toArray,⟨⟨_,hN _ rfl,rfl,rfl⟩,pl.isList.at fun o e=>e2 _ e⟩,KZ bs,fun h' tk l0=>?_⟩;refine ⟨.bl (bs.all id),H,J.kept fun b o e=>l0 b o (by simpa using gz (eA e)) (e2 _ e),?_,q⟩;show j4 _=j4 _;rw [show (bs.map j4).toArray.size=bs.length by simp,Y']
theorem Yt (aw:X.calm=true):m4 X (.builtin "any") (fun xs H Q=>∃ (p:Addr) (bs:List Bool),xs=[.ref p]/\aD X.K H p (bs.map V.bl)/\Q (.bl (bs.any id)) H):=by
 intro ab s σ H xs us Q J r h;obtain ⟨p,bs,rfl,aN,q⟩:=h;obtain ⟨u,rfl,f7⟩:=ml r;cases f7;obtain ⟨a6,cR,pl,_⟩:=J.list aN;have e:=Ie cR;subst e;refine call_any_walk (wpAny_pyIter_list pl.isList ?_);have b4:p ≠ s.heap.objs.size:=gz (by obtain ⟨o,_,aS,_⟩:=pl;exact eA aS);refine ⟨s.heap.objs.size,_,_,_,_,_,fun i=>bs.getD i true,rfl,zW (show X.A.in1.handled=none from J.ok.hd aw) _ p b4 (bs.map j4).toArray,⟨⟨_,hN _ rfl,rfl,rfl⟩,pl.isList.at fun o e=>e2 _ e⟩,KZ bs,fun h' tk l0=>?_⟩;refine ⟨.bl (bs.any id),H,J.kept fun b o e=>l0 b o (by simpa using gz (eA e)) (e2 _ e),?_,q⟩;show j4 _=j4 _;rw [show (bs.map j4).toArray.size=bs.length by simp,aaU]
end
theorem er {X:a8} {N:List Str} (h:N.Nodup) (e:X.N=N):X.N.Nodup:=e ▸ h
noncomputable def SO (sc scope:Scope):Bool:=
 (scope.kind == .function) && scope.names.all (fun y=>y.2 != .cell) && scope.names.all (fun y=>y.2 != .free || sc.names.lookup y.1 == some .cell || sc.names.lookup y.1 == some .free) &&
  scope.names.all (fun y=>y.2 != .local || scope.names.lookup y.1 == some .local)
theorem gQ {env:Env} (he:env.scope=sc) (h:SO sc scope=true):o7 env scope:=by
 subst he;unfold SO at h;simp only [hy,m7] at h;obtain ⟨⟨⟨af,ao⟩,a_⟩,cL⟩:=h;refine ⟨by simpa using af,fun y a7 e=>?_,fun y a7 e=>?_,fun y a7 e=>?_⟩
 .have:=ao y a7;rw [e] at this;exact absurd this (by decide)
 .have:=a_ y a7;rw [e] at this;simp only [v5] at this;rcases this with (z | z) | z
  .exact absurd z (by decide)
  .exact .inl (show env.scope.names.lookup y.1=some .cell by simpa using z)
  .exact .inr (show env.scope.names.lookup y.1=some .free by simpa using z)
 .have:=cL y a7;rw [e] at this;simp only [v5] at this;rcases this with z | z
  .exact absurd z (by decide)
  .simpa using z
noncomputable def OO (M:List Str) (scope:Scope) (N:List Str) (sel:List (Option Nat)):Bool:=
 sel.length == N.length && (sel.zip N).all fun p=>match p.1 with | none=>true | some j=>M[j]? == some p.2 && scope.names.lookup p.2 == some .free
theorem gF {N:List Str} (h:OO M scope N sel=true):uP M scope N sel:=by
 unfold OO at h;simp only [hy,m7] at h;refine ⟨by simpa using h.1,fun i j x au aI=>?_⟩;have hm:(some j,x) ∈ sel.zip N:=by
  rw [List.mem_iff_getElem?];exact ⟨i,by rw [List.getElem?_zip_eq_some];exact ⟨au,aI⟩⟩
 have:=h.2 _ hm;simp only [hy] at this;exact ⟨by simpa using this.1,by simpa using this.2⟩
noncomputable def oX:f6->Bool
 | .fU _=>false
 | .eL _ u=>oX u
 | _=>true
def aP (H:aq):Prop:=∀ b o,H b=some o->oX o=true
theorem ek.back {w:World} {h h':Heap}:∀ (o:f6),oX o=true->ek P w I h' a o->ek P w H h a o->ek P w H h' a o
 | .lst _,_,x,_=>x
 | .tup _,_,x,_=>x
 | .bw _,_,x,_=>x
 | .fU _,e,_,_=>absurd e (by unfold oX;decide)
 | .set _ _,_,x,_=>x
 | .ins _ _ _,_,x,y=>⟨y.1,x.2⟩
 | .own _,_,x,_=>x
 | .A5 _,_,x,_=>x
 | .met _ _,_,x,_=>x
 | .ym _ _,_,x,_=>x
 | .eL bZ u,e,x,y=>⟨x.1,ek.back u (by unfold oX at e;exact e) x.2 y.2⟩
 | .gI _,_,x,_=>x
 | .ext _,_,x,_=>x
section
variable {P:Program} {w:World} {K:ba} {mg:Str->Option Value} {base:Heap}
theorem cH.forget {k:Nat} {fd:FuncData} (F:cH P w K mg base dz k f fd ps sp)
  (h:∀ vs H Q E,wh vs H Q E->aP H/\sp vs H (fun v I=>ac H I/\Q v H) E):cH P w K mg base dz k f fd ps wh:=by
 refine ⟨fun vs H Q E q=>F.len vs H _ E (h vs H Q E q).2,fun A outer s H args us vs Q E ak he ae aK ax=>?_⟩;obtain ⟨bE,q⟩:=h vs H Q E ax;refine codeAny_mono (F.run A outer s H args us vs _ E ak he ae aK q) fun r aj aN=>?_
 cases r with
 | error e=>exact aN
 | ok d8=>
  cases d8 with
  | next=>exact aN
  | brk=>exact aN
  | cont=>exact aN
  | ret u=>
   obtain ⟨v,I,os,bare,un,bo,cR,bQ,ef⟩:=aN;exact ⟨v,H,os,bare,⟨un.keep,un.slot,fun _ _ _ n _=>n,un.there,fun _ _ z=>z,fun _ _ _ z=>z,fun _ ps z=>⟨#[],by rw [z];simp⟩⟩,fun a o e=>(bo a o (bQ a o e)).back o (bE a o e) (he.bo a o e),cR,ef⟩
end
theorem bp {p:Addr} (h:H p=none):ac H (upd H p o):=fun b u q=>by rw [aF (dB q h)];exact q
theorem ac.fC {p:Addr} (s:ac H H1) (h:H p=none):ac H (upd H1 p o):=fun b u q=>by rw [aF (dB q h)];exact s b u q
structure Sc (K:ba) (a:Addr) (ns:List Int) (H:aq):Prop where
 uK:(∃ o,H a=some (.eL o (.lst (ns.map V.int))))\/∃ (o:Obj) (a6:Array Value) (n:Nat),K.lookup a=some o/\o.cls=.type "list" /\ o.dict=none/\o.data=.seq a6 n/\a6.size <= sizeLine/\bY (ns.map V.int) a6.toList
 bE:aP H
section
variable {K:ba} {a p:Addr} {ns:List Int} {H I:aq} {o:f6}
theorem Sc.seq (s:Sc K a ns H):aD K H a (ns.map V.int):=by
 rcases s.uK with ⟨o,h⟩ | h
 .exact .inl (.inr ⟨o,h⟩)
 .exact .inr h
theorem Sc.new (s:Sc K a ns H) (av:H p=none) (aS:oX o=true:=by rfl):Sc K a ns (upd H p o):=by
 refine ⟨?_,fun b u e=>?_⟩
 .rcases s.uK with ⟨bZ,h⟩ | h
  .exact .inl ⟨bZ,by rw [aF (dB h av)];exact h⟩
  .exact .inr h
 .by_cases ae:b=p
  .subst ae;rw [db] at e;cases e;exact aS
  .rw [aF ae] at e;exact s.bE b u e
theorem Sc.set (s:Sc K a ns H) (av:H p=some u) (bq:∀ bZ z,u ≠ .eL bZ z) (aS:oX o=true:=by rfl):Sc K a ns (upd H p o):=by
 refine ⟨?_,fun b x e=>?_⟩
 .rcases s.uK with ⟨bZ,h⟩ | h
  .refine .inl ⟨bZ,?_⟩;have b4:a ≠ p:=fun z=>by subst z;rw [av] at h;exact bq _ _ (dh h)
   rw [aF b4];exact h
  .exact .inr h
 .by_cases ae:b=p
  .subst ae;rw [db] at e;cases e;exact aS
  .rw [aF ae] at e;exact s.bE b x e
end
theorem gK:bootBuiltins "len"=some (.builtin "len"):=PySem.boot_len
theorem Vm:bootBuiltins "all"=some (.builtin "all"):=by ac_nf
theorem Ue:bootBuiltins "any"=some (.builtin "any"):=by ac_nf
theorem yo:bootBuiltins "max"=some (.builtin "max"):=by ac_nf
theorem wd:bootBuiltins "int"=some (.type "int"):=by ac_nf
theorem vr:bootBuiltins "str"=some (.type "str"):=by ac_nf
theorem jQ.same (h:jQ H a o) (s:ac H I):jQ I a o:=by
 rcases h with h | ⟨bZ,h⟩
 .exact .inl (s _ _ h)
 .exact .inr ⟨bZ,s _ _ h⟩
theorem aD.same {K:ba} (h:aD K H a xs) (s:ac H I):aD K I a xs:=by
 rcases h with h | h
 .exact .inl (h.same s)
 .exact .inr h
theorem cM.same {K:ba} (h:cM K H a xs) (s:ac H I):cM K I a xs:=by
 rcases h with h | h
 .exact .inl (h.same s)
 .exact .inr h
theorem aP.upd {p:Addr} (h:aP H) (aS:oX o=true:=by rfl):aP (upd H p o):=fun b u e=>by
 by_cases ae:b=p
 .subst ae;rw [db] at e;cases e;exact aS
 .rw [aF ae] at e;exact h b u e
theorem Sc.same {K:ba} {ns:List Int} (s:Sc K a ns H) (bQ:ac H I) (bE:aP I):Sc K a ns I:=by
 refine ⟨?_,bE⟩;rcases s.uK with ⟨o,h⟩ | h
 .exact .inl ⟨o,bQ _ _ h⟩
 .exact .inr h
structure PQ (K:ba) (C:Addr) (m:Str) (f:Addr):Prop where
 j_:afH K C (.type "type")=true
 fd:agi K (.ref C) (.type "type") m=some (.val (.ref f))
 ga:tb K (.ref C) "__getattribute__"=some (some (.builtin "type.__getattribute__"))
 bK:qS K (.ref f)=true
structure n6 (P:Program) (w:World) (K:ba) (mg:Str->Option Value) (base:Heap) (CX:jx) (k:Nat) (nB:Addr->Prop) (m:Str) (ps:List Str) (nH:Addr->bN):Prop where
 ok:∀ C,nB C->∃ f fd,g8 K C/\fx K C m f/\cH P w K mg base CX k f fd ps (nH C)/\b1 K fd ps []
noncomputable def M1 (nB:Addr->Prop) (m:Str) (nH:Addr->bN) (E:fQ) (a9:TE) (t:fG):TE:=fun σ H Q=>a9 σ H fun x H1=>∃ a C ar aH,x=.ref a/\H1 a=some (.ins C ar aH)/\nB C/\aH.lookup m=none /\
 t σ H1 fun vs az=>nH C (x :: vs) az Q E
section
variable {X:a8} {CX:jx} {k:Nat} {f C:Addr} {fd:FuncData} {ps:List Str} {sp:bN} {dvs:List V} {ds:List Value} {E:fQ} {x m:Str} {p pos fW:Pos} {e o:Expr} {a4:List Expr} {a9:TE} {t:fG}
theorem Je (bg:lX X x) (hm:X.mg x=some (.ref C)) (c:PQ X.K C m f) (F:cH X.prog X.w X.K X.mg X.base CX k f fd ps sp) (ak:ee k X.A) (ae:b1 X.K fd ps ds) (hd:bY dvs ds) (ag:oB CX X E) (aX:jM X (e :: a4) t)
  (mu:(x == ("__debug__" : Str))=false:=by decide) (gP:starEach (e :: a4) X.env=(false,eval e X.env) :: starEach a4 X.env:=by rfl) (cY:(backTo pos (starEach a4 X.env)).any (·.1)=false:=by rfl)
  (cS:eval (.Call (.Attribute (.Name x p) m fW) (e :: a4) [] pos) X.env=(do
   let e3 <- eval (.Name x p) X.env
   standAt fW.atName
   let (f,first) <- holding [e3] (getMethod e3 m pl)
   callWith pos f first (backTo pos (starEach (e :: a4) X.env)) (backToKw pos (keywordEach [] X.env))):=by rfl) :
  br X (.Call (.Attribute (.Name x p) m fW) (e :: a4) [] pos) (vG sp dvs E t):=by
 intro ab s σ H Q J h;refine CK (pl:=pl) (yh J bg hm ?_ mu) cS;refine PySem.W.method_cls J.i' c.ga (PySem.W.cls_value J.i' c.j_ c.fd rfl ?_);have a3:=J.tok (s.toks + 1);refine Hc (first:=[]) (h₀:=X.base) J.ok.mod.sj c.bK (bC (aX pos ab _ σ H _ a3 h) fun us s2 ⟨vs,az,bP,r,dO⟩=>⟨bP.i',?_⟩) gP cY;exact wa F ak ae hd ag bP r dO
variable {nB:Addr->Prop} {nH:Addr->bN}
theorem AY (he:br X o a9) (V:n6 X.prog X.w X.K X.mg X.base CX k nB m ps nH) (ak:ee k X.A) (ag:oB CX X E)
  (cS:eval (.Call (.Attribute o m fW) [] [] pos) X.env=(do
   let e3 <- eval o X.env
   standAt fW.atName
   let (f,first) <- holding [e3] (getMethod e3 m pl)
   callWith pos f first (backTo pos (starEach [] X.env)) (backToKw pos (keywordEach [] X.env))):=by rfl) :
  br X (.Call (.Attribute o m fW) [] [] pos) (M1 nB m nH E a9 v3):=by
 intro ab s σ H Q J h;refine CK (pl:=pl) (bC (he ab s σ H _ J h) fun u s1 bx=>?_) cS;obtain ⟨x,H1,a3,bb,a,C,ar,aH,ex,g_,ok,l,q⟩:=bx;subst ex;obtain rfl:u=fN a:=bb;obtain ⟨f,fd,c,hm,F,ae⟩:=V.ok C ok;refine H2 a3 g_ c hm l ?_;exact VA (first:=[.ref a]) a3.i' hm.bK (wa (us:=[.ref a]) (vs:=[.ref a]) (dvs:=[]) F ak ae .nil ag a3 (.cons rfl .nil) q)
end
section
variable {X:a8} {x:Str} {p pos:Pos} {i:Expr} {ty:TE} {u:Value} {kvs:List (Str × V)}
end
theorem f3:∀ {aH:List (Str × V)} (cc:List Str),aH.map (·.1)=cc->cc.contains f=false->c2 f v aH=aH ++ [(f,v)]
 | [],_,_,_=>rfl
 | (g,y) :: r,cc,e,h=>by
  cases e;rw [eV,Mx] at h;have af:=(sT.mp h);have b4:¬ g=f:=fun z=>by
   have:=af.1;rw [z] at this;simp at this
  show (if g=f then _ else _)=_;rw [if_neg b4,f3 _ rfl af.2];rfl
theorem gH {aH:List (Str × V)} (h:aH.length < n):(c2 f v aH).length < n + 1:=hp (I7 f v aH) (by omega)
theorem gf:∀ {aH:List (Str × V)} (cc:List Str) (i:Nat),aH.map (·.1)=cc->cc.findIdx? (· == f)=some i->aH[i]? = some (f,v)->aH.lookup f=some v
 | [],_,_,_,_,h=>by simp at h
 | (g,y) :: r,cc,i,e,h,aK=>by
  cases e;rw [eV,List.findIdx?_cons] at h;rw [oh];by_cases e:g=f
  .subst e;rw [beq_self_eq_true,if_pos rfl] at h;cases h;have:(g,y)=(g,v):=by simpa using aK
   cases this;rw [beq_self_eq_true]
  .rw [beq_eq_false_iff_ne.mpr e,if_neg (by decide)] at h;obtain ⟨j,aO,rfl⟩:=uL.mp h;rw [beq_eq_false_iff_ne.mpr (fun z=>e z.symm)];exact gf _ j rfl aO (by simpa using aK)
theorem uk:∀ {aH:List (Str × V)} (cc:List Str),aH.map (·.1)=cc->cc.contains f=false->aH.lookup f=none
 | [],_,_,_=>rfl
 | (g,y) :: r,cc,e,h=>by
  cases e;rw [eV,Mx] at h;have af:=(sT.mp h);rw [oh,af.1];exact uk _ rfl af.2
theorem Inv.RF {X:a8} {ab:List (Addr × Obj)} {σ:St} {H:aq} {s:Shared} {h':Heap} {t':Nat} {bt:List Addr} (J:Inv X ab σ H s) (k:∀ b o,b ∉ bt->s.heap.get? b=some o->h'.get? b=some o)
  (hf:∀ b ∈ bt,jo X ab H b):Inv X ab σ H { s with heap:=h',toks:=t' }:=by
 have nit:∀ b u,H b=some u->b ∉ bt:=fun b u e z=>by rw [(hf b z).1] at e;cases e
 refine J.step (g':=s.gens) (d':=s.drawn) (ch:=bt) (fun b ae=>?_) (fun b o _ _ aw e _=>k b o aw e) (fun b o _ _ aw e _=>⟨o.slots,k b o aw e⟩) (fun _ _ _ _ n=>n)
  (fun b o aw e=>⟨o,k b o aw e⟩) (fun _ _ e=>e) (fun _ _ _ e=>e) (fun b ps e=>⟨#[],by rw [e];simp⟩) (fun m hm=>?_) (fun b u e=>?_) J.bare
 .obtain ⟨f0,f1,f2,dY,f4,ea⟩:=hf b ae;exact ⟨dY,f1,f4,ea⟩
 .obtain ⟨o,a4,cF,aS,r⟩:=hm;exact ⟨o,a4,cF,k _ o (fun z=>(hf _ z).2.1 rfl) aS,r⟩
 .refine (J.bo b u e).nL (fun c v aw q=>k c v ?_ q) (fun _ q=>q) fun _ _ q=>q
  rcases aw with z | z
  .rw [z];exact nit b u e
  .exact nit c _ z
noncomputable def BR (K:ba) (a:Addr):jm:=
 ⟨fun i H=>∃ xs x,aD K H a xs/\xs[i]? = some x,fun i H v I=>∃ p y,H p=none/\v=.ref p/\(∀ xs,aD K H a xs->xs[i]? = some y)/\I=upd H p (.tup [.int i,y]),fun i H=>∃ xs,aD K H a xs/\xs.length <= i⟩
theorem S4 {P:Program} {w:World} {K:ba} {a4:List Expr} {k} {pos:Pos} (a e it:Addr) (b4:e ≠ it) :
  pH P w K (.Tuple a4 k pos) (BR K a) [e,it] e (fun i h=>∃ old,IsEnum h e it ((i:Nat):Int) old/\h.IsListIter it a i) where
 mem:=by simp
 obj:=fun i h ⟨old,he,ah⟩ b ae=>by
  simp only [fh,o9,or_false] at ae;rcases ae with rfl | rfl
  .exact ⟨_,he,fun v z=>by
    have hJ:S9 _=Data.cell v:=z;cases hJ⟩
  .obtain ⟨o,q,c,d⟩:=ah;exact ⟨o,q,fun v z=>by rw [d] at z;cases z⟩
 keep:=fun i h h' ⟨old,he,ah⟩ k=>⟨old,k e (by simp) _ he,ah.at fun o q=>k it (by simp) o q⟩
 item:=by
  intro X cK hw fS aw i ab s σ H E J hf ⟨old,he,ah⟩ bg;subst cK hw fS;obtain ⟨xs,x,aN,ag⟩:=bg;obtain ⟨a6,cR,p,aQ⟩:=J.list aN;obtain ⟨u,bq,f7⟩:=cR.get ag;refine wpAny_pyNext_enum_item he ah p.isList (x:=u) (by simpa using bq) b4 fun af agn X1 VU Ig Ik=>⟨_,rfl,?_⟩
  refine wpAny_letOwnedTupleGo_enum agn fun ao WX kS=>?_
  replace kS:wi e af ao:=kS;have J':e < s.heap.objs.size:=eA he;have aB:∀ b o,b ∉ [e,it]->s.heap.get? b=some o->ao.get? b=some o:=fun b o ae q=>by
   simp only [fh,o9,or_false,not_or] at ae;exact kS.extBut _ _ ae.1 (Ik b o ae.1 ae.2 q)
  have a3:Inv X ab σ H { s with heap:=ao,toks:=s.toks + 1 }:=J.RF aB hf;have hY:jo X ab H s.heap.objs.size:=J.n7 (bW _) (J.bo.fresh (bW _));have aar:ao.get? s.heap.objs.size=some { cls:=.type "tuple",data:=.seq #[.int i s.toks,u] }:=(kS.2 _ (Mo J')).trans VU;have bP:=a3.adopt (o:=.tup [.int i,x]) hY ⟨by show 2 <= sizeLine;decide,[.int i s.toks,u],.cons ⟨_,rfl⟩ (.cons f7 .nil),⟨_,aar,rfl,_,rfl⟩⟩;refine ⟨.ref s.heap.objs.size,_,bP,rfl,⟨_,x,hY.1,rfl,fun ys a7=>by rw [J.w1 a7 aN];exact ag,rfl⟩,⟨u,?_,?_⟩,fun b ae=>?_⟩
  .have au:((i + 1:Nat):Int)=(i:Int) + 1:=by omega
   rw [au];exact WX
  .exact X1.extBut kS.extBut (eg b4)
  .have dt:b < s.heap.objs.size:=by
    simp only [fh,o9,or_false] at ae;rcases ae with rfl | rfl
    .exact J'
    .obtain ⟨o,q,_⟩:=ah;exact eA q
   rw [aF (gz dt)];exact (hf b ae).1
 done:=by
  intro X cK hw fS aw i ab s σ H E J hf ⟨old,he,ah⟩ bg;subst cK hw fS;obtain ⟨xs,aN,ag⟩:=bg;obtain ⟨a6,cR,p,aQ⟩:=J.list aN;have aM:=cR.length;exact wpAny_pyNext_enum_end (J.ok.hd aw) he ah p.isList (by simp;omega) fun h' fa=>⟨rfl,J.RF (t':=s.toks) (fun b o ae q=>fa b o (fun z=>ae (by simp [z])) q) hf⟩
 self:=fun _ _ _ _ _ ⟨_,he,_⟩ h=>wpAny_pyIter_enum he h
theorem ag0:bootBuiltins "enumerate"=some (.type "enumerate"):=by ac_nf
noncomputable def Wi (K:ba) (a b:Addr):jm:=
  ⟨fun i H=>∃ xs ys x y,aD K H a xs/\aD K H b ys/\xs[i]? = some x/\ys[i]? = some y,
   fun i H v I=>∃ p x y,H p=none/\v=.ref p/\(∀ xs,aD K H a xs->xs[i]? = some x)/\(∀ ys,aD K H b ys->ys[i]? = some y)/\I=upd H p (.tup [x,y]),
   fun i H=>∃ xs ys,aD K H a xs/\aD K H b ys/\(xs.length <= i\/ys.length <= i)⟩
section
variable {X:a8}
noncomputable def I' (K:ba) (a9:fG):TI:=fun σ H R=>a9 σ H fun vs H1=>∃ a,vs=[.ref a]/\(∃ xs,aD K H1 a xs)/\R (BR K a) H1
theorem xf {k} {p pos:Pos} (bg:lX X "enumerate") (hm:X.mg "enumerate"=none) (aX:jM X [a] a9) (ax:starEach [a] X.env=[(false,eval a X.env)]:=by rfl) :
  oz X (.Tuple a4 k AN) (.Call (.Name "enumerate" p) [a] [] pos) (I' X.K a9):=by
 intro ab s σ H R J h;refine Call_ (u0 J bg hm ag0 (Kd (bC (aX pos ab s σ H _ J h) fun us s1 bx=>?_) ax rfl));obtain ⟨vs,H1,a3,cI,bL⟩:=bx;obtain ⟨a,e,⟨xs,aN⟩,q⟩:=bL;subst e;cases cI with
 | cons r r0=>
  cases r0;cases r;obtain ⟨a6,cR,pl,aQ⟩:=a3.list aN;refine call_enumerate_list pl.isList fun h' z8 JH hsz aB=>wpAny_pyIter_enum z8 ?_
  refine ⟨s1.heap.objs.size + 1,[s1.heap.objs.size + 1,s1.heap.objs.size],_,_,H1,rfl,a3.kept (t':=s1.toks) aB,S4 a _ _ (Nat.succ_ne_self _),⟨_,z8,JH⟩,fun b ae=>?_,q⟩;have g9:s1.heap.objs.size <= b:=by
   simp only [fh,o9,or_false] at ae;rcases ae with rfl | rfl
   .exact Fp _
   .exact bW _
  exact a3.n7 g9 (a3.bo.fresh g9)
end
theorem ly {k:Nat} {t:qI} {K:ba} (fS:X.K=K) (aw:X.calm=true) (h:wB X a4 t)
  (aT:(assignEach a4 X.env).length=n:=by rfl) (gP:(assignEach a4 X.env).findIdx? (·.1)=none:=by rfl):l7 X (.Tuple a4 k pos) (sG K n t):=by
 subst fS;exact aef aw h aT gP
section
variable {X:a8}
noncomputable def IS:V->List V->aq->cW->Prop:=fun x vs H Q=>∃ l xs i y,x=.ref l/\vs=[.int i,y]/\H l=some (.lst xs)/\0 <= i/\i < 2 ^ 62/\i <= (xs.length:Int)/\xs.length < sizeLine/\Q .bU (upd H l (.lst (xs.take i.toNat ++ y :: xs.drop i.toNat)))
theorem GD:Iv X "list.insert" IS:=by
 intro ab s σ H x vs v us Q J bb cR h;obtain ⟨l,xs,i,y,rfl,rfl,kC,h0,af,ao,aQ,q⟩:=h;cases bb;cases cR with
 | cons my agP=>
  cases agP with
  | @cons _ w _ _ hT rc=>
   cases rc;obtain ⟨t,rfl⟩:=my;obtain ⟨z,a6,n,r,aM,e⟩:=J.Bg kC;refine call_meets Dq ⟨_,e,rfl⟩ F.entry_list_insert (F.args_list_insert_3 _ _ _) (AutoListH.list_insert_list_int_val_1 l a6.toArray n i t w (by rw [fitsIndex_both (k:=i) (by omega) (by omega)];decide) (by rw [eb];omega)) ⟨e,?_⟩;refine ⟨.bU,_,J.ID (its':=a6.take i.toNat ++ w :: a6.drop i.toNat) kC e ?_ ((r.take i.toNat).append (.cons hT (r.drop i.toNat))) ?_,rfl,q⟩
   .have aB:(if i < 0 then (i + ((a6.toArray.size:Nat):Int)).toNat else min i.toNat a6.toArray.size)=i.toNat:=by
     rw [if_neg (by omega),eb];omega
    show (a6.toArray.extract 0 (if i < 0 then (i + ((a6.toArray.size:Nat):Int)).toNat else min i.toNat a6.toArray.size)).push w ++ a6.toArray.extract (if i < 0 then (i + ((a6.toArray.size:Nat):Int)).toNat else min i.toNat a6.toArray.size)=_;rw [aB];apply Nx.mp;simp;exact Jz (by rw [tP];exact bW _)
   .rw [c6,hQ,hq,tP];omega
end
inductive ih (K:ba) (H:aq):Nat->V->V->Bool->Prop
 | flat {k:Nat} {x y:V} (ag:kB x=true) (a7:kB y=true):ih K H k x y (jF x y)
 | lst {k:Nat} {p q:Addr} {xs ys:List V} {e:Nat->Bool} (av:aD K H p xs) (aN:aD K H q ys) (aM:xs.length=ys.length) (he:∀ (j:Nat) (x y:V),xs[j]? = some x->ys[j]? = some y->ih K H k x y (e j)):ih K H (k + 1) (.ref p) (.ref q) ((fL xs.length).all e)
 | vc {k:Nat} {p q:Addr} {xs ys:List V} (av:aD K H p xs) (aN:aD K H q ys) (aM:xs.length ≠ ys.length):ih K H (k + 1) (.ref p) (.ref q) false
 | tup {k:Nat} {p q:Addr} {xs ys:List V} {e:Nat->Bool} (av:cM K H p xs) (aN:cM K H q ys) (he:∀ (j:Nat) (x y:V),xs[j]? = some x->ys[j]? = some y->ih K H k x y (e j)):ih K H (k + 1) (.ref p) (.ref q) ((fL (min xs.length ys.length)).all e && xs.length == ys.length)
theorem SG {x:V} (h:kB x=true):jF x x=true:=by
 cases x <;> first | rfl | (simp [jF];done) | cases h
theorem Rr {e:Nat->Bool} (h:∀ j,j < n->e j=true):(fL n).all e=true:=by
 rw [m7];exact fun j aO=>h j (om.mp aO)
section
variable {X:a8} {ab:List (Addr × Obj)} {σ:St} {H:aq} {s:Shared}
theorem ih.self (J:Inv X ab σ H s) {k:Nat} {x y:V} (h:ih X.K H k x y b) (e:x=y):b=true:=by
 induction h with
 | flat ag a7=>subst e;exact SG ag
 | @lst k p q xs ys f av aN aM he b9=>
  injection e with e;subst e;have:=J.w1 av aN;subst this;refine Rr fun j aO=>?_
  exact b9 j xs[j] xs[j] (a' aO) (a' aO) rfl
 | vc av aN aM=>
  injection e with e;subst e;have:=J.w1 av aN;subst this;exact absurd rfl aM
 | @tup k p q xs ys f av aN he b9=>
  injection e with e;subst e;have:=J.QO av aN;subst this;rw [hy];refine ⟨Rr fun j aO=>?_,by simp⟩;have fY:j < xs.length:=by omega
  exact b9 j xs[j] xs[j] (a' fY) (a' fY) rfl
theorem yA (A:Around):A.in1.units=A.units + 1:=rfl
theorem ae' (J:Inv X ab σ H s) {k:Nat} {x y:V} (h:ih X.K H k x y b):∀ (A:Around) (v u:Value),A.units + k < cLine->bH x v->bH y u ->
  Fq A s v u b/\(∀ p q,x=.ref p->y=.ref q->FQ A s v u b):=by
 induction h with
 | flat ag a7=>
  intro A v u bq bb bj;refine ⟨OT bb bj ag a7,fun p q e _=>?_⟩;subst e;cases ag
 | @lst k p q xs ys f av aN aM he b9=>
  intro A v u bq bb bj;cases bb;cases bj;obtain ⟨a6,r,pl,aQ⟩:=J.list av;obtain ⟨lH,dj,mR,gr⟩:=J.list aN;have cy:=r.length;have c1:=dj.length;have rc:FQ A s (.ref p) (.ref q) ((fL xs.length).all f):=by
   have:=SeqAt.RcAt.lists (A:=A) (e:=f) pl.isList mR.isList (by simp only [eb];omega) (by omega) fun j af ao=>by
    simp only [eb] at af ao;have aO:j < xs.length:=by omega
    have fY:j < ys.length:=by omega
    obtain ⟨a,aX,my⟩:=r.get (a' aO);obtain ⟨c,aw,rc⟩:=dj.get (a' fY);have g_:a6.toArray[j]=a:=by
     have:=a' af;rw [aX] at this;simpa using (dh this).symm
    have kf:lH.toArray[j]=c:=by
     have:=a' ao;rw [aw] at this;simpa using (dh this).symm
    rw [g_,kf];exact (b9 j _ _ (a' aO) (a' fY) A.in1 a c (by rw [yA];omega) my rc).1
   rwa [eb,<- cy] at this
  refine ⟨?_,fun _ _ _ _=>rc⟩;by_cases b4:p=q
  .have ae:=(ih.lst av aN aM he).self J (congrArg V.ref b4);rw [ae,b4];exact RW _
  .exact J0 b4 rc
 | @vc k p q xs ys av aN aM=>
  intro A v u bq bb bj;cases bb;cases bj;obtain ⟨a6,r,pl,aQ⟩:=J.list av;obtain ⟨lH,dj,mR,gr⟩:=J.list aN;have cy:=r.length;have c1:=dj.length;have rc:FQ A s (.ref p) (.ref q) false:=SeqAt.RcAt.lists_lengths pl.isList mR.isList (by simp only [eb,bne_iff_ne,ne_eq];omega) (by omega);refine ⟨J0 (fun e=>aM ?_) rc,fun _ _ _ _=>rc⟩;subst e;rw [J.w1 av aN]
 | @tup k p q xs ys f av aN he b9=>
  intro A v u bq bb bj;cases bb;cases bj;obtain ⟨a6,r,pl,aQ⟩:=J.tuple av;obtain ⟨lH,dj,mR,gr⟩:=J.tuple aN;have cy:=r.length;have c1:=dj.length;have rc:FQ A s (.ref p) (.ref q) ((fL (min xs.length ys.length)).all f && xs.length == ys.length):=by
   have:=SeqAt.RcAt.tuples (A:=A) (e:=f) pl mR (by omega) fun j af ao=>by
    simp only [eb] at af ao;have aO:j < xs.length:=by omega
    have fY:j < ys.length:=by omega
    obtain ⟨a,aX,my⟩:=r.get (a' aO);obtain ⟨c,aw,rc⟩:=dj.get (a' fY);have g_:a6.toArray[j]=a:=by
     have:=a' af;rw [aX] at this;simpa using (dh this).symm
    have kf:lH.toArray[j]=c:=by
     have:=a' ao;rw [aw] at this;simpa using (dh this).symm
    rw [g_,kf];exact (b9 j _ _ (a' aO) (a' fY) A.in1 a c (by rw [yA];omega) my rc).1
   rwa [eb,eb,<- cy,<- c1] at this
  refine ⟨?_,fun _ _ _ _=>rc⟩;by_cases b4:p=q
  .have ae:=(ih.tup av aN he).self J (congrArg V.ref b4);rw [ae,b4];exact RW _
  .exact J0 b4 rc
theorem SK (J:Inv X ab σ H s) {k:Nat} {A:Around} {xs ys:List V} {a6 lH:List Value} {f:Nat->Bool} (bq:A.units + k < cLine) (r:bY xs a6) (dj:bY ys lH)
  (he:∀ (j:Nat) (x y:V),xs[j]? = some x->ys[j]? = some y->ih X.K H k x y (f j)):∀ j (af:j < a6.toArray.size) (ao:j < lH.toArray.size),Fq A s a6.toArray[j] lH.toArray[j] (f j):=fun j af ao=>by
 simp only [eb] at af ao;have cy:=r.length;have c1:=dj.length;have aO:j < xs.length:=by omega
 have fY:j < ys.length:=by omega
 obtain ⟨a,aX,my⟩:=r.get (a' aO);obtain ⟨c,aw,rc⟩:=dj.get (a' fY);have g_:a6.toArray[j]=a:=by
  have:=a' af;rw [aX] at this;simpa using (dh this).symm
 have kf:lH.toArray[j]=c:=by
  have:=a' ao;rw [aw] at this;simpa using (dh this).symm
 rw [g_,kf];exact (ae' J (he j _ _ (a' aO) (a' fY)) A a c bq my rc).1
theorem aaD (J:Inv X ab σ H s) {k:Nat} {p q:Addr} (h:ih X.K H k (.ref p) (.ref q) b) (A:Around) (bq:A.units + k < cLine):SeqAt.RcNeAt A s (.ref p) (.ref q) (!b):=by
 cases h with
 | flat ag a7=>cases ag
 | @lst k _ _ xs ys f av aN aM he=>
  obtain ⟨a6,r,pl,aQ⟩:=J.list av;obtain ⟨lH,dj,mR,gr⟩:=J.list aN;have cy:=r.length;have c1:=dj.length;have:=ak9 (A:=A) (e:=f) pl.isList mR.isList (by simp only [eb];omega) (by omega) (SK J (A:=A.in1) (k:=k) (by rw [yA];omega) r dj he);rwa [eb,<- cy] at this
 | @vc k _ _ xs ys av aN aM=>
  obtain ⟨a6,r,pl,aQ⟩:=J.list av;obtain ⟨lH,dj,mR,gr⟩:=J.list aN;have cy:=r.length;have c1:=dj.length;exact akP pl.isList mR.isList (by simp only [eb,bne_iff_ne,ne_eq];omega) (by omega)
 | @tup k _ _ xs ys f av aN he=>
  obtain ⟨a6,r,pl,aQ⟩:=J.tuple av;obtain ⟨lH,dj,mR,gr⟩:=J.tuple aN;have cy:=r.length;have c1:=dj.length;have:=ajl (A:=A) (e:=f) pl mR (by omega) (SK J (A:=A.in1) (k:=k) (by rw [yA];omega) r dj he);rwa [eb,eb,<- cy,<- c1] at this
end
section
variable {X:a8}
noncomputable def CQ (K:ba):eN:=fun x y H Q=>∃ p q b,x=.ref p/\y=.ref q/\ih K H 8 (.ref p) (.ref q) b/\Q (.bl (!b)) H
theorem aag (Qg:X.A.units + 64 < cLine):hb X (compareOp .NotEq) (CQ X.K):=by
 intro ab s σ H x y v u Q J bb bj h;obtain ⟨p,q,b,rfl,rfl,z8,ef⟩:=h;cases bb;cases bj;exact aaD J z8 X.A (by omega) _ _ _ _ ⟨.bl (!b),H,J,rfl,ef⟩
end
theorem ih.mono {K:ba} {j k:Nat} {x y:V} (h:ih K H j x y b):j <= k->ih K H k x y b:=by
 induction h generalizing k with
 | flat ag a7=>exact fun _=>.flat ag a7
 | lst av aN aM he b9=>
  intro aB;obtain ⟨m,rfl⟩:∃ m,k=m + 1:=⟨k - 1,by omega⟩;exact .lst av aN aM fun j x y af ao=>b9 j x y af ao (by omega)
 | vc av aN aM=>
  intro aB;obtain ⟨m,rfl⟩:∃ m,k=m + 1:=⟨k - 1,by omega⟩;exact .vc av aN aM
 | tup av aN he b9=>
  intro aB;obtain ⟨m,rfl⟩:∃ m,k=m + 1:=⟨k - 1,by omega⟩;exact .tup av aN fun j x y af ao=>b9 j x y af ao (by omega)
end L2
namespace L2
open PySem PySem.Spec PyProof.Rows PySem.Builtin PySem.Builtin.ObjectAttr
noncomputable abbrev P1:List Value:=[.type "ValueError",.type "Exception",.type "BaseException",.type "object"]
noncomputable def Ky (K:ba) (C q0:Addr):Bool:=
 match K.lookup C with
 | some ⟨.type "type",_,.cls cd,bF⟩=>
  match cd.mro,bF.toList with
  | .ref D :: dS,[_,_,_,_,some (.builtin n),_]=>
   (D == C) && (n == "ValueError.__new__") && (cd.hasDel == false) && (cd.hasDict == true) && PySem.W.tailIn K P1 dS && PySem.W.nsOkIn K cd.ns && (PySem.W.nsIn K cd.ns "__init__" == some (some (.ref q0)))
  | _,_=>false
 | _=>false
section
variable {P:Program} {w:World} {A:Around} {h:Heap} {g:Array GenState} {d:Drawn} {t:Nat} {os:OsState} {K:ba} {C q0:Addr} {R:Result->Shared->Prop}
end
noncomputable def Cd:List Value->Bool
 | .ref _ :: r=>Cd r
 | l=>l == P1
structure aeK (K:ba) (C:Addr):Prop where
 hd:x1 K C=true
 e3:((We K C).any fun cd=>Cd cd.mro)=true
 aY:dq K (.ref C) "__setattr__"=some (some (.builtin "object.__setattr__"))
 ga:dq K (.ref C) "__getattribute__"=some (some (.builtin "BaseException.__getattribute__"))
 gt:dq K (.ref C) "__getattr__"=some none
 ex:∃ q0,Ky K C q0=true
noncomputable def te (x C:Addr) (dp:Option Addr):Heap->Prop:=fun h=>∃ vs bF,h.get? x=some ⟨.ref C,dp,.fields vs,bF⟩/\1 < vs.size/\vs[1]? = some .none
noncomputable def tU (ar:Addr) (aH:List (Str × V)):Heap->Prop:=fun h=>∃ dW,h.Ns1 ar dW/\(∀ f,hD (aH.lookup f) (dW f))/\BV dW (aH.map (·.1))
theorem te.at {x C:Addr} {h h':Heap} (z:te x C dp h) (k:∀ o,h.get? x=some o->h'.get? x=some o):te x C dp h':=let ⟨vs,bF,e,r⟩:=z;⟨vs,bF,k _ e,r⟩
theorem tU.at {aH:List (Str × V)} {h h':Heap} (z:tU ar aH h) (k:∀ o,h.get? ar=some o->h'.get? ar=some o):tU ar aH h':=let ⟨dW,e,r⟩:=z;⟨dW,e.at k,r⟩
theorem te.ok {w:World} {h:Heap} {x C:Addr} (z:te x C dp h):ek P w H h x (.ext (te x C dp)):=by
 obtain ⟨vs,bF,e,r⟩:=id z;exact ⟨z,⟨_,e⟩,fun af ao q k=>q.at k⟩
theorem tU.ok {w:World} {h:Heap} {aH:List (Str × V)} (z:tU ar aH h):ek P w H h ar (.ext (tU ar aH)):=by
 obtain ⟨dW,⟨o,a4,cF,e,_⟩,_⟩:=id z;exact ⟨z,⟨_,e⟩,fun af ao q k=>q.at k⟩
section
variable {prog:Program} {w:World} {A:Around} {E:Value->Shared->Prop} {K:ba} {C x:Addr} {s:Shared} {R:Result->Shared->Prop}
end
section
variable {X:a8} {ab:List (Addr × Obj)} {σ:St} {H:aq} {s:Shared} {x C ar:Addr} {aH:List (Str × V)} {f:Str} {y:V} {u:Value} {A:Around} {E:Value->Shared->Prop} {Q:Unit->Shared->Prop}
noncomputable def nQ (x C:Addr) (dp:Option Addr):Heap->Prop:=fun h=>∃ vs bF,h.get? x=some ⟨.ref C,dp,.fields vs,bF⟩
theorem nQ.at {x C:Addr} {h h':Heap} (z:nQ x C dp h) (k:∀ o,h.get? x=some o->h'.get? x=some o):nQ x C dp h':=let ⟨vs,bF,e⟩:=z;⟨vs,bF,k _ e⟩
theorem nQ.ok {w:World} {h:Heap} {x C:Addr} (z:nQ x C dp h):ek P w H h x (.ext (nQ x C dp)):=by
 obtain ⟨vs,bF,e⟩:=id z;exact ⟨z,⟨_,e⟩,fun af ao q k=>q.at k⟩
end
noncomputable abbrev Wk:=St->aq->(aq->Prop)->Prop
section
variable {X:a8} {e:Expr} {a4:List Expr} {n:Nat} {t:Wk} {bM:TE} {pos:Pos}
end
structure ak8 (K:ba) (L:Addr) (m:Str):Prop where
 j_:afH K L (.type "type")=true
 fd:agi K (.ref L) (.type "type") m=some (.val (.builtin "ValueError.__init__"))
 ga:tb K (.ref L) "__getattribute__"=some (some (.builtin "type.__getattribute__"))
section
variable {X:a8} {L:Addr} {x:Str} {p pos fW:Pos} {e:Expr} {a4:List Expr} {t:fG}
end
structure ajP (K:ba) (C q0:Addr):Prop where
 e:Ky K C q0=true
 fn:ag_ K (.ref q0)=some (.type "function")
 bK:qS K (.ref C)=true
section
variable {X:a8} {k:Nat} {f C:Addr} {fd:FuncData} {ps:List Str} {sp:bN} {x g:Str} {p pos pos' fW:Pos} {e o value:Expr} {a4:List Expr} {a9 fI:TE} {t:fG}
end
def wc (x C:Addr) (dp:Option Addr) (T:Addr) (d8:Value) (h:Heap):Prop:=
 T ≠ x/\∃ vs bF Ak tF,h.get? x=some ⟨.ref C,dp,.fields vs,bF⟩/\vs[1]? = some (.ref T)/\h.get? T=some Ak/\Ak.data=.fields tF/\tF[3]? = some d8
structure xn (aH:List Addr) (x:Addr) (rx:Option Addr) (h h':Heap):Prop where
 keep:∀ b o,h.get? b=some o->b ∉ aH->b ≠ x->some b ≠ rx->h'.get? b=some o
 slot:∀ b o,h.get? b=some o->b ∈ aH->∃ bF,h'.get? b=some { o with slots:=bF }
 there:∀ b o,h.get? b=some o->∃ dX,h'.get? b=some dX
section
variable {M:Model} {A:Around} {E:Value->Shared->Prop} {s:Shared}
theorem P6 {base h:Heap} (aM:h.FunFrames base l) (e:h.get? b=some o) (d:o.data=.fields vs):b ∉ k0 l:=fun hm=>by
 obtain ⟨_,dX,b5,hO⟩:=aM.mem hm;rw [e] at b5;cases b5;exact hO vs d
end
section
variable {P:Program} {w:World} {H:aq} {h h':Heap} {aH:List Addr} {x C T:Addr} {dp:Option Addr} {d8:Value} {rx:Option Addr} {o:f6}
theorem xn.bo (k:xn aH x rx h h') (ok:ep P w H h) (pZ:∀ b ∈ aH,H b=none) (iO:∀ t,rx=some t->H t=none) (gq:nP (H x)) (new:nQ x C dp h'):ep P w (upd H x (.ext (nQ x C dp))) h':=fun b u q=>by
 have vT:∀ c y,H c=some (.own y)->c ≠ x:=fun c y r z=>by subst z;rw [r] at gq;exact gq
 have D3:∀ c xs,H c=some (.tup xs)->c ≠ x:=fun c xs r z=>by subst z;rw [r] at gq;exact gq
 have l0:∀ c v,c ≠ x->H c ≠ none->h.get? c=some v->h'.get? c=some v:=fun c v cw cV r=>k.keep c v r (fun z=>cV (pZ c z)) cw fun z=>cV (iO c z.symm)
 by_cases ae:b=x
 .subst ae;rw [db] at q;cases q;exact new.ok
 .rw [aF ae] at q;refine (ok b u q).nL (fun c v aw r=>?_) (fun c r=>by rw [aF (vT c b r)];exact r) fun c xs r=>by rw [aF (D3 c xs r)];exact r
  rcases aw with rfl | aw
  .exact l0 c v ae (by rw [q];exact fun z=>by cases z) r
  .exact l0 c v (vT c b aw) (by rw [aw];exact fun z=>by cases z) r
theorem xn.un (k:xn aH x rx h h') (iO:∀ t,rx=some t->H t=none) (gq:nP (H x)):eY aH rx.toList H (upd H x o) h h':=by
 have ag:∀ b,H b=none->b ≠ x:=fun b n z=>by subst z;rw [n] at gq;exact gq
 have hm:∀ b u,H b=some u->¬ nP (some u)->b ≠ x:=fun b u q nm z=>by subst z;rw [q] at gq;exact nm gq
 refine ⟨fun b u q n cw cV=>k.keep b u q cw (ag b n) fun z=>cV (by rw [<- z];simp),fun b u q n cw cV=>k.slot b u q cw,fun b u q n _=>by rw [aF (ag b n)];exact n,fun b u q _=>k.there b u q,
  fun b xs q=>by rw [aF (hm b _ q fun z=>z)];exact q,fun b u xs q=>by rw [aF (hm b _ q fun z=>z)];exact q,fun b ps q=>⟨#[],by rw [aF (hm b _ q fun z=>z),q];simp⟩⟩
end
noncomputable def ac5 (P:Program) (w:World):jx:=fun outer H s E e aj=>
 ∃ x C dp I T,e=.ref x/\aj.os=s.os/\AllBare aj.gens/\eY (k0 outer) [] H I s.heap aj.heap/\ep P w I aj.heap/\I x=some (.ext (nQ x C dp))/\s.heap.objs.size <= T/\I T=none/\wc x C dp T .none aj.heap/\E (.ref C) dp I
structure akC (X:a8):Prop where
 st:X.stack=X.env :: X.outer
 fr:X.env.frame=some X.env.locals
def Te (X:a8) (ab:List (Addr × Obj)) (T:Addr):Prop:=(T ∈ X.ex\/X.fs.heap.objs.size <= T)/\T ≠ X.env.locals/\(∀ x c,X.env.cells.lookup x=some c->c ≠ T)/\∀ p ∈ X.d7 ++ ab,p.1 ≠ T
section
variable {X:a8} {ab:List (Addr × Obj)} {σ:St} {H:aq} {s:Shared} {T x C:Addr} {dp:Option Addr} {E:St->fQ} {M:Model} {A:Around} {aki:Value->Shared->Prop} {Q:Unit->Shared->Prop} {e d8:Value} {h':Heap}
end
section
variable {P:Program} {w:World} {K:ba} {mg:Str->Option Value} {base:Heap} {N:List Str} {qual:Str} {scope:Scope} {f:Addr} {cd:Value} {A:Around} {outer:List Env} {s:Shared} {H:aq} {E:fQ}
end
section
variable {X:a8} {CX:jx} {k:Nat} {f C:Addr} {fd:FuncData} {ps:List Str} {sp:bN} {dvs:List V} {ds:List Value} {E:St->fQ} {x m:Str} {p pos fW:Pos} {e o:Expr} {a4:List Expr} {a9:TE} {t:fG}
end
noncomputable abbrev a8.pw (X:a8) (d7:List (Addr × Obj)) (E:Value->Shared->Prop):a8:={ X with d7:=X.d7 ++ d7,dF:=E }
noncomputable abbrev a8.aT (X:a8) (e:Value):a8:={ X with A:=X.A.mark (some e),calm:=false,dF:=fun _ _=>False }
section
variable {X:a8} {ab Sx:List (Addr × Obj)} {σ:St} {H:aq} {s:Shared} {E:Value->Shared->Prop} {e:Value}
theorem a8.Ok.pw (ok:X.Ok) (d7:List (Addr × Obj)) (E:Value->Shared->Prop):(X.pw d7 E).Ok:=
 ⟨ok.mod,ok.kind,ok.glob,ok.blt,ok.above,ok.inj,ok.has,ok.pD,ok.hd,ok.frames,ok.qU,ok.ux,ok.bs,ok.kc,ok.pW,ok.o4,ok.jO,ok.mJ⟩
theorem a8.Ok.aT (ok:X.Ok) (e:Value):(X.aT e).Ok:=
 ⟨ok.mod,ok.kind,ok.glob,ok.blt,ok.above,ok.inj,ok.has,ok.pD,(fun z=>Bool.noConfusion z),ok.frames,ok.qU,ok.ux,ok.bs,ok.kc,ok.pW,ok.o4,ok.jO,ok.mJ⟩
theorem Inv.pw (J:Inv X ab σ H s) (E:Value->Shared->Prop):Inv (X.pw ab E) [] σ H s:=⟨J.ok.pw ab E,J.os,J.bare,J.base,J.loc,J.cell,J.free,J.i8,fun p av=>J.pin p (by simpa using av),J.bo,J.len⟩
theorem Inv.aT (J:Inv X ab σ H s) (e:Value):Inv (X.aT e) ab σ H s:=⟨J.ok.aT e,J.os,J.bare,J.base,J.loc,J.cell,J.free,J.i8,J.pin,J.bo,J.len⟩
end
noncomputable def gW.gone (D:gW) (i:Nat):gW:={ b7:=fun σ H=>D.b7 (σ.set i none) H,kK:=D.kK,cE:=fun σ H=>D.cE (σ.set i none) H,eI:=fun σ H=>D.eI (σ.set i none) H }
section
variable {X:a8} {body ajw:List Stmt} {BH:Stmt} {x n:Str} {c:Addr} {i:Nat} {bI:(St->fQ)->ed} {uz:ed} {akZ av pos:Pos}
end
theorem Ln (D:gW) (i:Nat) (σ:St) (H:aq):(D.gone i).b7 σ H=D.b7 (σ.set i none) H:=rfl
theorem JW (D:gW) (i:Nat) (v:V) (H:aq):(D.gone i).kK v H=D.kK v H:=rfl
theorem OwnTail.has {h:Heap} {bm dS:List Value} (T:OwnTail h bm dS) (e:bm.contains v=true):dS.contains v=true:=by
 induction T with
 | base=>exact e
 | own _ _ _ _ b9=>rw [Mx,b9,Ri]
section
variable {X:a8} {e:Expr} {bM:TE} {pos:Pos} {E:St->fQ}
theorem hI.k9 {st:Stmt} {t:ed} (h:hI X.k9 st t):hI X st t:=fun ab s σ H D J hw=>
 wpAny_mono (h ab s σ H D (J.h7 _) hw) (fun _ _ q=>q.mX) fun _ _ z=>iK z
end
def sh (B:a8) (E:fQ) (e:Value) (aj:Shared):Prop:=
 ∃ ab d8 aA I x C dp T,e=.ref x/\Inv B ab aA I aj/\I x=some (.ext (nQ x C dp))/\I T=none/\Te B ab T/\B.fs.heap.objs.size <= T/\wc x C dp T d8 aj.heap/\E (.ref C) dp I
structure LC (X:a8) (scope:Scope) (N:List Str) (dc elt:Expr) (ifs:List Expr) (g:gi) (c0:TT) (bM:fQ->TE):Prop where
 NK:∀ E C s H bt,l7 ((X.block scope C N s H bt).h7 (sh (X.block scope C N s H bt) E)) dc g
 tests:∀ E C s H bt,tQ ((X.block scope C N s H bt).h7 (sh (X.block scope C N s H bt) E)) ifs c0
 elem:∀ E C s H bt,br ((X.block scope C N s H bt).h7 (sh (X.block scope C N s H bt) E)) elt (bM E)
theorem LC.of {N:List Str} (af:∀ E C s H bt,l7 ((X.block scope C N s H bt).h7 (sh (X.block scope C N s H bt) E)) dc g)
  (ao:∀ E C s H bt,∃ t,tQ ((X.block scope C N s H bt).h7 (sh (X.block scope C N s H bt) E)) ifs t/\t=c0) (a_:∀ E C s H bt,∃ t,br ((X.block scope C N s H bt).h7 (sh (X.block scope C N s H bt) E)) elt t/\t=bM E):LC X scope N dc elt ifs g c0 bM:=
 ⟨af,fun E C s H bt=>by obtain ⟨t,h,rfl⟩:=ao E C s H bt;exact h,fun E C s H bt=>by obtain ⟨t,h,e⟩:=a_ E C s H bt;rw [<- e];exact h⟩
section
variable {X:a8} {elt dc iter:Expr} {ifs:List Expr} {scope:Scope} {pos:Pos} {gB:TI} {g:gi} {c0:TT} {bM:fQ->TE} {N:List Str} {sel:List (Option Nat)}
theorem wc.but {x C T c:Addr} {h h':Heap} (z:wc x C dp T d8 h) (cw:x ≠ c) (cV:T ≠ c) (k:∀ b,b ≠ c->h'.get? b=h.get? b):wc x C dp T d8 h':=by
 obtain ⟨ne,vs,bF,Ak,tF,he,af,iO,hd,a_⟩:=z;exact ⟨ne,vs,bF,Ak,tF,(k _ cw).trans he,af,(k _ cV).trans iO,hd,a_⟩
end
structure Rl (K:ba) (C:Addr):Prop where
 cl:g8 K C
 aX:dq K (.ref C) "__class__"=some (some (.builtin "object.__class__"))
 aT:tb K (.builtin "object.__class__") "__get__"=some (some (.builtin "getset_descriptor.__get__"))
 yC:IL K (.builtin "object.__class__")=some true
 hm:EV K C (.type "object")=some true
theorem Rl.ty {K:ba} {aH:List (Str × V)} (c:Rl K C) (e:H a=some (.ins C ar aH)):me K H (.ref a) (.ref C):=.ins e c.cl c.aX c.aT c.yC c.hm
end L2
namespace L2
open PySem PySem.Spec PyProof.Rows
section
variable {X:a8} {dc:Expr}
end
section
variable {prog:Program} {w:World} {A:Around} {E:Value->Shared->Prop} {s:Shared} {it l:Addr} {items:Array Value}
end
section
variable {X:a8}
end
section
variable {prog:Program} {w:World} {A:Around} {R:Result->Shared->Prop} {J:Addr} {bt wr:List Addr} {n:Nat} {P:Nat->Value->Prop} {St:Nat->Heap->Prop}
end
section
variable {prog:Program} {w:World} {A:Around} {E:Value->Shared->Prop} {s:Shared}
end
section
variable {X:a8}
end
structure ako (K:ba) (C:Addr):Prop where
 x:aeK K C
 aX:dq K (.ref C) "__class__"=some (some (.builtin "object.__class__"))
 aT:tb K (.builtin "object.__class__") "__get__"=some (some (.builtin "getset_descriptor.__get__"))
 yC:IL K (.builtin "object.__class__")=some true
 hm:EV K C (.type "object")=some true
section
variable {prog:Program} {w:World} {A:Around} {E:Value->Shared->Prop} {s:Shared} {K:ba} {x C:Addr} {dp:Obj} {ar:Addr} {vs:Array Value} {bF:Array (Option Value)}
end
section
variable {X:a8}
end
theorem cH.quiet {w:World} {K:ba} {mg:Str->Option Value} {base:Heap} {k:Nat} {fd:FuncData} (F:cH P w K mg base (ac5 P w) k f fd ps sp)
  (h:∀ vs H Q E,wh vs H Q E->sp vs H Q (fun _ _ _=>False)):cH P w K mg base dz k f fd ps wh:=by
 refine ⟨fun vs H Q E q=>F.len vs H _ _ (h vs H Q E q),fun A outer s H args us vs Q E ak he ae aK ax=>?_⟩;refine codeAny_mono (F.run A outer s H args us vs Q _ ak he ae aK (h vs H Q E ax)) fun r aj aN=>?_
 cases r with
 | error e=>
  obtain ⟨x,C,dp,I,T,_,_,_,_,_,_,_,_,_,z⟩:=aN;exact z.elim
 | ok d8=>cases d8 <;> exact aN
structure k6 (k:Nat) (A:Around):Prop where
 g4:A.depth + 3 * k + 5 < recursionLimit
 un:A.units + 16 * k + 200 < cLine
theorem ee.h {k:Nat} {A:Around} (r:ee k A):k6 k A:=⟨r.g4,r.un⟩
theorem k6.mono {j k:Nat} {A:Around} (r:k6 k A) (h:j <= k):k6 j A:=⟨by have:=r.g4;omega,by have:=r.un;omega⟩
theorem k6.deeper {k:Nat} {A:Around} (r:k6 (k + 1) A) (env:Env):k6 k (A.deeper env):=
 ⟨by have:=r.g4;show A.depth + 1 + 3 * k + 5 < _;omega,by have:=r.un;show A.units + 3 + 16 * k + 200 < _;omega⟩
theorem k6.depth {k:Nat} {A:Around} (r:k6 k A):A.depth < recursionLimit:=by have:=r.g4;omega
theorem k6.units {k:Nat} {A:Around} (r:k6 k A):A.units + 64 < cLine:=by have:=r.un;omega
theorem ee.aT {k:Nat} {X:a8} {e:Value} (r:ee k X.A):k6 k (X.aT e).A:=⟨r.g4,r.un⟩
structure Io (P:Program) (w:World) (K:ba) (mg:Str->Option Value) (base:Heap) (CX:jx) (k:Nat) (f:Addr) (fd:FuncData) (ps:List Str) (sp:bN):Prop where
 len:∀ vs H Q E,sp vs H Q E->vs.length=ps.length
 run:∀ (A:Around) (outer:List Env) (s:Shared) (H:aq) (args:Args) (us:List Value) (vs:List V) (Q:cW) (E:fQ),k6 k A->mI P w K mg base A outer s H->BindsTo s fd args (ps.zip us)->bY vs us->sp vs H Q E ->
  codeAny (model P w) A (.call (.ref f) args) (Hf CX outer P w H s Q E) s
theorem Io.mono {w:World} {K:ba} {mg:Str->Option Value} {base:Heap} {j k:Nat} {fd:FuncData} (F:Io P w K mg base CX j f fd ps sp) (h:j <= k) :
  Io P w K mg base CX k f fd ps sp:=⟨F.len,fun A outer s H args us vs Q E ak=>F.run A outer s H args us vs Q E (ak.mono h)⟩
section
variable {X:a8} {CX:jx} {k:Nat} {f C:Addr} {fd:FuncData} {ps:List Str} {sp:bN} {dvs:List V} {ds:List Value} {E:fQ} {x m:Str} {p pos fW:Pos} {e o:Expr} {a4:List Expr} {a9:TE} {t:fG}
end
noncomputable def ahC (CX:jx) (P:Program) (w:World) (K:ba) (mg:Str->Option Value) (base:Heap) (N:List Str) (qual:Str) (scope:Scope) (f:Addr) (cd:Value) (A:Around) (outer:List Env) (s:Shared) (H:aq) (E:fQ):a8 where
 prog:=P
 w:=w
 K:=K
 mg:=mg
 base:=base
 A:=A.deeper (envOfC qual scope s.heap.objs.size f cd)
 N:=N
 fs:=s
 p5:=H
 env:=envOfC qual scope s.heap.objs.size f cd
 outer:=outer
 stack:=envOfC qual scope s.heap.objs.size f cd :: outer
 ex:=[]
 calm:=false
 fn:=fun _=>true
 d7:=[]
 dF:=fun e aj=>wpAny (model P w) (A.deeper (envOfC qual scope s.heap.objs.size f cd)) (leaving (envOfC qual scope s.heap.objs.size f cd) e) (fun _ r4=>CX outer H s E e r4) (fun b5 r4=>CX outer H s E b5 r4) aj
section
variable {P:Program} {w:World} {K:ba} {mg:Str->Option Value} {base:Heap}
end
section
variable {X:a8}
end
section
variable {α:Type} {M:List α->Prop}
theorem hk (h:∀ a,M [a]):∀ us:List α,us.length=1->M us | [a],_=>h a
theorem g6 (h:∀ a b,M [a,b]):∀ us:List α,us.length=2->M us | [a,b],_=>h a b
theorem hB (h:∀ a b c,M [a,b,c]):∀ us:List α,us.length=3->M us | [a,b,c],_=>h a b c
theorem xX (h:∀ a b c d e f g,M [a,b,c,d,e,f,g]):∀ us:List α,us.length=7->M us | [a,b,c,d,e,f,g],_=>h a b c d e f g
theorem agJ (h:∀ a b c d e f g i,M [a,b,c,d,e,f,g,i]):∀ us:List α,us.length=8->M us | [a,b,c,d,e,f,g,i],_=>h a b c d e f g i
end
structure ajU (K:ba) (C:Addr):Prop where
 hd:x1 K C=true
 e3:((We K C).any fun cd=>Cd cd.mro)=true
 aY:dq K (.ref C) "__setattr__"=some (some (.builtin "object.__setattr__"))
 ga:dq K (.ref C) "__getattribute__"=some (some (.builtin "BaseException.__getattribute__"))
 gt:dq K (.ref C) "__getattr__"=some none
structure Em (K:ba) (C:Addr):Prop where
 aX:dq K (.ref C) "__class__"=some (some (.builtin "object.__class__"))
 aT:tb K (.builtin "object.__class__") "__get__"=some (some (.builtin "getset_descriptor.__get__"))
 yC:IL K (.builtin "object.__class__")=some true
 hm:EV K C (.type "object")=some true
theorem abY {cc:List Int}:∀ {a6:List Value},bY (cc.map V.int) a6->∃ xs:List (Int × Tok),a6=xs.map (fun p=>oT p.1 p.2)/\xs.map (·.1)=cc:=by
 induction cc with
 | nil=>intro a6 r;cases r;exact ⟨[],rfl,rfl⟩
 | cons k cc b9=>
  intro a6 r;cases r with
  | cons h t=>
   obtain ⟨xs,au,aI⟩:=b9 t;obtain ⟨tk,rfl⟩:=(show ∃ t,_=oT k t from h);exact ⟨(k,tk) :: xs,by rw [eV,<- au],by rw [eV,aI]⟩
section
variable {X:a8}
theorem M5 (aw:X.calm=true):m4 X (.builtin "max") (fun xs H Q=>∃ l cc m,xs=[.ref l]/\aD X.K H l (rQ V.int cc)/\(m ∈ cc/\∀ k ∈ cc,k <= m)/\Q (.int m) H):=by
 intro ab s σ H xs us Q J r h;obtain ⟨l,cc,m,rfl,aN,hm,q⟩:=h;obtain ⟨u,rfl,f7⟩:=ml r;cases f7;obtain ⟨a6,cR,pl,aQ⟩:=J.list aN;obtain ⟨xs,au,aI⟩:=abY cR;have ha:a6.toArray=intItems xs.toArray:=by rw [au];unfold intItems;simp
 have yc:s.heap.IsList l (intItems xs.toArray):=by rw [<- ha];exact pl.isList
 have iF:xs.length=cc.length:=by rw [<- aI,aU]
 have b4:0 < xs.toArray.size:=by
  rw [eb,iF];exact WH hm.1
 refine max_intList (J.ok.hd aw) yc b4 fun v h' tk aK aB=>⟨.int m,H,J.kept aB,?_,q⟩
 obtain ⟨fI,rfl⟩:=intItems_at aK;refine ⟨fI,?_⟩;have ae:=argBest_gt (numAt xs.toArray) (xs.toArray.size - 1);generalize argBest (fun i j=>decide (numAt xs.toArray i > numAt xs.toArray j)) (xs.toArray.size - 1)=j at ae ⊢;have aT:∀ i,i < cc.length->cc[i]? = some (numAt xs.toArray i):=fun i ah=>by
  rw [numAt_eq,iV];show cc[i]? = some (((xs.map (·.1))[i]?).getD 0);rw [aI,a' ah];rfl
 rw [eb] at ae b4;have af:=hm.2 _ (cB (aT j (by omega)));obtain ⟨i,ah⟩:=jv hm.1;have ha:i < cc.length:=(b6.mp ah).1;have ao:=ae.2 i (by omega);have a_:m=numAt xs.toArray i:=dh (ah.symm.trans (aT i ha));rw [show numAt xs.toArray j=m by omega]
end
noncomputable def Az (p d:Addr):Heap->Prop:=fun h=>PySem.W.KdlKeysView h p d
noncomputable def ER (p d:Addr):Heap->Prop:=fun h=>h.IsValuesView p d
theorem Az.ok {w:World} {h:Heap} {p d:Addr} (z:Az p d h):ek P w H h p (.ext (Az p d)):=
 ⟨z,let ⟨o,aS,_⟩:=z;⟨o,aS⟩,fun _ _ ff k=>let ⟨o,aS,x⟩:=ff;⟨o,k o aS,x⟩⟩
theorem ER.ok {w:World} {h:Heap} {p d:Addr} (z:ER p d h):ek P w H h p (.ext (ER p d)):=
 ⟨z,let ⟨o,aS,_⟩:=z;⟨o,aS⟩,fun _ _ ff k=>let ⟨o,aS,x⟩:=ff;⟨o,k o aS,x⟩⟩
section
variable {X:a8}
noncomputable def og:V->List V->aq->cW->Prop:=fun x vs H Q=>∃ d kvs,x=.ref d/\vs=[]/\H d=some (.bw kvs)/\∀ p,H p=none->Q (.ref p) (upd H p (.ext (Az p d)))
end
noncomputable abbrev afM:=St->aq->Str->(Str->aq->Prop)->Prop
section
variable {X:a8} {e:Expr} {a4:List Expr} {t:afM} {bM:TE} {pos:Pos}
end
noncomputable def Hv (p:Addr) (a b c:Int):Heap->Prop:=fun h=>∃ t u v,IsRange h p a b c t u v
theorem Hv.ok {w:World} {h:Heap} {p:Addr} (z:Hv p a b c h):ek P w H h p (.ext (Hv p a b c)):=
 ⟨z,let ⟨_,_,_,e⟩:=z;⟨_,e⟩,fun _ _ ff k=>let ⟨t,u,v,e⟩:=ff;⟨t,u,v,k _ e⟩⟩
section
variable {X:a8}
end
noncomputable def k7 (f:Addr) (qual:Str) (params:Arguments) (body:Expr) (scope:Scope) (ij:List (Str × Addr)) (c':Addr):Heap->Prop:=
 fun h=>∃ pm jS,h.get? f=some (vS "<lambda>" qual params body scope ij pm c' jS)
noncomputable def lV (c:Addr) (qual:Str):Heap->Prop:=fun h=>h.CodeRec (.ref c) qual
def Tab (H:aq) (Pt:Addr) (pos:Pos) (qual:Str):Prop:=
 ∃ ps,H Pt=some (.gI ps)/\(ps=#[]\/∃ c',ps=#[rawInt pos.line,rawInt pos.col,.ref c']/\H c'=some (.ext (lV c' qual)))
def lj (Pt:Addr) (H I:aq):Prop:=∀ b o,b ≠ Pt->H b=some o->I b=some o
theorem lj.refl (Pt:Addr) (H:aq):lj Pt H H:=fun _ _ _ h=>h
theorem lj.trans (a:lj Pt H H1) (b:lj Pt H1 az):lj Pt H az:=fun c o n h=>b c o n (a c o n h)
theorem ac.p (s:ac H I):lj Pt H I:=fun b o _ h=>s b o h
theorem Tab.ne (t:Tab H Pt pos qual) (h:H b=some o) (aS:∀ ps,o ≠ .gI ps):b ≠ Pt:=fun e=>by
 obtain ⟨ps,au,_⟩:=t;subst e;rw [au] at h;exact aS ps (dh h).symm
theorem Tab.step (t:Tab H Pt pos qual) (s:ac H I):Tab I Pt pos qual:=by
 obtain ⟨ps,e,d⟩:=t;refine ⟨ps,s _ _ e,?_⟩;rcases d with d | ⟨c',d,b5⟩
 .exact .inl d
 .exact .inr ⟨c',d,s _ _ b5⟩
theorem Sn {w:World} {h:Heap}
  (e:h.get? f=some (vS "<lambda>" qual params body scope ij pm c' jS)):ek P w H h f (.ext (k7 f qual params body scope ij c')):=
 ⟨⟨pm,jS,e⟩,⟨_,e⟩,fun _ _ ⟨p,c,au⟩ k=>⟨p,c,k _ au⟩⟩
theorem Vi {w:World} {h:Heap} (e:h.CodeRec (.ref c) qual):ek P w H h c (.ext (lV c qual)):=by
 refine ⟨e,?_,fun af ao x k=>?_⟩
 .obtain ⟨bT,o,vs,t,au,aI,_⟩:=e;cases au;exact ⟨o,aI⟩
 .obtain ⟨bT,o,vs,t,au,aI,bO,eD⟩:=x;cases au;exact ⟨_,o,vs,t,rfl,k o aI,bO,eD⟩
structure RQ (X:a8) (c Pt:Addr):Prop where
 code:X.env.code=.ref c
 hd:qo X.base c Pt
 bm:X.base.BuiltinsAt X.mg Pt
theorem T4:TriplesOk [rawInt a,rawInt b,v]:=kQ
theorem acQ:codeAmong pos [rawInt pos.line,rawInt pos.col,v]=some v:=by
 have:=codeAmong_snoc (pos:=pos) (c:=v) [] kQ rfl;simpa using this
section
variable {X:a8} {ab:List (Addr × Obj)} {σ:St} {H:aq} {s:Shared} {params:Arguments} {body:Expr} {scope:Scope} {pos:Pos} {c Pt:Addr} {ij:List (Str × Addr)} {Q:Value->Shared->Prop}
theorem Ti (J:Inv X ab σ H s) (T:RQ X c Pt) (bI:Tab H Pt pos (X.env.qual ++ "<lambda>")) (lh:closureFor scope X.env=pure ij) (I6:defaultsOf params X.env=([],[]))
  (h:∀ f c' H1 s1,Inv X ab σ H1 s1->lj Pt H H1->(aP H->aP H1)->Tab H1 Pt pos (X.env.qual ++ "<lambda>")->H1 f=some (.ext (k7 f (X.env.qual ++ "<lambda>") params body scope ij c'))->H1 c'=some (.ext (lV c' (X.env.qual ++ "<lambda>")))->H f=none->Q (.ref f) s1) :
  wpAny (model X.prog X.w) X.A (eval (.Lambda params body scope pos) X.env) Q X.dF s:=by
 refine PySem.W.kla_eval I6 ?_;obtain ⟨ps,j1,d⟩:=bI;have cK:s.heap.get? Pt=some (MA ps):=J.bo _ _ j1;have m8:s.heap.Ns mainGlobals X.mg:=J.mod.glob.keeps J.cE;have dg:=T.hd.keeps J.cE;have Xc:mainGlobals ≠ Pt:=fun q=>by
  obtain ⟨o,a4,cF,e,hd,_⟩:=m8;rw [q,cK] at e;cases e;cases hd
 have jb:s.heap.BuiltinsAt X.mg Pt:=by
  obtain ⟨bm,o,af,ao,a_,cL,ej,ia⟩:=T.bm;exact ⟨bm,o,af,ao,a_,cL,J.cE _ _ ej,ia⟩
 rcases d with rfl | ⟨c',rfl,kf⟩
 .refine PySem.W.kla_makeFunction (mg:=X.mg) lh J.ok.glob m8 T.code dg cK kQ rfl Xc jb fun c' jS h' tk ag zl dt abg r'=>?_
  have sN:H c'=none:=J.bo.fresh zl;have hO:H h'.objs.size=none:=J.bo.fresh (c4 zl (nu dt));have ab9:c' ≠ h'.objs.size:=gz dt;have Y8:Pt ≠ c':=fun z=>by rw [z,sN] at j1;cases j1
  have X4:Pt ≠ h'.objs.size:=fun z=>by rw [z,hO] at j1;cases j1
  have put:∀ b o,b ≠ Pt->H b=some o->upd (upd (upd H Pt (.gI (#[] ++ #[rawInt pos.line,rawInt pos.col,.ref c']))) c' (.ext (lV c' (X.env.qual ++ "<lambda>")))) h'.objs.size (.ext (k7 h'.objs.size (X.env.qual ++ "<lambda>") params body scope ij c')) b=some o:=fun b o n e=>by
   rw [aF (fun z=>by rw [z,hO] at e;cases e),aF (fun z=>by rw [z,sN] at e;cases e),aF n];exact e
  have xG:upd (upd (upd H Pt (.gI (#[] ++ #[rawInt pos.line,rawInt pos.col,.ref c']))) c' (.ext (lV c' (X.env.qual ++ "<lambda>")))) h'.objs.size (.ext (k7 h'.objs.size (X.env.qual ++ "<lambda>") params body scope ij c')) Pt=some (.gI (#[] ++ #[rawInt pos.line,rawInt pos.col,.ref c'])):=by
   rw [aF X4,aF Y8,db]
  have yO:upd (upd (upd H Pt (.gI (#[] ++ #[rawInt pos.line,rawInt pos.col,.ref c']))) c' (.ext (lV c' (X.env.qual ++ "<lambda>")))) h'.objs.size (.ext (k7 h'.objs.size (X.env.qual ++ "<lambda>") params body scope ij c')) c'=some (.ext (lV c' (X.env.qual ++ "<lambda>"))):=by
   rw [aF ab9,db]
  have Hm:upd (upd (upd H Pt (.gI (#[] ++ #[rawInt pos.line,rawInt pos.col,.ref c']))) c' (.ext (lV c' (X.env.qual ++ "<lambda>")))) h'.objs.size (.ext (k7 h'.objs.size (X.env.qual ++ "<lambda>") params body scope ij c')) h'.objs.size=some (.ext (k7 h'.objs.size (X.env.qual ++ "<lambda>") params body scope ij c')):=db;have bU:∀ b,b ≠ Pt->b ≠ c'->b ≠ h'.objs.size->upd (upd (upd H Pt (.gI (#[] ++ #[rawInt pos.line,rawInt pos.col,.ref c']))) c' (.ext (lV c' (X.env.qual ++ "<lambda>")))) h'.objs.size (.ext (k7 h'.objs.size (X.env.qual ++ "<lambda>") params body scope ij c')) b=H b:=fun b cw cV dK=>by
   rw [aF dK,aF cV,aF cw]
  have jE:aP H->aP (upd (upd (upd H Pt (.gI (#[] ++ #[rawInt pos.line,rawInt pos.col,.ref c']))) c' (.ext (lV c' (X.env.qual ++ "<lambda>")))) h'.objs.size (.ext (k7 h'.objs.size (X.env.qual ++ "<lambda>") params body scope ij c'))):=fun n=>n.upd.upd.upd
  generalize upd (upd (upd H Pt (.gI (#[] ++ #[rawInt pos.line,rawInt pos.col,.ref c']))) c' (.ext (lV c' (X.env.qual ++ "<lambda>")))) h'.objs.size (.ext (k7 h'.objs.size (X.env.qual ++ "<lambda>") params body scope ij c'))=H1 at put xG yO Hm bU jE;have bK:∀ b o,b ≠ Pt->s.heap.get? b=some o->(h'.push (vS "<lambda>" (X.env.qual ++ "<lambda>") params body scope ij ((X.mg "__name__").getD .none) c' jS)).get? b=some o:=fun b o n e=>e2 _ (ag b o n e)
  have Du:∀ b,H b=none->b ≠ Pt:=fun b n z=>by rw [z,j1] at n;cases n
  have u:eY X.aH [] H H1 s.heap (h'.push (vS "<lambda>" (X.env.qual ++ "<lambda>") params body scope ij ((X.mg "__name__").getD .none) c' jS)):=by
   refine ⟨fun b o e n _ _=>bK b o (Du b n) e,fun b o e n _ _=>⟨o.slots,bK b o (Du b n) e⟩,fun b o e n _=>?_,fun b o e _=>?_,fun b xs e=>put b _ (fun z=>by rw [z,j1] at e;cases e) e,fun b o x e=>put b _ (fun z=>by rw [z,j1] at e;cases e) e,fun b ps e=>?_⟩
   .have ae:=eA e;rw [bU b (Du b n) (gz (hC ae zl)) (gz (hC ae (c4 zl (nu dt))))];exact n
   .by_cases ae:b=Pt
    .subst ae;exact ⟨_,e2 _ r'⟩
    .exact ⟨o,bK b o ae e⟩
   .by_cases ae:b=Pt
    .subst ae;rw [j1] at e;cases e;exact ⟨_,xG⟩
    .exact ⟨#[],by rw [put b _ ae e];simp⟩
  have bo:ep X.prog X.w H1 (h'.push (vS "<lambda>" (X.env.qual ++ "<lambda>") params body scope ij ((X.mg "__name__").getD .none) c' jS)):=fun b o e=>by
   by_cases af:b=Pt
   .subst af;rw [xG] at e;cases e;exact e2 _ r'
   by_cases ao:b=c'
   .subst ao;rw [yO] at e;cases e;refine Vi ?_;obtain ⟨bT,o,vs,t,au,aI,bO⟩:=abg;exact ⟨bT,o,vs,t,au,e2 _ aI,bO⟩
   by_cases a_:b=h'.objs.size
   .subst a_;rw [Hm] at e;cases e;exact Sn (hN _ rfl)
   rw [bU b af ao a_] at e;refine (J.bo b o e).nL (fun d v hd q=>bK d v ?_ q) (fun d q=>put d _ (fun z=>by rw [z,j1] at q;cases q) q) fun d xs q=>put d _ (fun z=>by rw [z,j1] at q;cases q) q
   rcases hd with z | z
   .rw [z];exact af
   .intro eT;rw [eT,j1] at z;cases z
  exact h _ c' H1 _ (J.un (t':=tk) u bo) (fun b o n e=>put b o n e) jE ⟨_,xG,.inr ⟨c',by simp,yO⟩⟩ Hm yO hO
 .refine PySem.W.kla_makeFunctionHit (mg:=X.mg) lh J.ok.glob m8 T.code dg cK T4 acQ jb fun jS h' tk aB hsz=>?_
  have hO:H h'.objs.size=none:=J.bo.fresh hsz;have a3:Inv X ab σ (upd H h'.objs.size (.ext (k7 h'.objs.size (X.env.qual ++ "<lambda>") params body scope ij c'))) { s with heap:=h'.push (vS "<lambda>" (X.env.qual ++ "<lambda>") params body scope ij ((X.mg "__name__").getD .none) c' jS),toks:=tk }:=
   J.laid (t':=tk) (fun b o e=>e2 _ (aB b o e)) hsz (Sn (hN _ rfl))
  have bQ:=bp (o:=.ext (k7 h'.objs.size (X.env.qual ++ "<lambda>") params body scope ij c')) hO;exact h _ c' _ _ a3 bQ.p (fun n=>n.upd) ⟨_,bQ _ _ j1,.inr ⟨c',rfl,bQ _ _ kf⟩⟩ db (bQ _ _ kf) hO
end
section
variable {P:Program} {w:World} {K:ba} {mg:Str->Option Value} {base:Heap}
end
structure ak_ (p y:Str) (sc:Scope):Prop where
 kind:sc.kind=.function
 co:sc.isCoroutine=false
 gen:sc.isGenerator=false
 ne:p ≠ y
 par:sc.names.lookup p=some .local
 Ka:sc.names.lookup y=some .free
 sf:∀ z ∈ sc.names,z.2 ≠ .cell
 one:∀ z ∈ sc.names,z.2=.free->z.1=y
section
variable {X:a8} {ab:List (Addr × Obj)} {σ:St} {H:aq} {s:Shared} {k:Nat} {f c' cl:Addr} {q p y:Str} {params:Arguments} {body:Expr} {scope:Scope} {v:V} {t:TE}
end
noncomputable def aeO:Expr->Scope
 | .Lambda _ _ s _=>s
 | _=>{ kind:=.function,names:=[],isGenerator:=false,isCoroutine:=false }
noncomputable def ago:Expr->Pos
 | .Lambda _ _ _ p=>p
 | _=>⟨0,0,0,0⟩
def Ba (Pt:Addr) (H:aq):Prop:=H Pt=some (.gI #[])/\∀ b,H b=none\/b=Pt\/∃ o xs,H b=some (.eL o (.lst xs))
theorem Sc.Vj {K:ba} {ns:List Int} (k5:Ba Pt H) (d1:aD K H a (ns.map V.int)):Sc K a ns H:=by
 refine ⟨?_,fun b u e=>?_⟩
 .rcases d1 with (h | ⟨o,h⟩) | h
  .rcases k5.2 a with z | z | ⟨bZ,xs,z⟩
   .rw [h] at z;cases z
   .rw [z,k5.1] at h;cases h
   .rw [h] at z;cases z
  .exact .inl ⟨o,h⟩
  .exact .inr h
 .rcases k5.2 b with z | z | ⟨o,xs,z⟩
  .rw [e] at z;cases z
  .rw [z,k5.1] at e;cases e;rfl
  .rw [e] at z;cases z;rfl
theorem V3 {w:World} {K:ba} {mg lR:Str->Option Value} {k:Nat} {fd:FuncData} {x:Str} {ns:List Int}
  (ka:K.In dd.heap) (fS:T6 K=true) (m8:dd.heap.Ns mainGlobals mg) (ae:dd.heap.Ns builtinsNs lR) (p0:∀ x:Str,x ≠ "__name__" -> lR x=bootBuiltins x) (acU:dd.heap.NoLimit) (bg:dd.gens=#[])
  (X5:∃ bm bZ,mg "__builtins__"=some (.ref bm)/\bm ≠ builtinsNs/\dd.heap.get? bm=some bZ/\bZ.cls=.type "module" /\ bZ.dict=some builtinsNs/\bZ.data=.plain)
  (dg:qo dd.heap c Pt) (cK:dd.heap.get? Pt=some (MA #[]))
  (aX:dd.heap.get? a=some { cls:=.type "list",data:=.seq vs.toArray }) (ah:IntsAre vs ns) (aM:ns.length <= sizeLine) (ak:ee k callerA)
  (F:∀ base:Heap,K.In base->base.Ns mainGlobals mg->qo base c Pt->base.BuiltinsAt mg Pt->cH P w K mg base CX k fZ fd [x] sp) (YJ:∀ (s:Shared) (u:Value),BindsTo s fd ⟨[u],[]⟩ [(x,u)])
  (nf:∀ H:aq,Ba Pt H->aD K H a (ns.map V.int)->sp [.ref a] H (fun v _=>v=.bl true) fun _ _ _=>False)
  (HL:∀ H e aj,CX [] H dd (fun _ _ _=>False) e aj->False) :
  codeAny (model P w) callerA (.call (.ref fZ) ⟨[.ref a],[]⟩) (fun r aj=>r=.ok (.ret (.bool true))/\OldK dd.heap aj.heap/\aj.os=dd.os/\AllBare aj.gens) dd:=by
 have cR:=Mp ah;have acH:=ah.length;have R6:Pt ≠ a:=fun z=>by rw [z,aX] at cK;cases cK
 have ac_:∀ o,K.lookup Pt=some o->False:=fun o e=>by
  have au:=ka _ _ e;rw [cK] at au;cases au;have:=m7.mp fS _ (PySem.W.mem_of_lookupK e);exact absurd (show false=true from this) fB
 have core:∀ H:aq,Ba Pt H->aD K H a (ns.map V.int)->ep P w H dd.heap->(∀ b,H b ≠ none->b=Pt\/b=a)->(H a ≠ none->K.lookup a=none) ->
   codeAny (model P w) callerA (.call (.ref fZ) ⟨[.ref a],[]⟩) (fun r aj=>r=.ok (.ret (.bool true))/\OldK dd.heap aj.heap/\aj.os=dd.os/\AllBare aj.gens) dd:=by
  intro H k5 d1 bo jD YP;have SD:∀ {b:Addr} {o:Obj},dd.heap.get? b=some o->o.cls ≠ .none->(∀ a6 n,o.data ≠ .seq a6 n)->(m6 dd.heap H).get? b=some o:=fun {b o} e af ao=>by
   refine GR e ?_;cases q:H b with
   | none=>rfl
   | some u=>
    rcases jD b (by rw [q];simp) with z | z
    .subst z;rw [cK] at e;cases e;exact absurd rfl af
    .subst z;rw [aX] at e;cases e;exact absurd rfl (ao _ _)
  have x7:∀ {b:Addr} {m:Str->Option Value},dd.heap.Ns b m->(m6 dd.heap H).Ns b m:=fun {b m} ⟨o,a4,cF,e,d,r⟩=>⟨o,a4,cF,(by
   refine GR e ?_;cases q:H b with
   | none=>rfl
   | some u=>
    rcases jD b (by rw [q];simp) with z | z
    .subst z;rw [cK] at e;cases e;cases d
    .subst z;rw [aX] at e;cases e;cases d),d,r⟩
  have QY:K.In (m6 dd.heap H):=fun b o e=>GR (ka b o e) (by
   cases q:H b with
   | none=>rfl
   | some u=>
    rcases jD b (by rw [q];simp) with z | z
    .subst z;exact (ac_ o e).elim
    .subst z;rw [YP (by rw [q];simp)] at e;cases e)
  have Y6:Mod K mg (m6 dd.heap H):=⟨QY,x7 m8,⟨lR,x7 ae,p0⟩,let ⟨ahY,af,ao⟩:=acU;⟨ahY,x7 af,ao⟩⟩;have aga:qo (m6 dd.heap H) c Pt:=by
   obtain ⟨o,acM,file,agp,flags,dc,Yp,text,tt,au,aI,bO,r⟩:=dg;exact ⟨o,acM,file,agp,flags,dc,Yp,text,tt,SD au (by rw [aI];intro z;cases z) (fun _ _ z=>by rw [bO] at z;cases z),aI,bO,r⟩
  have adl:(m6 dd.heap H).BuiltinsAt mg Pt:=by
   obtain ⟨bm,bZ,af,ao,a_,cL,ej,ia⟩:=X5;refine ⟨bm,bZ,af,ao,fun z=>?_,fun z=>?_,SD a_ (by rw [cL];intro z;cases z) (fun _ _ z=>by rw [ia] at z;cases z),cL,ej,ia⟩
   .obtain ⟨o,a4,cF,e,d,_⟩:=m8;rw [z,e] at a_;cases a_;rw [d] at ia;cases ia
   .rw [z,cK] at a_;cases a_;cases cL
  have eX:mI P w K mg (m6 dd.heap H) callerA [] dd H:=⟨rfl,Y6,fun b o e=>Zx e,aao (YR _ _),trivial,fun b ae=>absurd (show b ∈ ([]:List Addr) from ae) (by simp),bo,.of_eq bg⟩;refine codeAny_mono ((F _ QY (x7 m8) aga adl).run callerA [] dd H ⟨[.ref a],[]⟩ [.ref a] [.ref a] _ _ ak eX (YJ dd (.ref a)) (.cons rfl .nil) (nf H k5 d1)) fun r aj h=>?_
  cases r with
  | error e=>exact (HL H e aj h).elim
  | ok d8=>
   cases d8 with
   | next=>exact iK h
   | brk=>exact iK h
   | cont=>exact iK h
   | ret u=>
    obtain ⟨v,I,os,bare,un,Qk,dj,q⟩:=h;have ef:v=.bl true:=q;subst ef;obtain rfl:u=j4 true:=dj;obtain ⟨more,j1⟩:=un.kN Pt _ k5.1;have PL:aj.heap.get? Pt=some { cls:=.none,data:=.fields (#[] ++ more) }:=Qk _ _ j1;have bK:∀ b o,b ≠ Pt->dd.heap.get? b=some o->aj.heap.get? b=some o:=fun b o nb e=>by
     rcases k5.2 b with z | z | ⟨bZ,xs,z⟩
     .exact un.keep b o e z (by intro z;exact absurd (show b ∈ ([]:List Addr) from z) (by simp)) (by simp)
     .exact absurd z nb
     .have eT:=un.jH b bZ _ z;obtain ⟨au,_⟩:=bo b _ z;obtain ⟨aI,_⟩:=Qk b _ eT;rw [e] at au;cases au;exact aI
    refine ⟨rfl,⟨fun b o e=>?_,fun b o e=>?_⟩,os,bare⟩
    .by_cases vh:b=Pt
     .subst vh;rw [cK] at e;cases e;exact .inr (.inl ⟨(dg.tab cK).isCodeTable,rfl,#[],more,rfl,PL⟩)
     .exact .inl (bK b o vh e)
    .by_cases vh:b=Pt
     .subst vh;exact ⟨_,PL⟩
     .exact ⟨o,bK b o vh e⟩
 have Pn:∀ H:aq,ek P w H dd.heap Pt (.gI #[]):=fun _=>cK
 cases aB:K.lookup a with
 | some o=>
  have e:=ka a o aB;rw [aX] at e;cases e;refine core (fun b=>if b=Pt then some (.gI #[]) else none) ⟨if_pos rfl,fun b=>?_⟩ (.inr ⟨_,vs.toArray,_,aB,rfl,rfl,rfl,by rw [eb,acH];exact aM,by simpa using cR⟩) (fun b u z=>?_) (fun b z=>?_) fun z=>absurd (if_neg (eg R6)) z
  .by_cases ae:b=Pt
   .exact .inr (.inl ae)
   .exact .inl (if_neg ae)
  .by_cases ae:b=Pt
   .have hJ:=(if_pos ae).symm.trans z;cases hJ;subst ae;exact Pn _
   .have hJ:=(if_neg ae).symm.trans z;cases hJ
  .by_cases ae:b=Pt
   .exact .inl ae
   .exact absurd (if_neg ae) z
 | none=>
  have g_:(fun b=>if b=Pt then some (f6.gI #[]) else if b=a then some (.eL { cls:=.type "list",data:=.seq vs.toArray } (.lst (ns.map V.int))) else none) a=some (.eL { cls:=.type "list",data:=.seq vs.toArray } (.lst (ns.map V.int))):=by
   show (if a=Pt then _ else if a=a then _ else _)=_;rw [if_neg (eg R6),if_pos rfl]
  refine core (fun b=>if b=Pt then some (.gI #[]) else if b=a then some (.eL { cls:=.type "list",data:=.seq vs.toArray } (.lst (ns.map V.int))) else none) ⟨if_pos rfl,fun b=>?_⟩ (.inl (.inr ⟨_,g_⟩)) (fun b u z=>?_) (fun b z=>?_) fun _=>aB
  .by_cases ae:b=Pt
   .exact .inr (.inl ae)
   .by_cases iU:b=a
    .exact .inr (.inr ⟨_,_,by rw [iU];exact g_⟩)
    .exact .inl ((if_neg ae).trans (if_neg iU))
  .by_cases ae:b=Pt
   .have hJ:=(if_pos ae).symm.trans z;cases hJ;subst ae;exact Pn _
   .by_cases iU:b=a
    .subst iU;rw [g_] at z;cases z;exact ⟨aX,by rw [aU];exact aM,vs,_,cR,aX⟩
    .have hJ:=((if_neg ae).trans (if_neg iU)).symm.trans z;cases hJ
  .by_cases ae:b=Pt
   .exact .inl ae
   .by_cases iU:b=a
    .exact .inr iU
    .exact absurd ((if_neg ae).trans (if_neg iU)) z
section
variable {P:Program} {w:World} {A:Around} {E:Value->Shared->Prop} {s:Shared}
structure q3 (h:Heap) (d:Addr) (o:Obj) (a4:Array DictEntry) (cF:Nat):Prop where
 at_:h.get? d=some o
 ex:o.ExactDict
 dat:o.data=.dict a4 cF
theorem PY (r:q3 s.heap d o a4 cF):s.TypeIs (.ref d) "dict" := ⟨o,r.at_,r.ex.1⟩
theorem TA (hd:(d == sysModules)=false) (r:q3 s.heap d o a4 cF)
  (aV:Q (.ref s.heap.objs.size) { s with heap:=s.heap.push { cls:=.type "dict_keyiterator",data:=.fields #[.ref d,.int 0 0,.int a4.size 0,.int cF 0] } }) :
  wpAny (model P w) A (pyIter (.ref d)) Q E s:=by
 have iO:=PY r;refine wpAny_pyIter_slot iO S6 (wpAny_call_entry S6 iO F.entry_dict_iter ?_ (F.args_dict_iter_1 _));unfold Builtin.«dict.__iter__» akX;refine wpAny_bind (wpAny_bind (wpAny_notOrdered_dict iO (wpAny_pure ?_)));show wpAny _ _ (ahi d >>= _) _ _ s;unfold ahi;rw [if_neg (by rw [hd];exact fB)];refine wpAny_bind (wpAny_pure (wpAny_bind (wpAny_dictEntries r.at_ r.dat (wpAny_bind (wpAny_dictEpoch r.at_ r.dat ?_)))));refine wpAny_bind (wpAny_newObj_type (wpAny_pure ⟨_,rfl,"dict_keyiterator",_,⟨_,hN _ rfl,rfl⟩,xu.lookup,?_⟩));simpa [rawInt] using aV
theorem VX {it d:Addr} {e:DictEntry} (hit:s.heap.IsKeyIter it d i a4.size cF) (r:q3 s.heap d o a4 cF) (ag:a4[i]? = some e)
  (aV:∀ h',h'.IsKeyIter it d (i + 1) a4.size cF->wi it s.heap h'->Q (some e.key) { s with heap:=h' }):wpAny (model P w) A (pyNext (.ref it)) Q E s:=by
 obtain ⟨U7,aS,aw,hd⟩:=id hit;have Dt:agB "dict_keyiterator"=false:=by decide
 have dt:i < a4.size:=by
  rcases Nat.lt_or_ge i a4.size with h | h
  .exact h
  .rw [ag9 h] at ag;cases ag
 unfold pyNext;refine wpAny_bind (wpAny_attempt (wpAny_callSpecial?_slot (name:=aa "__next__") hit.typeIs xu
  (wpAny_call_entry xu hit.typeIs aep ?_ (af4 _))))
 refine wpAny_bind (wpAny_pure (wpAny_bind (wpAny_bind ?_)))
 first | refine wpAny_bind (wpAny_typeNameOfWhole_keyiter hit.typeIs (wpAny_pure ?_)) | refine wpAny_bind (wpAny_typeNameOf_keyiter hit.typeIs (wpAny_pure ?_))
 refine wpAny_bind (wpAny_fieldsOf aS hd ?_);simp only [Dt,FF,if_false];show wpAny _ _ (if (fN d == qv)=true then _ else _) _ _ s;rw [if_neg (show ¬ ((fN d == qv)=true) from fB)];refine wpAny_bind (wpAny_pure (wpAny_bind (wpAny_dictEntries r.at_ r.dat ?_)));rw [if_neg (by simp)];refine wpAny_bind (wpAny_pure (wpAny_bind (wpAny_dictEpoch r.at_ r.dat ?_)));rw [if_neg (by simp)];refine wpAny_pure ?_;simp only [show ¬ ((i:Int) < 0) from by omega,if_false,nd,ag];refine wpAny_bind ?_
 first | refine wpAny_bind (wpAny_typeNameOfWhole_keyiter hit.typeIs (wpAny_pure ?_)) | refine wpAny_bind (wpAny_typeNameOf_keyiter hit.typeIs (wpAny_pure ?_))
 refine wpAny_bind (wpAny_isOneOf_keyiter hit.typeIs ?_);show wpAny _ _ (setField (.ref it) 1 (rawInt ((i:Int) + 1)) >>= _) _ _ s;refine wpAny_bind (wpAny_setField aS hd (by simp) ?_);have QS:(s.heap.update it (afs (·.setIfInBounds 1 (rawInt ((i:Int) + 1))))).IsKeyIter it d (i + 1) a4.size cF:=
  ⟨_,Xk _ aS (Obj.isFreed_of_fields (X7 hd _)),(Obj.cls_mapFields ..).trans aw,by rw [X7 hd];simp [rawInt]⟩
 refine wpAny_bind (wpAny_holding (wpAny_bind (wpAny_isOneOf_keyiter (s:={ s with heap:=s.heap.update it (afs (·.setIfInBounds 1 (rawInt ((i:Int) + 1)))) }) QS.typeIs ?_)));show wpAny _ _ (pure e.key) _ _ _;exact wpAny_pure (wpAny_pure ⟨_,rfl,wpAny_pure (aV _ QS (Yi ..))⟩)
theorem aej {it d:Addr} (eM:A.handled=none) (hit:s.heap.IsKeyIter it d i a4.size cF) (r:q3 s.heap d o a4 cF) (ag:a4.size <= i)
  (aV:∀ h',Heap.ExtBut it s.heap h'->Q none { s with heap:=h' }):wpAny (model P w) A (pyNext (.ref it)) Q E s:=by
 obtain ⟨U7,aS,aw,hd⟩:=id hit;have Dt:agB "dict_keyiterator"=false:=by decide
 unfold pyNext;refine wpAny_bind (wpAny_attempt (wpAny_callSpecial?_slot (name:=aa "__next__") hit.typeIs xu
  (wpAny_call_entry xu hit.typeIs aep ?_ (af4 _))))
 refine wpAny_bind (wpAny_pure (wpAny_bind (wpAny_bind ?_)))
 first | refine wpAny_bind (wpAny_typeNameOfWhole_keyiter hit.typeIs (wpAny_pure ?_)) | refine wpAny_bind (wpAny_typeNameOf_keyiter hit.typeIs (wpAny_pure ?_))
 refine wpAny_bind (wpAny_fieldsOf aS hd ?_);simp only [Dt,FF,if_false];show wpAny _ _ (if (fN d == qv)=true then _ else _) _ _ s;rw [if_neg (show ¬ ((fN d == qv)=true) from fB)];refine wpAny_bind (wpAny_pure (wpAny_bind (wpAny_dictEntries r.at_ r.dat ?_)));rw [if_neg (by simp)];refine wpAny_bind (wpAny_pure (wpAny_bind (wpAny_dictEpoch r.at_ r.dat ?_)));rw [if_neg (by simp)];refine wpAny_pure ?_;simp only [show ¬ ((i:Int) < 0) from by omega,if_false,nd,ag9 ag];refine wpAny_bind ?_
 first | refine wpAny_bind (wpAny_typeNameOfWhole_keyiter hit.typeIs (wpAny_pure ?_)) | refine wpAny_bind (wpAny_typeNameOf_keyiter hit.typeIs (wpAny_pure ?_))
 show wpAny _ _ (setField (.ref it) 0 .none >>= _) _ _ s;refine wpAny_bind (wpAny_setField aS hd (by simp) ?_);show wpAny _ _ (newExc (.type "StopIteration") [] >>= _) _ _ _;refine wpAny_bind ?_;simp only [newExc,newTuple];refine wpAny_bind (wpAny_newObj_type ?_ (by size_fits));refine wpAny_bind (m:=firstArgMember _ _) (wpAny_of_eq (a:=qv) (by first | rfl | (simp only [firstArgMember];rfl)) ?_);refine wpAny_newObj_type ?_ (by size_fits);simp only [raiseNew];refine wpAny_bind (wpAny_handled ?_);rw [show A.in1.handled=none from eM];refine wpAny_bind (wpAny_pure (wpAny_throw ?_));refine wpAny_bind (wpAny_isInstance (T := "StopIteration") (b:=true) ⟨_,hN _ rfl,rfl⟩ isSubtype_stop ?_);exact wpAny_pure (aV _ (((Yi ..).extBut.push _).push _))
end
noncomputable def nJ (a:Addr) (o:Obj):Heap->Prop:=fun h=>h.get? a=some o
structure R_ (P:Program) (w:World) (H:aq) (a:Addr) (kvs:List (List Key × V)) (o:Obj) (a4:Array DictEntry) (cF:Nat) (xs:List (List Key × Addr × Value)):Prop where
 at_:H a=some (.ext (nJ a o))
 ex:o.ExactDict
 dat:o.data=.dict a4 cF
 ent:a4.toList=xs.map (entryOfKey (tupleKind (hV P w)))
 aG:(xs.map (·.1)).Nodup
 cc:Paired (fun (p:List Key × V) (q:List Key × Addr × Value)=>p.1=q.1/\H q.2.1=some (.tup (p.1.map dw))/\bH p.2 q.2.2) kvs xs
 mQ:kvs.length <= sizeLine
 ns:(a == sysModules)=false
def ib (P:Program) (w:World) (H:aq) (a:Addr) (kvs:List (List Key × V)):Prop:=∃ o a4 cF xs,R_ P w H a kvs o a4 cF xs
section
variable {P:Program} {w:World} {H I:aq} {h:Heap} {a:Addr} {kvs:List (List Key × V)}
theorem Hp (d:ib P w H a kvs) (s:ac H I):ib P w I a kvs:=by
 obtain ⟨o,a4,cF,xs,r⟩:=d;exact ⟨o,a4,cF,xs,s _ _ r.at_,r.ex,r.dat,r.ent,r.aG,Paired.qb r.cc fun p q z=>⟨z.1,s _ _ z.2.1,z.2.2⟩,r.mQ,r.ns⟩
theorem X' {p:Addr} (d:ib P w H a kvs) (av:p ≠ a) (cS:∀ xs,H p ≠ some (.tup xs)):ib P w (upd H p u) a kvs:=by
 obtain ⟨o,a4,cF,xs,r⟩:=d;exact ⟨o,a4,cF,xs,by rw [aF (eg av)];exact r.at_,r.ex,r.dat,r.ent,r.aG,Paired.qb r.cc fun q ef z=>⟨z.1,by rw [aF (fun e=>cS _ (e ▸ z.2.1))];exact z.2.1,z.2.2⟩,r.mQ,r.ns⟩
theorem K2 (ok:ep P w H h) (r:R_ P w H a kvs o a4 cF xs):q3 h a o a4 cF:=
 ⟨(ok a _ r.at_).1,r.ex,r.dat⟩
theorem N2 (ok:ep P w H h) (d:ib P w H a kvs):nP (H a)/\(∃ u,h.get? a=some u)/\ek P w (upd H a (.fU kvs)) h a (.fU kvs):=by
 obtain ⟨o,a4,cF,xs,r⟩:=d;have e:=(K2 ok r).at_;refine ⟨by rw [r.at_];exact kQ,⟨o,e⟩,r.mQ,r.ns,xs,Paired.qb r.cc fun q ef z=>⟨z.1,?_,z.2.2⟩,o,a4,cF,e,r.ex,r.dat,r.ent,r.aG⟩;rw [aF (fun e=>by have:=z.2.1;rw [e,r.at_] at this;cases this)];exact z.2.1
theorem adJ (ok:ep P w H h) (d:ib P w H a kvs):ep P w (upd H a (.fU kvs)) h:=
 have z:=N2 ok d
 ok.write z.1 (.inl rfl) (fun _ _ _ q=>q) z.2.1 z.2.2
theorem Vc (d:ib P w H a kvs) (e:H b=some (.tup xs)):b ≠ a:=fun z=>by
 obtain ⟨o,a4,cF,ys,r⟩:=d;have:=r.at_;rw [<- z,e] at this;cases this
end
section
variable {X:a8} {ab:List (Addr × Obj)} {σ:St} {H:aq} {s:Shared} {a b:Addr} {kvs:List (List Key × V)} {k:List Key} {v:V} {r:Value} {A:Around} {E:Value->Shared->Prop}
theorem Ec (J:Inv X ab σ H s) (gq:nP (H a)) (ex:∃ u,s.heap.get? a=some u) (new:ek X.prog X.w (upd H a dX) s.heap a dX):Inv X ab σ (upd H a dX) s:=
 J.un (t':=s.toks) (h':=s.heap) (eY.write gq (.inl rfl) (fun _ _ _ q=>q) ex) (J.bo.write gq (.inl rfl) (fun _ _ _ q=>q) ex new)
theorem ZZ (J:Inv X ab σ H s) (d:ib X.prog X.w H a kvs):Inv X ab σ (upd H a (.fU kvs)) s:=
 have z:=N2 J.bo d
 Ec J z.1 z.2.1 z.2.2
theorem KA (J:Inv X ab σ H s) (e:H a=some (.fU kvs)):∃ o,Inv X ab σ (upd H a (.ext (nJ a o))) s/\ib X.prog X.w (upd H a (.ext (nJ a o))) a kvs:=by
 obtain ⟨z,y,xs,r,o,a4,cF,af,ao,a_,cL,ej⟩:=(show ek X.prog X.w H s.heap a (.fU kvs) from J.bo a _ e);refine ⟨o,Ec J (by rw [e];exact kQ) ⟨o,af⟩ ⟨af,⟨o,af⟩,fun _ _ q k=>k o q⟩,o,a4,cF,xs,db ..,ao,a_,cL,ej,Paired.qb r fun p q z=>⟨z.1,?_,z.2.2⟩,z,y⟩;rw [aF (fun q=>by have:=z.2.1;rw [q,e] at this;cases this)];exact z.2.1
theorem ah_ (bq:A.units + 1 < cLine) (J:Inv X ab σ H s) (d:ib X.prog X.w H a kvs) (fa:H b=some (.tup (k.map dw))) (l:cu kvs k=some v) (h:∀ d_ aj,Inv X ab σ H aj->bH v d_->Q d_ aj) :
  wpAny (model X.prog X.w) A (getItem (.ref a) (.ref b)) Q E s:=by
 obtain ⟨z,hd,xs,rel,d4⟩:=RA (adJ J.bo d) (db ..);obtain ⟨d_,hw,hT⟩:=hD.some_of (v:=v) (o:=(atKey xs k).map (·.2)) (by rw [<- l];exact rel.val k);obtain ⟨p,av,hc⟩:=uL.mp hw;refine wpAny_getItem_heap (tupleKind_room_in1 bq) (wZ J.bo fa) d4 av ?_;rw [hc];exact h d_ _ (J.tok _) hT
theorem Z4 (bq:A.units + 1 < cLine) (J:Inv X ab σ H s) (d:ib X.prog X.w H a kvs) (fa:H b=some (.tup (k.map dw))) (aM:kvs.length < sizeLine) (cR:bH v r)
  (h:∀ o aj,Inv X ab σ (upd H a (.ext (nJ a o))) aj->ib X.prog X.w (upd H a (.ext (nJ a o))) a (d3 kvs k v)->Q () aj):wpAny (model X.prog X.w) A (setItem (.ref a) (.ref b) r) Q E s:=by
 refine Ty bq (ZZ J d) (kv.t (db ..) (by rw [aF (Vc d fa)];exact fa) aM) (show bH (.ref b) (.ref b) from rfl) cR fun aj gy=>?_
 rw [qY] at gy;obtain ⟨o,bP,ew⟩:=KA gy (db ..);rw [qY] at bP ew;exact h o aj bP ew
end
noncomputable def EN (P:Program) (w:World) (fR ty:TE):TE:=fun σ H Q=>fR σ H fun x H1=>ty σ H1 fun y az=>∃ a b kvs k v,x=.ref a/\y=.ref b/\ib P w az a kvs/\az b=some (.tup (k.map dw))/\cu kvs k=some v/\Q v az
noncomputable def GQ (P:Program) (w:World) (fR ty fI:TE):ed:=fun D σ H=>fI σ H fun v H1=>fR σ H1 fun x az=>ty σ az fun y bk=>∃ a b kvs k,x=.ref a/\y=.ref b/\ib P w bk a kvs/\bk b=some (.tup (k.map dw))/\kvs.length < sizeLine/\∀ o,ib P w (upd bk a (.ext (nJ a o))) a (d3 kvs k v)->D.b7 σ (upd bk a (.ext (nJ a o)))
noncomputable def IJ (P:Program) (w:World):TE:=fun _ H Q=>∀ p o,H p=none->ib P w (upd H p (.ext (nJ p o))) p []->Q (.ref p) (upd H p (.ext (nJ p o)))
section
variable {X:a8} {o i e value:Expr} {pos pos' AN:Pos} {fR ty fI:TE}
theorem ach (bq:X.A.units + 1 < cLine) (aS:br X o fR) (ah:br X i ty) (ax:HB i):br X (.Subscript o i pos) (EN X.prog X.w fR ty):=by
 intro ab s σ H Q J h;refine LU Y2.lookup ax (bC (aS ab s σ H _ J h) fun u s1 ⟨x,H1,a3,bb,bL⟩=>bC (ah ab s1 σ H1 _ a3 bL) fun hX s2 bx=>?_);obtain ⟨y,az,bP,bj,a,b,kvs,k,v,ex,jt,d,fa,l,dO⟩:=bx;subst ex jt;obtain rfl:u=fN a:=bb;obtain rfl:hX=fN b:=bj;refine ⟨?_,ah_ bq bP d fa l fun d_ s3 es hT=>⟨v,az,es,hT,dO⟩⟩;obtain ⟨bZ,a4,cF,xs,r⟩:=d;exact PY (K2 bP.bo r)
theorem YM (bq:X.A.units + 1 < cLine) (aS:br X o fR) (ah:br X i ty) (aK:br X value fI) (ax:swapsWith value (some (.Subscript o i pos')) pos.line X.env=pure false) :
  hI X (.Assign [.Subscript o i pos'] value pos) (GQ X.prog X.w fR ty fI):=by
 intro ab s σ H D J h;refine wpAny_Assign_Subscript (bC (aK ab s σ H _ J h) fun r s1 ⟨v,H1,a3,cR,bL⟩=>bC (aS ab s1 σ H1 _ a3 bL) fun u s2 ⟨x,az,bP,bb,dO⟩=>bC (ah ab s2 σ az _ bP dO) fun hX s3 bx=>?_) ax;obtain ⟨y,bk,es,bj,a,b,kvs,k,ex,jt,d,fa,aM,fP⟩:=bx;subst ex jt;obtain rfl:u=fN a:=bb;obtain rfl:hX=fN b:=bj;exact Z4 bq es d fa aM cR fun bZ s4 hu ze=>⟨σ,_,hu,fP bZ ze⟩
theorem acG:br X (.Dict [] [] pos) (IJ X.prog X.w):=fun ab s σ H Q J h=>by
 refine bC (Z0 ab s σ H (fun x H1=>∃ p,x=.ref p/\H p=none/\H1=upd H p (.fU [])) J fun p av=>⟨p,rfl,av,rfl⟩) fun v s1 bx=>?_
 obtain ⟨x,H1,a3,cI,p,ex,av,v8⟩:=bx;subst ex v8;obtain ⟨o,bP,ew⟩:=KA a3 (db ..);rw [qY] at bP ew;exact ⟨.ref p,_,bP,cI,h p o av ew⟩
end
section
variable {X:a8} {dc:Expr}
end
noncomputable def GO (p d:Addr):Heap->Prop:=fun h=>h.IsItemsView p d
theorem GO.ok {w:World} {h:Heap} {p d:Addr} (z:GO p d h):ek P w H h p (.ext (GO p d)):=
 ⟨z,let ⟨o,aS,_⟩:=z;⟨o,aS⟩,fun _ _ ff k=>let ⟨o,aS,x⟩:=ff;⟨o,k o aS,x⟩⟩
structure akh (H I:aq) (l:Addr) (as:List Addr) (kvs:List (Key × V)):Prop where
 same:∀ b o,H b=some o->I b=some o
 fresh:H l=none
 als:∀ a ∈ as,H a=none
 at_:I l=some (.lst (as.map V.ref))
 len:as.length=kvs.length
 al:∀ (j:Nat) (a:Addr) (q:Key × V),as[j]? = some a->kvs[j]? = some q->I a=some (.tup [dw q.1,q.2])
 only:∀ b o,I b=some o->H b=some o\/o=.lst (as.map V.ref)\/∃ q ∈ kvs,o=.tup [dw q.1,q.2]
section
variable {X:a8}
end
section
open AutoSeq1 (wpAny_loadPart')
open MeetsSeq MeetsSeq2 MeetsSeq3 SeqRoads2
variable {P:Program} {w:World} {l b:Addr} {xs ys:Array Value} {n m:Nat} {d4 aj':Option Addr} {bF bQ:Array (Option Value)}
end
section
variable {X:a8} {ab:List (Addr × Obj)} {σ:St} {H:aq} {s:Shared}
structure akj (H:aq) (p:Addr) (ps:List Addr) (cc:List (List (Key × V))):Prop where
 at_:H p=some (.lst (ps.map V.ref))
 len:ps.length=cc.length
 al:∀ (j:Nat) (a:Addr) (kvs:List (Key × V)),ps[j]? = some a->cc[j]? = some kvs->H a=some (.bw kvs)
end
section
variable {X:a8}
end
section
variable {X:a8} {ab:List (Addr × Obj)} {σ:St} {H:aq} {s:Shared} {d:Addr} {o:Obj} {kvs:List (Key × V)}
theorem agf (J:Inv X ab σ H s) (e:H d=some (.bw kvs)) (g:s.heap.get? d=some o):Inv X ab σ (upd H d (.eL o (.bw kvs))) s:=
 Ec J (by rw [e];exact kQ) ⟨o,g⟩ ⟨g,J.bo d _ e⟩
theorem MC (J:Inv X ab σ H s) (e:H d=some (.eL o (.bw kvs))) (hO:∀ o u,X.p5 d ≠ some (.eL o u)):Inv X ab σ (upd H d (.bw kvs)) s:=by
 have ne:∀ {b:Addr} {u:Option f6},H b=u->(∀ dX,u ≠ some (.eL dX (.bw kvs)))->b ≠ d:=fun {b u} q h z=>h o (by rw [<- q,z];exact e)
 refine ⟨J.ok,J.os,J.bare,⟨J.base.keep,J.base.slot,fun b dX q n ag=>?_,J.base.there,fun b xs q=>?_,fun b dX u q=>?_,fun b ps q=>?_⟩,J.loc,J.cell,?_,fun x c q=>?_,fun p av=>?_,fun b u q=>?_,J.len⟩
 .have h:=J.base.free b dX q n ag;rw [aF (ne h (fun _ z=>by cases z))];exact h
 .have h:=J.base.kY b xs q;rw [aF (ne h (fun _ z=>by cases z))];exact h
 .have h:=J.base.jH b dX u q;rw [aF (fun z=>hO dX u (by rw [<- z];exact q))];exact h
 .obtain ⟨m,h⟩:=J.base.kN b ps q;exact ⟨m,by rw [aF (ne h (fun _ z=>by cases z))];exact h⟩
 .rw [aF (ne J.free (fun _ z=>by cases z))];exact J.free
 .rw [aF (ne (J.i8 x c q) (fun _ z=>by cases z))];exact J.i8 x c q
 .obtain ⟨af,ao,a_⟩:=J.pin p av;exact ⟨af,by rw [aF (ne ao (fun _ z=>by cases z))];exact ao,a_⟩
 .by_cases ae:b=d
  .subst ae;rw [db] at q;cases q;exact (J.bo b _ e).2
  .rw [aF ae] at q;refine (J.bo b u q).nL (fun _ _ _ r=>r) (fun c r=>?_) (fun c xs r=>?_)
   .rw [aF (ne r (fun _ z=>by cases z))];exact r
   .rw [aF (ne r (fun _ z=>by cases z))];exact r
end
noncomputable def Ej (d:Addr) (o:Obj) (kvs:List (Key × V)):jm:=
 ⟨fun i H=>H d=some (.eL o (.bw kvs))/\i < kvs.length,fun i H x I=>I=H/\∃ k v,kvs[i]? = some (k,v)/\x=dw k,fun i H=>H d=some (.eL o (.bw kvs))/\kvs.length <= i⟩
theorem aam {w:World} {K:ba} {d it:Addr} (ex:o.ExactDict) (aS:o.data=.dict a4 cF)
  (aM:a4.size=kvs.length) (cc:∀ (i:Nat) (e:DictEntry),a4[i]? = some e->∃ k v,kvs[i]? = some (k,v)/\bH (dw k) e.key):pH P w K dc (Ej d o kvs) [it] it (fun i h=>h.IsKeyIter it d i a4.size cF) where
 mem:=by simp
 obj:=fun i h st b ae=>by
  have e:b=it:=by simpa using ae
  subst e;obtain ⟨o,e,c,d⟩:=st;exact ⟨o,e,fun v z=>by rw [d] at z;cases z⟩
 keep:=fun i h h' st k=>st.at fun o e=>k it (by simp) o e
 item:=by
  intro X cK hw fS aw i ab s σ H E J hf st bg;subst cK hw fS;obtain ⟨aN,ag⟩:=bg;have r:q3 s.heap d o a4 cF:=⟨(J.bo d _ aN).1,ex,aS⟩;obtain ⟨f0,f1,f2,dY,f4,ea⟩:=hf it (by simp);obtain ⟨q,zv⟩:∃ q,a4[i]? = some q:=⟨_,Array.getElem?_eq_getElem (show i < a4.size by omega)⟩;obtain ⟨k,v,ZK,F4⟩:=cc i q zv;refine VX st r zv fun h' ko nC=>?_
  have a3:Inv X ab σ H { s with heap:=h' }:=J.turned (t':=s.toks) (fun b o ae e=>(nC.2 b ae).trans e) f0 f1 dY f4 ea;obtain ⟨E7,e,c,d4⟩:=id ko;exact ⟨_,rfl,v7 (s:={ s with heap:=h' }) e c d4 (by decide) ⟨dw k,H,a3,F4,⟨rfl,k,v,ZK,rfl⟩,ko,fun b ae=>(hf b ae).1⟩⟩
 done:=by
  intro X cK hw fS aw i ab s σ H E J hf st bg;subst cK hw fS;obtain ⟨aN,ag⟩:=bg;have r:q3 s.heap d o a4 cF:=⟨(J.bo d _ aN).1,ex,aS⟩;obtain ⟨f0,f1,f2,dY,f4,ea⟩:=hf it (by simp);exact aej (J.ok.hd aw) st r (by omega) fun h' fa=>⟨rfl,J.turned (t':=s.toks) (fun b o ae e=>fa b o ae e) f0 f1 dY f4 ea⟩
 self:=fun _ _ _ _ _ st h=>wpAny_pyIter_keyiter st h
theorem afR {w:World} {k:Key} (h:(hV P w).is k v=true):bH (dw k) v:=by
 rcases nx (k:=k) (v:=v) h with ⟨i,t,rfl,rfl⟩ | ⟨x,t,rfl,rfl⟩
 .exact ⟨t,rfl⟩
 .exact ⟨t,rfl⟩
theorem Nd {w:World}:∀ {a4:List DictEntry} {vs:List (Key × Value)} {kvs:List (Key × V)},Pairs (hV P w) a4 vs->ez kvs vs->a4.length=kvs.length/\∀ (i:Nat) (e:DictEntry),a4[i]? = some e->∃ k v,kvs[i]? = some (k,v)/\bH (dw k) e.key
 | _,_,_,.nil,r=>by
  unfold ez at r;cases r;exact ⟨rfl,fun i e h=>by simp at h⟩
 | _,_,_,.cons aB _ t,r=>by
  unfold ez at r;cases r with
  | @cons p q ps qs h dj=>
   obtain ⟨l,al⟩:=Nd t (kvs:=ps) dj;refine ⟨by rw [hQ,hQ,l],fun i e he=>?_⟩;cases i with
   | zero=>
    cases he;refine ⟨p.1,p.2,rfl,afR (P:=P) (w:=w) ?_⟩;rw [h.1];exact aB
   | succ i=>exact al i e he
section
variable {X:a8} {dc:Expr}
noncomputable def BW (dS:TE):TI:=fun σ H R=>dS σ H fun x H1=>∃ d kvs,x=.ref d/\H1 d=some (.bw kvs)/\∀ o,R (Ej d o kvs) (upd H1 d (.eL o (.bw kvs)))
theorem QT (aM:br X l dS):oz X dc l (BW dS):=by
 intro ab s σ H R J h;refine bC (aM ab s σ H _ J h) fun v s1 bx=>?_
 obtain ⟨x,H1,a3,cI,bL⟩:=bx;obtain ⟨d,kvs,e,qe,q⟩:=bL;subst e;cases cI;obtain ⟨_,hd,vs,rel,o,a4,cF,g,ex,dat,_,pr,_⟩:=wL a3.bo qe;obtain ⟨aM,cc⟩:=Nd pr rel;have bP:=agf a3 qe g;refine TA hd ⟨g,ex,dat⟩ ?_;refine ⟨s1.heap.objs.size,[s1.heap.objs.size],_,_,_,rfl,bP.kept (t':=s1.toks) fun b o e=>e2 _ e,aam ex dat (by rw [<- aM];exact DB.symm) (fun i e h=>cc i e (by rw [<- aa_] at h;exact h)),⟨_,hN _ rfl,rfl,rfl⟩,fun b ae=>?_,q o⟩;have e:b=s1.heap.objs.size:=by simpa using ae
 subst e;exact bP.n7 (bW _) (bP.bo.fresh (bW _))
noncomputable def HO (t:TE):TE:=fun σ H Q=>∃ d kvs,H d=some (.bw kvs)/\t σ H fun v I=>∃ o,I d=some (.eL o (.bw kvs))/\Q v (upd I d (.bw kvs))
theorem ahd {e:Expr} {t:TE} (h:br X e t):br X e (HO t):=by
 intro ab s σ H Q J q;obtain ⟨d,kvs,qe,q⟩:=q;refine bC (h ab s σ H _ J q) fun v s1 ⟨x,H1,a3,cI,o,au,bL⟩=>⟨x,_,MC a3 au (fun dX u z=>?_),cI,bL⟩
 have:=J.base.jH d dX u z;rw [qe] at this;cases this
end
structure nr (X:a8) (ab:List (Addr × Obj)) (H:aq) (S:Addr):Prop where
 nn:H S=none
 nl:S ≠ X.env.locals
 ge:X.fs.heap.objs.size <= S
 sN:∀ x c,X.env.cells.lookup x=some c->c ≠ S
 np:∀ p ∈ X.d7 ++ ab,p.1 ≠ S
 hO:S ∉ X.aH
theorem nr.of (J:Inv X ab σ H s) (h:s.heap.objs.size <= S):nr X ab H S:=
 ⟨J.bo.fresh h,fun z=>absurd (hC J.lt h) (by rw [z];exact nA _),c4 J.mQ h,fun x c e z=>by
  obtain ⟨v,o,aS,_⟩:=J.cell x c e;exact absurd (hC (eA aS) h) (by rw [z];exact nA _),fun p av z=>by
  have aS:=(J.pin p av).1;exact absurd (hC (eA aS) h) (by rw [z];exact nA _),J.D2 h⟩
theorem nr.turn (o:nr X ab H S) (J:Inv X ab σ H s) (k:∀ b o,b ≠ S->s.heap.get? b=some o->h'.get? b=some o):Inv X ab σ H { s with heap:=h',toks:=t' }:=
 J.turned k o.nn o.nl (.inr o.ge) o.sN o.np
section
variable {X:a8} {A:Around} {ab:List (Addr × Obj)} {σ:St} {H:aq} {l q J S:Addr} {n:Nat} {P:Nat->Value->Prop} {R:Result->Shared->Prop}
theorem RX (bS:Inv X ab σ H s) (mx:nr X ab H S) (mN:nr X ab H J) (ae8:s.heap.get? S=some SH) (aha:s.heap.get? J=some OV) (afO:∀ v,SH.data ≠ .cell v) (VD:∀ v,OV.data ≠ .cell v):Inv X ((S,SH) :: (J,OV) :: ab) σ H s:=
 bS.qw fun p av=>by
  rcases fh.mp av with rfl | av
  .exact ⟨ae8,mx.nn,mx.nl,mx.hO,afO⟩
  rcases fh.mp av with rfl | av
  .exact ⟨aha,mN.nn,mN.nl,mN.hO,VD⟩
  exact bS.pin p (iz _ av)
theorem OE (bS:Inv X (H7 :: Fl :: ab) σ H s):Inv X ab σ H s/\s.heap.get? H7.1=some H7.2/\s.heap.get? Fl.1=some Fl.2:=
 ⟨bS.qw fun p av=>bS.pin p (iz _ (.tail _ (.tail _ av))),(bS.pin H7 (iz _ (.head _))).1,(bS.pin Fl (iz _ (.tail _ (.head _)))).1⟩
theorem VZ (e6:Nat->Int) (eM:A.handled=none) (aM:∀ s,Inv X ab σ H s->∃ vs:List Value,vs.length=n/\(∀ i v,vs[i]? = some v->P i v)/\s.heap.IsList l vs.toArray) (wg:l ≠ J) (rf:S ≠ J) (mx:nr X ab H S) (mN:nr X ab H J)
  (turn:∀ (i:Nat) (v:Value),i < n->P i v->∀ (ab:List (Addr × Obj)) (s:Shared),Inv X ab σ H s ->
   wpAny (model X.prog X.w) A.in1 (call (.ref q) [v]) (gN X ab σ fun x I=>x=.int (e6 i)/\I=H) (fun _ _=>False) s)
  (gZ:∀ i v aj,i < n->P i v->(∀ j,j < n->e6 i <= e6 j/\(j < i->e6 i < e6 j))->Inv X ab σ H aj->R (.ok (.ret v)) aj) :
  ∀ (r j i:Nat) (s:Shared) (tp:Value) (bI:Tok) (c:Nat),n - (j + 1)=r->j + 1 <= n->Inv X ab σ H s ->
   s.heap.get? S=some (seqObj "list" #[tp,.int (e6 i) bI] c)->s.heap.IsListIter J l (j + 1)->P i tp->i <= j->(∀ hG,hG <= j->e6 i <= e6 hG/\(hG < i->e6 i < e6 hG)) ->
   codeAny (model X.prog X.w) A (.builtin "min.loop" ⟨[.ref J,.ref q,.ref S],[]⟩) R s:=by
 have uC:(toString "min" ++ toString ".loop" : String) = "min.loop" := by decide
 intro r
 induction r with
 | zero=>
  intro j i s tp bI c ak aO bS d1 hit Eg hA sA;obtain ⟨vs,zG,xU,uQ⟩:=aM s bS;have W:=zW (prog:=X.prog) (w:=X.w) (A:=A.in1) eM J l wg vs.toArray;have hsz:vs.toArray.size=vs.length:=eb ..;have gw:j + 1=vs.length:=by omega
  refine codeAny_builtin Ro ?_;rw [Qp tY _];show wpAny _ A.in1 (seqItems? (.ref S) >>= _) _ _ _;refine wpAny_bind (wpAny_seqItems d1 rfl ?_);show wpAny _ A.in1 (tryCatch (pyNext (.ref J)) _ >>= _) _ _ _;refine wpAny_bind (wpAny_tryCatch (W.done _ _ _ ⟨by rw [hsz,<- gw];exact hit,uQ⟩ fun h' ug gv=>?_));have sF:Inv X ab σ H { s with heap:=h',toks:=ug }:=mN.turn bS fun b o n e=>gv b o (by simpa using n) e
  have wk:=gv S _ (by simpa using rf) d1;show wpAny _ A.in1 (updateSeq S (fun _=>#[]) >>= _) _ _ _;refine wpAny_bind ?_;refine wpAny_updateSeq wk rfl (wpAny_bind (wpAny_letGo (wpAny_pure ?_)));exact gZ i tp _ (by omega) Eg (fun hG fY=>sA hG (by omega)) (mx.turn sF fun b o n e=>(tm _ _ (eg n)).trans e)
 | succ r b9=>
  intro j i s tp bI c ak aO bS d1 hit Eg hA sA;obtain ⟨vs,zG,xU,uQ⟩:=aM s bS;have W:=zW (prog:=X.prog) (w:=X.w) (A:=A.in1) eM J l wg vs.toArray;have hsz:vs.toArray.size=vs.length:=eb ..;have dt:j + 1 < n:=by omega
  refine codeAny_builtin Ro ?_;rw [Qp tY _];show wpAny _ A.in1 (seqItems? (.ref S) >>= _) _ _ _;refine wpAny_bind (wpAny_seqItems d1 rfl ?_);show wpAny _ A.in1 (tryCatch (pyNext (.ref J)) _ >>= _) _ _ _;refine wpAny_bind (wpAny_tryCatch (W.item (j + 1) _ _ _ (by rw [hsz,zG];exact dt) ⟨hit,uQ⟩ fun v h' ug cK EU gv=>?_));have aK:P (j + 1) v:=xU _ _ (by simpa using cK);obtain ⟨AJ,Ew,qy,tS⟩:=id EU.1;have sF:Inv X ab σ H { s with heap:=h',toks:=ug }:=mN.turn bS fun b o n e=>gv b o (by simpa using n) e
  have wk:=gv S _ (by simpa using rf) d1;have pa:=RX sF mx mN wk Ew (fun _ z=>by cases z) (fun _ z=>by rw [tS] at z;cases z);show wpAny _ A.in1 (tryCatch (holding [v] (call (.ref q) [v])) _ >>= _) _ _ _;refine wpAny_bind (wpAny_tryCatch (wpAny_holding (wpAny_mono (turn (j + 1) v dt aK _ _ pa) (fun x s2 he=>?_) fun _ _ wH=>wH.elim)));obtain ⟨fO,I,Cr,bb,rfl,rfl⟩:=he;obtain ⟨gn,rfl⟩:=bb;obtain ⟨x8,tN,Ag⟩:=OE Cr;have aaT:s2.heap.IsListIter J l (j + 1 + 1):=⟨AJ,Ag,qy,tS⟩;show wpAny _ A.in1 (tryCatch (holding [v,.int (e6 (j + 1)) gn] (richCompare .Lt (.int (e6 (j + 1)) gn) (.int (e6 i) bI) >>= _)) _ >>= _) _ _ _;refine wpAny_bind (wpAny_tryCatch (wpAny_holding (wpAny_bind (CmpOf.ints_lt (prog:=X.prog) (w:=X.w) (A:=A.in1) (P:=fun i v=>∃ t,v=.int (e6 i) t) e6 (fun i v h=>h) (j + 1) i _ _ _ _ _ ⟨gn,rfl⟩ ⟨bI,rfl⟩ ?_))));refine wpAny_bind (wpAny_holding (wpAny_truthy_bool ?_));refine wpAny_bind (wpAny_letGo (wpAny_pure ?_));by_cases g9:e6 (j + 1) < e6 i
  .obtain ⟨bT,GL⟩:∃ bT,(s2.heap.update S (pU fun _=>#[v,.int (e6 (j + 1)) gn])).get? S=some (seqObj "list" #[v,.int (e6 (j + 1)) gn] bT):=⟨_,get?_update_seq tN fun _=>#[v,.int (e6 (j + 1)) gn]⟩;simp only [g9,decide_true,if_true];refine wpAny_bind ?_;refine wpAny_updateSeq tN rfl (wpAny_bind (wpAny_letGo ?_));rw [uC];have Iz:=mx.turn (t':=s2.toks) x8 (h':=s2.heap.update S (pU fun _=>#[v,.int (e6 (j + 1)) gn])) fun b o n e=>(tm _ _ (eg n)).trans e
   refine wpAny_pure ⟨plainId_quiet tY _,b9 (j + 1) (j + 1) _ v gn bT (by omega) dt Iz GL ⟨AJ,(tm _ _ rf).trans Ag,qy,tS⟩ aK (bW _) fun hG fY=>?_⟩;by_cases e:hG=j + 1
   .subst e;exact ⟨by omega,fun _=>by omega⟩
   .have su:=sA hG (by omega);have iU:=su.1;exact ⟨by omega,fun _=>by omega⟩
  .simp only [g9,decide_false,FF,if_false];refine wpAny_bind (wpAny_letGo ?_);rw [uC];refine wpAny_pure ⟨plainId_quiet tY _,b9 (j + 1) i _ tp bI c (by omega) dt x8 tN aaT Eg (by omega) fun hG fY=>?_⟩;by_cases e:hG=j + 1
   .subst e;exact ⟨by omega,fun _=>by omega⟩
   .exact sA hG (by omega)
theorem ahu (e6:Nat->Int) (eM:A.handled=none) (bS:Inv X ab σ H s) (aM:∀ ab s,Inv X ab σ H s->∃ vs:List Value,vs.length=n/\(∀ i v,vs[i]? = some v->P i v)/\s.heap.IsList l vs.toArray) (b4:0 < n)
  (turn:∀ (i:Nat) (v:Value),i < n->P i v->∀ (ab:List (Addr × Obj)) (s:Shared),Inv X ab σ H s ->
   wpAny (model X.prog X.w) A.in1 (call (.ref q) [v]) (gN X ab σ fun x I=>x=.int (e6 i)/\I=H) (fun _ _=>False) s)
  (aV:∀ i v aj,i < n->P i v->(∀ j,j < n->e6 i <= e6 j/\(j < i->e6 i < e6 j))->Inv X ab σ H aj->Q v aj) :
  wpAny (model X.prog X.w) A (call (.builtin "min") [.ref l] [(aa "key",.ref q)]) Q E s:=by
 have uC:(toString "min" ++ toString ".loop" : String) = "min.loop" := by decide
 obtain ⟨SX,_,_,yc⟩:=aM _ s bS;obtain ⟨ol,agH,_⟩:=id yc;have zO:l < s.heap.objs.size:=eA agH;refine kmk_tree PySem.F.kind_min PySem.F.plain_min PySem.F.entry_min (kmk_min_key _ _) ?_;show wpAny _ A.in1 (ae2 "min" ["key","default"] 0 ⟨[],[(aa "key",.ref q)]⟩ >>= _) _ _ s;refine wpAny_bind (wpAny_of_eq (show ae2 "min" ["key","default"] 0 ⟨[],[(aa "key",.ref q)]⟩=pure [some (.ref q),none] from rfl) ?_);refine wpAny_bind (wpAny_pure ?_);refine wpAny_bind (wpAny_pyIter_list yc ?_);refine wpAny_bind (wpAny_newList ?_ (fk _));rw [uC];have d1:(s.heap.push { cls:=.type "list_iterator",data:=.fields #[.ref l,.int 0 0] }).objs.size=s.heap.objs.size + 1:=size_push' ..;have wg:l ≠ s.heap.objs.size:=gz zO;have rf:(s.heap.push { cls:=.type "list_iterator",data:=.fields #[.ref l,.int 0 0] }).objs.size ≠ s.heap.objs.size:=by rw [d1];exact Mo (Fe _)
 refine wpAny_pure ⟨plainId_quiet tY _,?_⟩;have mN:nr X ab H s.heap.objs.size:=.of bS (bW _);have mx:nr X ab H (s.heap.push { cls:=.type "list_iterator",data:=.fields #[.ref l,.int 0 0] }).objs.size:=.of bS (by rw [d1];exact Fp _);have aa0:((s.heap.push { cls:=.type "list_iterator",data:=.fields #[.ref l,.int 0 0] }).push (seqObj "list" #[] 0)).get? s.heap.objs.size=some { cls:=.type "list_iterator",data:=.fields #[.ref l,.int 0 0] }:=
  e2 _ (hN _ rfl)
 have Ms:((s.heap.push { cls:=.type "list_iterator",data:=.fields #[.ref l,.int 0 0] }).push (seqObj "list" #[] 0)).get? (s.heap.push { cls:=.type "list_iterator",data:=.fields #[.ref l,.int 0 0] }).objs.size=some (seqObj "list" #[] 0):=hN _ rfl;have SA:Inv X ab σ H { s with heap:=(s.heap.push { cls:=.type "list_iterator",data:=.fields #[.ref l,.int 0 0] }).push (seqObj "list" #[] 0) }:=bS.kept (t':=s.toks) fun b o e=>e2 _ (e2 _ e)
 obtain ⟨vs,zG,xU,uQ⟩:=aM _ _ SA;have W:=zW (prog:=X.prog) (w:=X.w) (A:=A.in1) eM s.heap.objs.size l wg vs.toArray;have hsz:vs.toArray.size=vs.length:=eb ..;refine codeAny_builtin Ro ?_;rw [Qp tY _];show wpAny _ A.in1 (seqItems? (.ref _) >>= _) _ _ _;refine wpAny_bind (wpAny_seqItems Ms rfl ?_);show wpAny _ A.in1 (tryCatch (pyNext (.ref s.heap.objs.size)) _ >>= _) _ _ _;refine wpAny_bind (wpAny_tryCatch (W.item 0 _ _ _ (by rw [hsz,zG];exact b4) ⟨⟨_,aa0,rfl,rfl⟩,uQ⟩ fun v h' ug cK EU gv=>?_));have aK:P 0 v:=xU _ _ (by simpa using cK);obtain ⟨AJ,Ew,qy,tS⟩:=id EU.1;have sF:=mN.turn (h':=h') (t':=ug) SA fun b o n e=>gv b o (by simpa using n) e
 have wk:=gv _ _ (by simpa using rf) Ms;have pa:=RX sF mx mN wk Ew (fun _ z=>by cases z) (fun _ z=>by rw [tS] at z;cases z);show wpAny _ A.in1 (tryCatch (holding [v] (call (.ref q) [v])) _ >>= _) _ _ _;refine wpAny_bind (wpAny_tryCatch (wpAny_holding (wpAny_mono (turn 0 v b4 aK _ _ pa) (fun x s2 he=>?_) fun _ _ wH=>wH.elim)));obtain ⟨fO,I,Cr,bb,rfl,rfl⟩:=he;obtain ⟨gn,rfl⟩:=bb;obtain ⟨x8,tN,Ag⟩:=OE Cr;obtain ⟨bT,GL⟩:∃ bT,(s2.heap.update (s.heap.push { cls:=.type "list_iterator",data:=.fields #[.ref l,.int 0 0] }).objs.size (pU fun _=>#[v,.int (e6 0) gn])).get? (s.heap.push { cls:=.type "list_iterator",data:=.fields #[.ref l,.int 0 0] }).objs.size=some (seqObj "list" #[v,.int (e6 0) gn] bT):=⟨_,get?_update_seq tN fun _=>#[v,.int (e6 0) gn]⟩;show wpAny _ A.in1 (updateSeq (s.heap.push { cls:=.type "list_iterator",data:=.fields #[.ref l,.int 0 0] }).objs.size (fun _=>#[v,.int (e6 0) gn]) >>= _) _ _ _;refine wpAny_bind ?_;refine wpAny_updateSeq tN rfl ?_;rw [uC];have Iz:=mx.turn (t':=s2.toks) x8 (h':=s2.heap.update (s.heap.push { cls:=.type "list_iterator",data:=.fields #[.ref l,.int 0 0] }).objs.size (pU fun _=>#[v,.int (e6 0) gn])) fun b o n e=>(tm _ _ (eg n)).trans e
 refine wpAny_pure ⟨plainId_quiet tY _,VZ e6 eM (fun s bS=>aM _ s bS) wg rf mx mN turn aV _ 0 0 _ v gn bT rfl b4 Iz GL ⟨AJ,(tm _ _ rf).trans Ag,qy,tS⟩ aK (bW _) fun hG fY=>?_⟩;have e:hG=0:=by omega
 subst e;exact ⟨by omega,fun h=>absurd h (nA _)⟩
end
structure z' (p y z:Str) (sc:Scope):Prop where
 kind:sc.kind=.function
 co:sc.isCoroutine=false
 gen:sc.isGenerator=false
 ne:y ≠ z
 par:sc.names.lookup p=some .local
 Ka:sc.names.lookup y=some .free
 ED:sc.names.lookup z=some .free
 sf:∀ z ∈ sc.names,z.2 ≠ .cell
 two:∀ b ∈ sc.names,b.2=.free->b.1=y\/b.1=z
noncomputable def rO (X:a8) (A:Around) (N:List Str) (q:Str) (scope:Scope) (f c':Addr) (cl:List (Str × Addr)) (s:Shared) (H:aq):a8 where
 prog:=X.prog
 w:=X.w
 K:=X.K
 mg:=X.mg
 base:=X.base
 A:=A.deeper (HM q scope s.heap.objs.size f (.ref c') cl)
 N:=N
 fs:=s
 p5:=H
 env:=HM q scope s.heap.objs.size f (.ref c') cl
 outer:=X.stack
 stack:=HM q scope s.heap.objs.size f (.ref c') cl :: X.stack
 ex:=[]
 fn:=fun _=>false
 calm:=true
 d7:=[]
 dF:=fun _ _=>False
section
variable {X:a8} {A:Around} {ab:List (Addr × Obj)} {σ:St} {H:aq} {s:Shared} {k:Nat} {f c' bB bT:Addr} {q p y z:Str} {params:Arguments} {body:Expr} {scope:Scope} {v1 v2:V} {t:TE}
theorem xN {x:Str} (e:([(y,bB),(z,bT)]:List (Str × Addr)).lookup x=some c):(x=y/\c=bB)\/(x=z/\c=bT):=by
 rw [kk] at e;cases ae:x == y with
 | true=>rw [ae] at e;cases e;exact .inl ⟨eq_of_beq ae,rfl⟩
 | false=>
  rw [ae] at e;simp only [kk] at e;cases iU:x == z with
  | true=>rw [iU] at e;cases e;exact .inr ⟨eq_of_beq iU,rfl⟩
  | false=>rw [iU] at e;cases e
theorem aeb (S:z' p y z scope) (ak:ee k A) (jD:A.frames=some X.stack) (J:Inv X ab σ H s) (ne:bB ≠ bT) (cw:H bB=none) (cV:H bT=none)
  (cy:∃ u,bH v1 u/\s.heap.IsCell bB (some u)) (c1:∃ u,bH v2 u/\s.heap.IsCell bT (some u)) (my:bH a u)
  (m8:af.Ns s.heap.objs.size (fun x=>[(p,u)].reverse.lookup x)) (aB:∀ b o,s.heap.get? b=some o->af.get? b=some o) :
  Inv (rO X A [p,y,z] q scope f c' [(y,bB),(z,bT)] s H) [] [some a,some v1,some v2] H { s with heap:=af,toks:=tk }:=by
 obtain ⟨sC,cI,s9,LL,Rq⟩:=cy;obtain ⟨yi,fX,E7,KX,QI⟩:=c1;have SP:([(y,bB),(z,bT)]:List (Str × Addr)).lookup y=some bB:=by rw [kk,beq_self_eq_true]
 have SM:([(y,bB),(z,bT)]:List (Str × Addr)).lookup z=some bT:=by
  rw [kk,show (z == y)=false from by simpa using eg S.ne];simp only [kk,beq_self_eq_true]
 have q6:∀ b:Addr,b ∉ (rO X A [p,y,z] q scope f c' [(y,bB),(z,bT)] s H).ex:=fun b z=>absurd (show b ∈ ([]:List Addr) from z) (by simp)
 refine ⟨⟨J.ok.mod,S.kind,rfl,rfl,bW _,fun x w c au aI=>?_,fun x ag=>?_,fun x c hf e=>?_,fun _=>ak.hd,abE jD,.inr ⟨rfl,rfl⟩,fun b z=>absurd z (q6 b),J.bs,c4 J.ok.kc J.mQ,fun b _ _=>q6 b,fun b z=>absurd z (q6 b),J.stack,J.EZ⟩,
  rfl,J.bare,eY.kept aB,⟨_,m8,fun i x ajM au aI bO=>?_⟩,fun x c e=>?_,J.bo.fresh (bW _),fun x c e=>?_,fun z aQ=>absurd (show z ∈ ([]:List (Addr × Obj)) from aQ) (by simp),J.bo.kept aB,rfl⟩
 .rcases xN au with ⟨rfl,rfl⟩ | ⟨rfl,rfl⟩ <;> rcases xN aI with ⟨rfl,h⟩ | ⟨rfl,h⟩
  .rfl
  .exact absurd h ne
  .exact absurd h.symm ne
  .rfl
 .have ag:scope.names.lookup x=some .cell\/scope.names.lookup x=some .free:=ag;rcases ag with ag | ag
  .exact absurd rfl (S.sf _ (t2 ag))
  .rcases S.two _ (t2 ag) rfl with h | h
   .have h:x=y:=h;exact ⟨bB,by rw [h];exact SP⟩
   .have h:x=z:=h;exact ⟨bT,by rw [h];exact SM⟩
 .cases hf
 .match i,au,aI with
  | 0,au,aI=>
   cases au;cases aI;exact ⟨u,my,.inl ⟨S.par,by show oh p [(p,u)]=some u;rw [kk,beq_self_eq_true]⟩⟩
  | 1,au,aI=>
   cases au;cases aI;exact ⟨sC,cI,.inr ⟨.inr S.Ka,bB,SP,⟨s9,aB _ _ LL,Rq⟩⟩⟩
  | 2,au,aI=>
   cases au;cases aI;exact ⟨yi,fX,.inr ⟨.inr S.ED,bT,SM,⟨E7,aB _ _ KX,QI⟩⟩⟩
  | i + 3,au,_=>simp [rO] at au
 .rcases xN e with ⟨_,rfl⟩ | ⟨_,rfl⟩
  .exact ⟨_,s9,aB _ _ LL,Rq⟩
  .exact ⟨_,E7,aB _ _ KX,QI⟩
 .rcases xN e with ⟨_,rfl⟩ | ⟨_,rfl⟩
  .exact cw
  .exact cV
theorem UZ (S:z' p y z scope) (ak:ee k A) (jD:A.frames=some X.stack) (J:Inv X ab σ H s) (ne:bB ≠ bT) (cw:H bB=none) (cV:H bT=none)
  (cy:∃ u,bH v1 u/\s.heap.IsCell bB (some u)) (c1:∃ u,bH v2 u/\s.heap.IsCell bT (some u))
  (IG:H f=some (.ext (k7 f q params body scope [(y,bB),(z,bT)] c'))) (kf:H c'=some (.ext (lV c' q)))
  (ae:∀ pm jS,bindArgs (ace "<lambda>" q params body scope [(y,bB),(z,bT)] pm (.ref c') jS) ⟨[u],[]⟩=pure [(p,u)]) (my:bH a u)
  (n5:br (rO X A [p,y,z] q scope f c' [(y,bB),(z,bT)] s H) body t) (h:t [some a,some v1,some v2] H Q) :
  wpAny (model X.prog X.w) A (call (.ref f) [u]) (gN X ab σ Q) E s:=by
 have inner:codeAny (model X.prog X.w) A (.call (.ref f) ⟨[u],[]⟩) (Hf dz X.stack X.prog X.w H s Q CB) s:=by
  obtain ⟨⟨pm,jS,aS⟩,_⟩:=J.bo _ _ IG;refine PySem.W.kla_callFunE ak.depth aS rfl S.co S.gen rfl (J.bo _ _ kf).1 ?_;rw [ae];refine wpAny_pure (wpAny_newFunctionEnv S.sf (fun z aQ=>by rw [eC.mp aQ];exact S.par) (fun af m8 ts=>⟨J.nolimit.fresh _ ts,?_⟩) S.kind);have aB:∀ b o,s.heap.get? b=some o->af.get? b=some o:=fun b o e=>ts.extBut b o (gz (eA e)) (e2 _ e)
  show codeAny _ _ (.expr body (HM q scope s.heap.objs.size f (.ref c') [(y,bB),(z,bT)])) _ _;have bS:=aeb (f:=f) (c':=c') (q:=q) (tk:=s.toks + [(p,u)].length) S ak jD J ne cw cV cy c1 my m8 aB;refine PySem.W.kla_codeExpr (wpAny_mono (n5 [] _ _ _ _ bS h) (fun aiJ aj aN=>?_) fun _ _ z=>iK z);obtain ⟨x,I,yE,bb,ef⟩:=aN;exact ⟨x,I,yE.os,yE.bare,yE.base,yE.bo,bb,ef⟩
 refine wpAny_call (codeAny_mono inner fun r aj aN=>?_);cases r with
 | error e=>exact aN.elim
 | ok d8=>
  cases d8 with
  | ret u=>exact J.after aN
  | next=>exact iK aN
  | brk=>exact iK aN
  | cont=>exact iK aN
end
theorem aD.p {K:ba} (s:lj Pt H I) (t:Tab H Pt pos q) (h:aD K H a xs):aD K I a xs:=by
 rcases h with (h | ⟨o,h⟩) | h
 .exact .inl (.inl (s _ _ (t.ne h (fun _ z=>by cases z)) h))
 .exact .inl (.inr ⟨o,s _ _ (t.ne h (fun _ z=>by cases z)) h⟩)
 .exact .inr h
noncomputable def Qx (K:ba) (Pt:Addr) (pK:Pos) (q:Str) (i1 i2:Nat) (t:TE) (a9:fG):TE:=fun σ H Q=>a9 σ H fun vs H1=>∃ l cc v1 v2,∃ g:Int->Int,vs=[.ref l]/\aD K H1 l (rQ V.int cc)/\cc ≠ [] /\
 σ[i1]? = some (some v1)/\σ[i2]? = some (some v2)/\Tab H1 Pt pK q/\∀ az,lj Pt H1 az->(aP H1->aP az)->Tab az Pt pK q ->
  (∀ n ∈ cc,t [some (.int n),some v1,some v2] az fun x I=>x=.int (g n)/\I=az)/\∀ (i:Nat) m,cc[i]? = some m->(∀ (j:Nat) n,cc[j]? = some n->g m <= g n/\(j < i->g m < g n))->Q (.int m) az
theorem Xm {k:Nat} {t:TE} {p bK pos pK:Pos}
  (aw:X.calm=true) (bg:lX X "min") (hm:X.mg "min"=none) (aX:jM X [a] a9) (T:RQ X c Pt) (ak:ee (k + 1) X.A) (S:z' pr y z scope) (af:X.env.cells.lookup y=some bB) (ao:X.env.cells.lookup z=some bT) (I6:defaultsOf params X.env=([],[])) (lh:closureFor scope X.env=pure [(y,bB),(z,bT)])
  (cb:X.env.scope.names.lookup y=some .cell) (dQ:X.env.scope.names.lookup z=some .cell) (ZV:X.N[i1]? = some y) (Vt:X.N[i2]? = some z)
  (ae:∀ c' pm jS u,bindArgs (ace "<lambda>" (X.env.qual ++ "<lambda>") params body scope [(y,bB),(z,bT)] pm (.ref c') jS) ⟨[u],[]⟩=pure [(pr,u)])
  (n5:∀ f c' s H,∃ t',br (rO X X.A.in1 [pr,y,z] (X.env.qual ++ "<lambda>") scope f c' [(y,bB),(z,bT)] s H) body t'/\t'=t)
  (he:∀ pos,backTo pos (starEach [a] X.env)=(false,eval a X.env) :: backTo pos (starEach [] X.env):=by intro _;rfl) (cY:∀ pos,(backTo pos (starEach [a] X.env)).any (·.1)=false:=by intro _;rfl) :
  br X (.Call (.Name "min" p) [a] [⟨some "key",.Lambda params body scope pK,bK⟩] pos) (Qx X.K Pt pK (X.env.qual ++ "<lambda>") i1 i2 t a9):=by
 intro ab s σ H Q J h;refine wpAny_Call_Name_kw (u0 J bg hm (show bootBuiltins "min"=some (.builtin "min") by ac_nf) ?_);refine callWith_kw (id := "min") (bC (aX pos ab s σ H _ J h) fun us s1 bx=>?_) (he:=he pos) (hplain:=cY pos);obtain ⟨vs,H1,a3,cI,bL⟩:=bx;obtain ⟨l,cc,v1,v2,g,rfl,aN,b4,au,aI,bI,q⟩:=bL;refine kws_cons (Ti a3 T bI lh I6 fun f c' az s2 bP bQ bE qE IG kf hO=>kws_nil ?_);obtain ⟨kE,Z2⟩:=q az bQ bE qE;have zv:=aN.p bQ bI;have cell:∀ {ab:List (Addr × Obj)} {s:Shared} (bS:Inv X ab σ az s) {i:Nat} {x:Str} {v:V} {cl:Addr},X.N[i]? = some x->σ[i]? = some (some v)->X.env.scope.names.lookup x=some .cell->X.env.cells.lookup x=some cl->∃ u,bH v u/\s.heap.IsCell cl (some u):=by
  intro ab s bS i x v cl bu ev ag rU;obtain ⟨m,aT,afN⟩:=bS.loc;obtain ⟨u,f7,lo⟩:=afN i x v bu ev (.inr (.inl ag));have aB:X.env.kindOf x=some .cell:=ag;rcases lo with ⟨w,_⟩ | ⟨_,alr,dk,dZ⟩
  .rw [aB] at w;cases w
  .rw [rU] at dk;cases dk;exact ⟨u,f7,dZ⟩
 have vd:bB ≠ bT:=fun w=>S.ne (J.ok.inj _ _ _ af (by rw [w];exact ao))
 cases cI with
 | cons r r0=>
  cases r0;cases r;have acs:0 < cc.length:=LF.mpr b4;refine ahu (n:=cc.length) (P:=fun i v=>∃ t,v=.int (cc.getD i 0) t) (fun i=>g (cc.getD i 0)) (a3.ok.hd aw) bP (fun ab s bS=>?_) acs (fun i v ah aK ab s bS=>?_) fun i v aj ah aK sA bS=>?_
  .obtain ⟨a6,cR,pl,aQ⟩:=bS.list zv;have aM:=cR.length;rw [aU] at aM;refine ⟨a6,aM.symm,fun i v aK=>?_,pl.isList⟩;have ah:i < cc.length:=by have:=(b6.mp aK).1;omega
   obtain ⟨w,hw,hT⟩:=cR.get (show (cc.map V.int)[i]? = some (.int cc[i]) by rw [dm,a' ah];rfl);rw [aK] at hw;cases hw;rw [iV,a' ah];exact hT
  .obtain ⟨t',su,rfl⟩:=n5 f c' s az;have hm:cc.getD i 0 ∈ cc:=by rw [iV,a' ah];exact jg ah
   exact UZ (a:=.int (cc.getD i 0)) S ak.in1 a3.ok.frames bS vd (bS.i8 _ _ af) (bS.i8 _ _ ao) (cell bS ZV au cb af) (cell bS Vt aI dQ ao) IG kf (fun pm jS=>ae c' pm jS v) aK su (kE _ hm)
  .obtain ⟨tk,rfl⟩:=aK;refine ⟨.int (cc.getD i 0),az,bS,⟨tk,rfl⟩,Z2 i _ (by rw [iV,a' ah];rfl) fun j n aO=>?_⟩;have i6:j < cc.length:=(b6.mp aO).1;have e:cc.getD j 0=n:=by rw [iV,aO];rfl
   have:=sA j i6;rw [e] at this;exact this
theorem b'.afT {w:World} {K:ba} {mg:Str->Option Value} {base:Heap} {x qual:Str} {st:Stmt} {fd:FuncData} {N ps:List Str} {k:Nat} (F:b' K x qual st f fd) (S:cq N ps (bz st)) (len:∀ vs H Q E,sp vs H Q E->vs.length=ps.length)
  (n5:∀ (fl:Value),fd.code=fl->∀ (A:Around) (outer:List Env) (s:Shared) (H:aq) (vs:List V) (Q:cW) (E:fQ),ee k (A.deeper (envOfC qual (bz st) s.heap.objs.size f fl))->sp vs H Q E ->
   ∃ t,kq (p3 dz P w K mg base N qual (bz st) f fl A outer s H E).k9 (qx st) t/\t { b7:=fun _ I=>Q .bU I,kK:=Q } (start N vs) H):cH P w K mg base dz (k + 1) f fd ps sp:=by
 obtain ⟨mW,dp,dw,doc,pm,an,fl,eI,rq,rfl,lk,kl⟩:=F.ex;refine Rm lk kl S len fun A outer s H vs Q E ak nf=>?_
 obtain ⟨t,h,q⟩:=n5 fl rfl A outer s H vs Q E ak nf;exact ⟨t,h.k9,q⟩
def ND (_:Addr):Prop:=True
noncomputable abbrev K1 {P:Addr} (_:ND P):Addr:=P
theorem Xd {l:PySem.W.OpenLaw} {n k:Nat} {q:Program} {loose:List Str} {Br:(Str->Option Value)->Heap->Prop} {s6:World->Heap->Prop} {d:DefRec} {K:Params->ba} {CX:jx} {sp:ba->Addr->bN} {x:Str} {Pt:Addr}
  (aT:l.most=some n) (p':n <= sizeLine) (Gy:d.params.defaults=[]) (ak:ee k callerA)
  (Vx:∀ (w:World) (h:Heap),s6 w h->(K w.params).In h) (iO:∀ (w:World) (h:Heap),s6 w h->h.get? Pt=some (MA #[])) (fS:∀ p,T6 (K p)=true)
  (F:∀ (w:World) (mg:Str->Option Value) (fZ:Addr) (h:Heap),(K w.params).In h->h.Ns mainGlobals mg->mg d.name=some (.ref fZ)->ND Pt ->
   ∃ (fd:FuncData) (c:Addr),(∀ (s:Shared) (u:Value),BindsTo s fd ⟨[u],[]⟩ [(x,u)])/\ahL (K w.params) c Pt=true /\
    ∀ (base:Heap),(K w.params).In base->base.Ns mainGlobals mg->qo base c Pt->base.BuiltinsAt mg Pt->cH l.prog w (K w.params) mg base CX k fZ fd [x] (sp (K w.params) Pt))
  (nf:∀ (K:ba) (H:aq) (a Pt:Addr) (ns:List Int),ns.length <= n->Ba Pt H->aD K H a (ns.map V.int)->sp K Pt [.ref a] H (fun v _=>v=.bl true) fun _ _ _=>False)
  (HL:∀ (H:aq) (s:Shared) (e:Value) (aj:Shared),CX [] H s (fun _ _ _=>False) e aj->False) :
  PySem.W.WalkO q loose Br s6 l.row.toRowW d [] (fun f vs=>Ux f vs):=by
 refine Mv.Va aT Gy fun w fs dd mg lR fZ o pm cd doc a vs ns G Y aS hd kl vu CC hints hlen bg=>?_
 have ka:=Vx w _ Y;obtain ⟨fd,c,ae,aw,wH⟩:=F w mg fZ _ ka G.T.g vu trivial;exact V3 (c:=c) (Pt:=Pt) ka (fS w.params) G.T.g G.T.b G.T.builtins G.T.nolimit bg G.T.bmain (PySem.W.codeHd_of_K ka aw) (iO w _ Y) CC hints (c4 hlen p') ak wH ae (fun H k5 d1=>nf (K w.params) H a Pt ns hlen k5 d1) fun H e aj=>HL H dd e aj
noncomputable def Oe (st:Stmt):Expr:=match (qx st).getLast? with
 | some (.Return (some (.Call _ _ [⟨_,e,_⟩] _)) _)=>e
 | _=>.Constant .none 0 ⟨0,0,0,0⟩
noncomputable def FV (t:ed):ed:=fun D σ H=>∃ d kvs,H d=some (.bw kvs)/\t { b7:=fun aA I=>∃ o,I d=some (.eL o (.bw kvs))/\D.b7 aA (upd I d (.bw kvs)),kK:=fun _ _=>False } σ H
theorem aiB {st:Stmt} {t:ed} (h:hI X st t):hI X st (FV t):=by
 intro ab s σ H D J q;obtain ⟨d,kvs,qe,q⟩:=q;refine bC (h ab s σ H _ J q) fun f s1 aN=>?_
 cases f with
 | next=>
  obtain ⟨gg,H1,a3,o,au,bL⟩:=aN;refine ⟨gg,_,MC a3 au (fun dX u z=>?_),bL⟩;have:=J.base.jH d dX u z;rw [qe] at this;cases this
 | ret u=>obtain ⟨_,_,_,_,_,z⟩:=aN;exact z.elim
 | brk=>obtain ⟨_,_,_,z⟩:=aN;exact z.elim
 | cont=>obtain ⟨_,_,_,z⟩:=aN;exact z.elim
theorem dN (t u:ed) (D:gW) (σ:St) (H:aq):Jb t u D σ H=(t { D with b7:=u D } σ H):=rfl
theorem LH:KI r dj a9 bI c0 σ H Q=(a9 σ H fun x H1=>bI σ H1 fun y az=>r x y az fun z bk=>iR z fun k=>
 (if k=true then c0 σ bk fun d_ cJ=>dj y d_ cJ Q else Q (.bl false) bk)):=rfl
theorem Pf (K:ba):Sb K a9 fI f D σ H=(fI σ H fun y H1=>a9 σ H1 fun x az=>e1 x fun a=>∃ C ar aH,az a=some (.ins C ar aH)/\g8 K C/\cX K C f/\aH.length < 1000 /\
 D.b7 σ (upd az a (.ins C ar (c2 f y aH)))):=rfl
theorem ww (K:ba) (j_:V->V->aq->cW->Prop):NX K a9 fI j_ f D σ H=(a9 σ H fun x H1=>∃ a C ar aH v,x=.ref a/\H1 a=some (.ins C ar aH)/\g8 K C/\cX K C f/\aH.lookup f=some v /\
 fI σ H1 fun y az=>j_ v y az fun z bk=>∃ g5 mb,bk a=some (.ins C g5 mb)/\mb.length < 1000/\D.b7 σ (upd bk a (.ins C g5 (c2 f z mb)))):=rfl
theorem Lz (t:fG):CS C m sp dvs E a9 t σ H Q=(a9 σ H fun x H1=>e1 x fun a=>∃ ar aH,H1 a=some (.ins C ar aH)/\aH.lookup m=none /\
 t σ H1 fun vs az=>sp (x :: (vs ++ dvs)) az Q E):=rfl
theorem LS (t:fG):Nq C sp dvs E t σ H Q=(t σ H fun vs H1=>∀ x ar,H1 x=none->H1 ar=none->ar ≠ x ->
 sp (.ref x :: (vs ++ dvs)) (upd (upd H1 ar (.own x)) x (.ins C ar [])) (fun v az=>v=.bU/\Q (.ref x) az) E):=rfl
theorem O1 (K:ba) (x:V) (lo:Option Int) (ah:Option Int) (H:aq) (Q:cW):Sh K x lo ah H Q=(∃ a xs,x=.ref a/\cM K H a xs /\
 ¬ (fM.c9 xs.length 0 lo=0/\fM.c9 xs.length xs.length ah=xs.length)/\∀ p,H p=none->Q (.ref p) (upd H p (.tup (md xs lo ah)))):=rfl
theorem Mq (fR ty qN:TE):PB fR ty qN σ H Q=(fR σ H fun x H1=>∃ a,x=.ref a/\B9 H1 a/\ty σ H1 fun y az=>qN σ az fun z bk=>∃ kvs k,bk a=some (.bw kvs)/\y=dw k /\
 (∀ v,cu kvs k=some v->Q v (upd bk a (.bw (p1 kvs k))))/\(cu kvs k=none->Q z bk)):=rfl
theorem JY (t:fG):M1 nB m nH E a9 t σ H Q=(a9 σ H fun x H1=>∃ a C ar aH,x=.ref a/\H1 a=some (.ins C ar aH)/\nB C/\aH.lookup m=none /\
 t σ H1 fun vs az=>nH C (x :: vs) az Q E):=rfl
theorem Qn (K:ba) (t:TE):Qx K Pt pK q i1 i2 t a9 σ H Q=(a9 σ H fun vs H1=>∃ l cc v1 v2,∃ g:Int->Int,vs=[.ref l]/\aD K H1 l (rQ V.int cc)/\cc ≠ [] /\
 σ[i1]? = some (some v1)/\σ[i2]? = some (some v2)/\Tab H1 Pt pK q/\∀ az,lj Pt H1 az->(aP H1->aP az)->Tab az Pt pK q ->
  (∀ n ∈ cc,t [some (.int n),some v1,some v2] az fun x I=>x=.int (g n)/\I=az)/\∀ (i:Nat) m,cc[i]? = some m->(∀ (j:Nat) n,cc[j]? = some n->g m <= g n/\(j < i->g m < g n))->Q (.int m) az):=rfl
def dP (bS:jm) (g:gi) (bI:ed) (D:gW) (σ:St) (H:aq):Prop:=∃ W:Nat->Nat->St->aq->Prop,(∃ m,W 0 m σ H)/\∀ i m σ H,W i m σ H ->
 (bS.stop i H/\D.b7 σ H)\/(bS.go i H/\∃ N:St->aq->Prop,(∀ aA I,N aA I->∃ c3,c3 < m/\W (i + 1) c3 aA I)/\∀ x I,bS.n_ i H x I->g x σ I fun cC az=>bI { D with b7:=N,eI:=N,cE:=D.b7 } cC az)
theorem PV:Lh gB g bI D σ H=gB σ H fun bS H1=>dP bS g bI D σ H1:=rfl
def da (bS:jm) (g:gi) (c0:TT) (bM:TE) (du:St) (Q:cW) (H:aq):Prop:=∃ W:Nat->Nat->List V->aq->Prop,(∃ m,W 0 m [] H)/\rA bS g c0 bM du Q W
theorem SS:Cx gB g c0 bM sel σ H Q=gB σ H fun bS H1=>da bS g c0 bM (mc sel σ) Q H1:=rfl
theorem PI:N1 a9 σ H R=(a9 σ H fun vs H1=>ma vs fun x=>f_ x fun j=>-4611686018427387904 <= j/\j < 4611686018427387904/\R (mq 0 j.toNat) H1):=rfl
theorem Xy (f:α->β):[].map f=[]:=rfl
theorem ahS (f:α->β) (a:α) (l:List α):(a :: l).map f=f a :: l.map f:=rfl
theorem af3 (l:List α):[] ++ l=l:=rfl
theorem adi (a:α) (l r:List α):(a :: l) ++ r=a :: (l ++ r):=rfl
theorem aeB (a b:α) (l:List α):(a :: l).set 0 b=b :: l:=rfl
theorem agV (a b:α) (l:List α) (n:Nat):(a :: l).set (n + 1) b=a :: l.set n b:=rfl
theorem V7 (a:α) (l:List α):(a :: l)[0]? = some a:=rfl
theorem Yj (a:α) (l:List α) (n:Nat):(a :: l)[n + 1]? = l[n]?:=rfl
theorem ad7:([]:List α).length=0:=rfl
theorem afX (a:α) (l:List α):(a :: l).length=l.length + 1:=rfl
theorem abA (f:α->Option β):(none:Option α).bind f=none:=rfl
theorem afn (f:α->Option β) (a:α):(some a).bind f=f a:=rfl
theorem YK (a:Option α):(some a).join=a:=rfl
theorem WL:(none:Option (Option α)).join=none:=rfl
theorem R0 (sel:List (Option Nat)) (σ:St):mc sel σ=sel.map fun o=>o.bind fun j=>(σ[j]?).join:=rfl
theorem dy {t u:ed} (b:Bool) (aw:∀ Q:Bool->aq->Prop,Q b H->c σ H Q) (af:b=true->t D σ H) (ao:b=false->u D σ H):Gd c t u D σ H:=by
 refine aw _ ?_;cases b with
 | true=>exact af rfl
 | false=>exact ao rfl
theorem Fm {t u:ed} (R:Bool->aq->Prop) (aw:∀ Q:Bool->aq->Prop,(∀ b I,R b I->Q b I)->c σ H Q) (af:∀ I,R true I->t D σ I) (ao:∀ I,R false I->u D σ I):Gd c t u D σ H:=by
 refine aw _ fun b I r=>?_
 cases b with
 | true=>exact af I r
 | false=>exact ao I r
theorem qm {t:ed} {D:gW} {σ:St} {H:aq} (R:St->aq->Prop) (h:∀ b3:gW,(∀ σ H,R σ H->b3.b7 σ H)->b3.kK=D.kK->b3.cE=D.cE->b3.eI=D.eI->t b3 σ H) (gZ:∀ σ H,R σ H->D.b7 σ H):t D σ H:=h D gZ rfl rfl rfl
theorem CH {t:ed} {D:gW} {σ:St} {H:aq} (R:St->aq->Prop) (h:∀ b3:gW,(∀ σ H,R σ H->b3.b7 σ H)->t b3 σ H) (gZ:∀ M,M=D.b7->∀ σ H,R σ H->M σ H):t D σ H:=h D (gZ _ rfl)
theorem QP {p:Prop} (h:∀ q,q=p->q):p:=h p rfl
theorem ag2 {t:ed} {D:gW} {σ:St} {H:aq} (R:St->aq->Prop) (h:∀ b3:gW,(∀ σ H,R σ H->b3.b7 σ H)->t b3 σ H) (gZ:∀ σ H,R σ H->D.b7 σ H):t D σ H:=h D gZ
theorem cZ {t u:ed} {D:gW} {σ:St} {H:aq} (R:St->aq->Prop) (h:∀ b3:gW,(∀ σ H,R σ H->b3.b7 σ H)->t b3 σ H) (gZ:∀ M,M=u D->∀ σ H,R σ H->M σ H):Jb t u D σ H:=h { D with b7:=u D } (gZ _ rfl)
theorem acn (v:V) (aw:∀ Q:cW,Q v H->bM σ H Q) (h:D.kK v H):xC bM D σ H:=aw _ h
theorem nS (x y:Str):(x ++ y).length=x.length + y.length:=by
 show (x.cps ++ y.cps).size=_;rw [Array.size_append];rfl
theorem dP.range {lo:Int} {n:Nat} {g:gi} {bI:ed} {D:gW} {σ:St} {H:aq} (Pv:Nat->St->aq->Prop) (h0:Pv 0 σ H)
  (ax:∀ i σ H,i < n->Pv i σ H->g (.int (lo + i)) σ H fun cC az=>bI { D with b7:=Pv (i + 1),eI:=Pv (i + 1),cE:=D.b7 } cC az) (hd:∀ σ H,Pv n σ H->D.b7 σ H):dP (mq lo n) g bI D σ H:=UF Pv h0 ax hd
theorem dP.list {K:ba} (Pv:Nat->St->aq->Prop) (h0:Pv 0 σ H) (aM:∀ i σ H,i <= xs.length->Pv i σ H->aD K H a xs)
  (ax:∀ i x σ H,xs[i]? = some x->Pv i σ H->g x σ H fun cC az=>bI { D with b7:=Pv (i + 1),eI:=Pv (i + 1),cE:=D.b7 } cC az) (hd:∀ σ H,Pv xs.length σ H->D.b7 σ H):dP (mT K a) g bI D σ H:=acr Pv h0 aM ax hd
theorem dP.a6 (Pv:Nat->St->aq->Prop) (h0:Pv 0 σ H)
  (ax:∀ i x σ H,xs[i]? = some x->Pv i σ H->g x σ H fun cC az=>bI { D with b7:=Pv (i + 1),eI:=Pv (i + 1),cE:=D.b7 } cC az) (hd:∀ σ H,Pv xs.length σ H->D.b7 σ H):dP (od xs) g bI D σ H:=US Pv h0 ax hd
theorem da.list {K:ba} (Pv:Nat->List V->aq->Prop) (aQ:xs.length <= sizeLine) (h0:Pv 0 [] H) (aM:∀ i ys H,i <= xs.length->Pv i ys H->aD K H a xs/\ys.length <= i)
  (ax:∀ i x ys H,xs[i]? = some x->Pv i ys H->oA Pv g c0 bM du i x ys H) (hd:∀ ys H,Pv xs.length ys H->∀ p,H p=none->Q (.ref p) (upd H p (.lst ys))):da (mT K a) g c0 bM du Q H:=U0 Pv aQ h0 aM ax hd
theorem da.a6 (Pv:Nat->List V->aq->Prop) (aQ:xs.length <= sizeLine) (h0:Pv 0 [] H) (aM:∀ i ys H,i <= xs.length->Pv i ys H->ys.length <= i)
  (ax:∀ i x ys H,xs[i]? = some x->Pv i ys H->oA Pv g c0 bM du i x ys H) (hd:∀ ys H,Pv xs.length ys H->∀ p,H p=none->Q (.ref p) (upd H p (.lst ys))):da (od xs) g c0 bM du Q H:=UL Pv aQ h0 aM ax hd
theorem da.range {lo:Int} {n:Nat} {g:gi} {c0:TT} {bM:TE} {du:St} {Q:cW} {H:aq} (Pv:Nat->List V->aq->Prop) (aQ:n <= sizeLine) (h0:Pv 0 [] H) (aM:∀ i ys H,i <= n->Pv i ys H->ys.length <= i)
  (ax:∀ i ys H,i < n->Pv i ys H->oA Pv g c0 bM du i (.int (lo + i)) ys H) (hd:∀ ys H,Pv n ys H->∀ p,H p=none->Q (.ref p) (upd H p (.lst ys))):da (mq lo n) g c0 bM du Q H:=ad2 Pv aQ h0 aM ax hd
theorem U9 {α β:Type} {xs:List α} {i:Nat} {x:α} (f:α->β) (h:xs[i]? = some x):(xs.take (i + 1)).map f=(xs.take i).map f ++ [f x]:=by
 rw [ov,h,fz];rfl
theorem da.aaL {xs:List V} {g:gi} {bM:TE} {du:St} {Q:cW} {H:aq} (f:V->V) (aQ:xs.length <= sizeLine) (ax:∀ (i:Nat) (x:V) (N:V->aq->Prop),xs[i]? = some x->N (f x) H->g x du H fun cC az=>Sub du cC/\bM cC az N)
  (hd:∀ p,H p=none->Q (.ref p) (upd H p (.lst (xs.map f)))):da (od xs) g oW bM du Q H:=by
 refine da.a6 (fun i ys I=>I=H/\ys=(xs.take i).map f) aQ ⟨rfl,rfl⟩ (fun i ys I ah ⟨_,e⟩=>?_) (fun i x ys I ag ⟨au,aI⟩ N bu=>?_) (fun ys I ⟨au,aI⟩ p av=>?_)
 .rw [e,aU,hq];omega
 .subst au;exact ax i x (fun y cJ=>N (ys ++ [y]) cJ) ag (bu _ _ ⟨rfl,by rw [aI,U9 f ag]⟩)
 .subst au;rw [aI,iq];exact hd p av
theorem da.Xj {lo:Int} {n:Nat} {g:gi} {bM:TE} {du:St} {Q:cW} {H:aq} (f:Nat->V) (aQ:n <= sizeLine) (ax:∀ (i:Nat) (N:V->aq->Prop),i < n->N (f i) H->g (.int (lo + i)) du H fun cC az=>Sub du cC/\bM cC az N)
  (hd:∀ p,H p=none->Q (.ref p) (upd H p (.lst ((fL n).map f)))):da (mq lo n) g oW bM du Q H:=by
 refine da.range (fun i ys I=>I=H/\ys=(fL i).map f) aQ ⟨rfl,rfl⟩ (fun i ys I ah ⟨_,e⟩=>?_) (fun i ys I ah ⟨au,aI⟩ N bu=>?_) (fun ys I ⟨au,aI⟩ p av=>?_)
 .rw [e,aU,tr];exact bW _
 .subst au;exact ax i (fun y cJ=>N (ys ++ [y]) cJ) ah (bu _ _ ⟨rfl,by rw [aI,t_,fz];rfl⟩)
 .subst au;rw [aI];exact hd p av
theorem da.Ye {K:ba} (f:V->f6) (aM:aD K H a xs) (aQ:xs.length <= sizeLine) (aT:∀ x,oX (f x)=true)
  (ax:∀ (i:Nat) (x:V) (H1:aq) (N:V->aq->Prop),xs[i]? = some x->ac H H1->(aP H->aP H1)->(∀ q,H1 q=none->N (.ref q) (upd H1 q (f x)))->g x du H1 fun cC az=>Sub du cC/\bM cC az N)
  (hd:∀ (qs:List Addr) (H1:aq),ac H H1->(aP H->aP H1)->qs.length=xs.length->(∀ (j:Nat) (q:Addr) (x:V),qs[j]? = some q->xs[j]? = some x->H1 q=some (f x)/\H q=none)->∀ p,H1 p=none->Q (.ref p) (upd H1 p (.lst (qs.map V.ref)))):da (mT K a) g oW bM du Q H:=by
 refine da.list (fun i ys I=>∃ qs:List Addr,ys=qs.map V.ref/\qs.length=i/\ac H I/\(aP H->aP I)/\∀ (j:Nat) (q:Addr) (x:V),qs[j]? = some q->xs[j]? = some x->I q=some (f x)/\H q=none) aQ
  ⟨[],rfl,rfl,ac.refl H,id,fun j q x h _=>by simp at h⟩ ?_ ?_ ?_
 .rintro i ys I ah bh;refine QP fun cN aJ=>?_
  obtain ⟨qs,e,aI,bQ,_,_⟩:=bh;subst aJ;exact ⟨aM.same bQ,by rw [e,aU];omega⟩
 .rintro i x ys I ag ⟨qs,au,aI,bQ,bE,al⟩ N bu;refine ax i x I (fun y cJ=>N (ys ++ [y]) cJ) ag bQ bE fun q aN=>bu _ _ ⟨qs ++ [q],by rw [au,fz];rfl,by rw [c6,aI];rfl,bQ.fC (bQ.free aN),fun n=>(bE n).upd (aT x),fun j ef fO af ao=>?_⟩
  by_cases aO:j < qs.length
  .rw [gD aO] at af;obtain ⟨ff,eT⟩:=al j ef fO af ao;exact ⟨by rw [aF (dB ff aN)];exact ff,eT⟩
  .rw [i5 (by omega)] at af;have oG:j - qs.length=0:=by
    cases eM:j - qs.length with
    | zero=>rfl
    | succ n=>rw [eM] at af;simp at af
   rw [oG] at af;have bO:q=ef:=by simpa using af
   subst bO;have eD:j=i:=by omega
   subst eD;rw [ag] at ao;cases ao;exact ⟨db,bQ.free aN⟩
 .rintro ys I ⟨qs,au,aI,bQ,bE,al⟩ p av;subst au;exact hd qs I bQ bE aI al p av
theorem dP.of (Pv:Nat->St->aq->Prop) (h0:Pv 0 σ H) (tI:∀ i σ H,i < n->Pv i σ H->bS.go i H) (gP:∀ σ H,Pv n σ H->bS.stop n H)
  (ax:∀ i σ H x I,i < n->Pv i σ H->bS.n_ i H x I->g x σ I fun cC az=>bI { D with b7:=Pv (i + 1),eI:=Pv (i + 1),cE:=D.b7 } cC az) (hd:∀ σ H,Pv n σ H->D.b7 σ H):dP bS g bI D σ H:=by
 refine ⟨fun i m σ H=>m=n - i/\i <= n/\Pv i σ H,⟨n,by simp,fk _,h0⟩,?_⟩;rintro i m σ H ⟨rfl,ah,p⟩;by_cases dt:i < n
 .exact .inr ⟨tI i σ H dt p,Pv (i + 1),fun aA I jB=>⟨n - (i + 1),by omega,rfl,dt,jB⟩,fun x I y=>ax i σ H x I dt p y⟩
 .have e:i=n:=by omega
  subst e;exact .inl ⟨gP σ H p,hd σ H p⟩
theorem da.of (Pv:Nat->List V->aq->Prop) (aQ:n <= sizeLine) (h0:Pv 0 [] H) (tI:∀ i ys H,i < n->Pv i ys H->bS.go i H) (gP:∀ ys H,Pv n ys H->bS.stop n H) (aM:∀ i ys H,i < n->Pv i ys H->ys.length <= i)
  (ax:∀ i ys H x I,i < n->Pv i ys H->bS.n_ i H x I->oA Pv g c0 bM du i x ys I) (hd:∀ ys H,Pv n ys H->∀ p,H p=none->Q (.ref p) (upd H p (.lst ys))):da bS g c0 bM du Q H:=by
 refine ⟨fun i m ys H=>m=n - i/\i <= n/\Pv i ys H,⟨n,by simp,fk _,h0⟩,?_⟩;rintro i m ys H ⟨rfl,ah,p⟩;by_cases dt:i < n
 .have y':=aM i ys H dt p;refine .inr ⟨tI i ys H dt p,by omega,fun x I y=>?_⟩;exact ax i ys H x I dt p y (fun jz I=>∃ c3,c3 < n - i/\c3=n - (i + 1)/\i + 1 <= n/\Pv (i + 1) jz I) fun jz I r=>⟨n - (i + 1),by omega,rfl,dt,r⟩
 .have e:i=n:=by omega
  subst e;exact .inl ⟨gP ys H p,hd ys H p⟩
section
variable {K:ba} {a b:Addr} {xs ys:List V} {g:gi} {bI:ed} {D:gW} {σ du:St} {H:aq} {c0:TT} {bM:TE} {Q:cW}
theorem dP.enum (Pv:Nat->St->aq->Prop) (h0:Pv 0 σ H) (aM:∀ i σ H,i <= xs.length->Pv i σ H->aD K H a xs)
  (ax:∀ i x σ H p,xs[i]? = some x->Pv i σ H->H p=none->g (.ref p) σ (upd H p (.tup [.int i,x])) fun cC az=>bI { D with b7:=Pv (i + 1),eI:=Pv (i + 1),cE:=D.b7 } cC az) (hd:∀ σ H,Pv xs.length σ H->D.b7 σ H):dP (BR K a) g bI D σ H:=by
 refine dP.of (n:=xs.length) Pv h0 (fun i σ H ah p=>⟨xs,xs[i],aM i σ H (nu ah) p,by simp [ah]⟩) (fun σ H p=>⟨xs,aM _ σ H (bW _) p,bW _⟩) (fun i σ H v I ah p y=>?_) hd;obtain ⟨q,x,aN,rfl,ag,rfl⟩:=y;exact ax i x σ H q (ag xs (aM i σ H (nu ah) p)) p aN
theorem dP.zip (Pv:Nat->St->aq->Prop) (h0:Pv 0 σ H) (aM:∀ i σ H,i <= xs.length->Pv i σ H->aD K H a xs/\aD K H b ys) (n:Nat) (aT:n=min xs.length ys.length)
  (ax:∀ i x y σ H p,xs[i]? = some x->ys[i]? = some y->Pv i σ H->H p=none->g (.ref p) σ (upd H p (.tup [x,y])) fun cC az=>bI { D with b7:=Pv (i + 1),eI:=Pv (i + 1),cE:=D.b7 } cC az) (hd:∀ σ H,Pv n σ H->D.b7 σ H):dP (Wi K a b) g bI D σ H:=by
 subst aT;refine dP.of (n:=min xs.length ys.length) Pv h0 (fun i σ H ah p=>?_) (fun σ H p=>?_) (fun i σ H v I ah p y=>?_) hd
 .obtain ⟨ff,eT⟩:=aM i σ H (by omega) p;exact ⟨xs,ys,xs[i],ys[i],ff,eT,by rw [a' (by omega)],by rw [a' (by omega)]⟩
 .obtain ⟨ff,eT⟩:=aM _ σ H (by omega) p;exact ⟨xs,ys,ff,eT,by omega⟩
 .obtain ⟨q,x,y,aN,rfl,ag,a7,rfl⟩:=y;obtain ⟨ff,eT⟩:=aM i σ H (by omega) p;exact ax i x y σ H q (ag xs ff) (a7 ys eT) p aN
theorem da.enum (Pv:Nat->List V->aq->Prop) (aQ:xs.length <= sizeLine) (h0:Pv 0 [] H) (aM:∀ i ys H,i <= xs.length->Pv i ys H->aD K H a xs/\ys.length <= i)
  (ax:∀ i x ys H p,xs[i]? = some x->Pv i ys H->H p=none->oA Pv g c0 bM du i (.ref p) ys (upd H p (.tup [.int i,x]))) (hd:∀ ys H,Pv xs.length ys H->∀ p,H p=none->Q (.ref p) (upd H p (.lst ys))):da (BR K a) g c0 bM du Q H:=by
 refine da.of (n:=xs.length) Pv aQ h0 (fun i ys H ah p=>⟨xs,xs[i],(aM i ys H (nu ah) p).1,by simp [ah]⟩) (fun ys H p=>⟨xs,(aM _ ys H (bW _) p).1,bW _⟩) (fun i ys H ah p=>(aM i ys H (nu ah) p).2) (fun i zs H v I ah p y=>?_) hd;obtain ⟨q,x,aN,rfl,ag,rfl⟩:=y;exact ax i x zs H q (ag xs (aM i zs H (nu ah) p).1) p aN
theorem af8 {p:Addr} {x y:V} (h:cM K H p [x,y]) (q:R ((σ.set i (some x)).set j (some y)) H):sG K 2 (rz (gd i) (rz (gd j) vm)) (.ref p) σ H R:=
 ⟨p,_,rfl,h,rfl,x,_,rfl,y,_,rfl,rfl,q⟩
theorem Ao {p:Addr} {x y:V} (q:R ((σ.set i (some x)).set j (some y)) (upd H p (.tup [x,y]))):sG K 2 (rz (gd i) (rz (gd j) vm)) (.ref p) σ (upd H p (.tup [x,y])) R:=
 af8 (.inl (.inl db)) q
end
theorem Sub.WK {v w:Option V}:Sub (none :: none :: r) (v :: w :: r):=by
 refine ⟨rfl,fun i u h=>?_⟩
 match i with
 | 0=>cases h
 | 1=>cases h
 | i + 2=>exact h
theorem Sub.t4 {v w z:Option V}:Sub (none :: none :: none :: r) (v :: w :: z :: r):=by
 refine ⟨rfl,fun i u h=>?_⟩
 match i with
 | 0=>cases h
 | 1=>cases h
 | 2=>cases h
 | i + 3=>exact h
theorem da.lg {K:ba} (aM:aD K H a xs) (aQ:xs.length <= sizeLine) (he:zs.length=xs.length)
  (ax:∀ (i:Nat) (x z:V) (N:V->aq->Prop),xs[i]? = some x->zs[i]? = some z->N z H->g x du H fun cC az=>Sub du cC/\bM cC az N) (hd:∀ p,H p=none->Q (.ref p) (upd H p (.lst zs))):da (mT K a) g oW bM du Q H:=by
 refine da.list (fun i ys I=>I=H/\ys=zs.take i) aQ ⟨rfl,rfl⟩ (fun i ys I ah ⟨eX,e⟩=>?_) (fun i x ys I ag ⟨au,aI⟩ N bu=>?_) (fun ys I ⟨au,aI⟩ p av=>?_)
 .subst eX;exact ⟨aM,by rw [e,hq];omega⟩
 .subst au;have ah:i < zs.length:=by rw [he];exact (b6.mp ag).1
  have gr:zs[i]? = some zs[i]:=a' ah;exact ax i x zs[i] (fun y cJ=>N (ys ++ [y]) cJ) ag gr (bu _ _ ⟨rfl,by rw [aI,ov,gr];rfl⟩)
 .subst au;rw [aI,<- he,iq];exact hd p av
theorem da.Xp {K:ba} (aM:cM K H a xs) (aQ:xs.length <= sizeLine) (he:zs.length=xs.length)
  (ax:∀ (i:Nat) (x z:V) (N:V->aq->Prop),xs[i]? = some x->zs[i]? = some z->N z H->g x du H fun cC az=>Sub du cC/\bM cC az N) (hd:∀ p,H p=none->Q (.ref p) (upd H p (.lst zs))):da (Bh K a) g oW bM du Q H:=by
 refine Wd (xs:=xs) (fun i ys I=>I=H/\ys=zs.take i) aQ ⟨rfl,rfl⟩ (fun i ys I ah ⟨eX,e⟩=>?_) (fun i x ys I ag ⟨au,aI⟩ N bu=>?_) (fun ys I ⟨au,aI⟩ p av=>?_)
 .subst eX;exact ⟨aM,by rw [e,hq];omega⟩
 .subst au;have ah:i < zs.length:=by rw [he];exact (b6.mp ag).1
  have gr:zs[i]? = some zs[i]:=a' ah;exact ax i x zs[i] (fun y cJ=>N (ys ++ [y]) cJ) ag gr (bu _ _ ⟨rfl,by rw [aI,ov,gr];rfl⟩)
 .subst au;rw [aI,<- he,iq];exact hd p av
theorem da.u1 {K:ba} {a:Addr} {xs:List V} {ss:List (Option V)} {g:gi} {c0:TT} {bM:TE} {du:St} {Q:cW} {H:aq} (aM:aD K H a xs) (aQ:xs.length <= sizeLine) (he:ss.length=xs.length)
  (ax:∀ (i:Nat) (x:V) (o:Option V) (ys:List V) (N:List V->aq->Prop),xs[i]? = some x->ss[i]? = some o->N (ys ++ o.toList) H->g x du H fun cC az=>Sub du cC/\c0 cC az fun c bk=>if c=true then bM cC bk fun y cJ=>N (ys ++ [y]) cJ else N ys bk)
  (hd:∀ p,H p=none->Q (.ref p) (upd H p (.lst (ss.flatMap yM)))):da (mT K a) g c0 bM du Q H:=by
 refine da.list (fun i ys I=>I=H/\ys=(ss.take i).flatMap yM/\ys.length <= i) aQ ⟨rfl,rfl,bW _⟩ (fun i ys I ah ⟨eX,e,b5⟩=>?_) (fun i x ys I ag ⟨au,aI,bO⟩ N bu=>?_) (fun ys I ⟨au,aI,_⟩ p av=>?_)
 .subst eX;exact ⟨aM,b5⟩
 .subst au;have ah:i < ss.length:=by rw [he];exact (b6.mp ag).1
  have gr:ss[i]? = some ss[i]:=a' ah;refine ax i x ss[i] ys N ag gr (bu _ _ ⟨rfl,by rw [aI,ov,gr,yQ];simp,?_⟩);rw [c6];cases ss[i] <;> simp <;> omega
 .subst au;rw [aI,<- he,iq];exact hd p av
theorem agO (Pv:St->aq->Prop) (vX:St->aq->Nat) (h0:Pv σ H)
  (ax:∀ σ H,Pv σ H->∃ b:Bool,(∀ Q:Bool->aq->Prop,Q b H->c σ H Q)/\(b=true->bI { D with b7:=fun aA I=>Pv aA I/\vX aA I < vX σ H,eI:=fun aA I=>Pv aA I/\vX aA I < vX σ H,cE:=D.b7 } σ H)/\(b=false->D.b7 σ H)):Lo c bI D σ H:=by
 refine ⟨fun m σ H=>m=vX σ H/\Pv σ H,⟨_,rfl,h0⟩,?_⟩;rintro m σ H ⟨rfl,p⟩;obtain ⟨b,aw,af,ao⟩:=ax σ H p;refine aw _ ?_;cases b with
 | true=>exact ⟨_,fun aA I ⟨jB,l⟩=>⟨_,l,rfl,jB⟩,af rfl⟩
 | false=>exact ao rfl
theorem Sub.name:Sub (none :: r) (v :: r):=by
 refine ⟨rfl,fun i w h=>?_⟩;cases i with
 | zero=>cases h
 | succ i=>exact h
theorem b2 {x:Str} {e:Expr} (bu:X.N.Nodup) (he:br X e bM) (ah:X.N[i]? = some x:=by rfl) (ag:Loc X.env.scope x:=by exact oQ rfl) (ax:swapsWith e (some (.Name x pos')) pos.line X.env=pure false:=by rfl) (hf:X.fn x=true\/X.env.scope.names.lookup x=some .local:=by first | exact .inl rfl | exact .inr rfl | assumption):hI X (.Assign [.Name x pos'] e pos) (sm bM (gd i)):=pA bu ah ag he ax hf
theorem cz {x:Str} (bu:X.N.Nodup) (ah:X.N[i]? = some x:=by rfl) (ag:Loc X.env.scope x:=by exact oQ rfl) (hf:X.fn x=true\/X.env.scope.names.lookup x=some .local:=by first | exact .inl rfl | exact .inr rfl | assumption):l7 X (.Name x pos) (gd i):=EG bu ah ag hf
theorem bX (ak:u6 X r) (aX:br X a a9) (ae:br X b bI) (ax:P8 b:=by exact fun _ _=>rfl):br X (.Subscript a b pos) (q2 r a9 bI):=aeP ak aX ae ax
theorem cf {k:Nat} {fd:FuncData} {x:Str} {p pos:Pos} {e:Expr} {t:fG} (F:cH X.prog X.w X.K X.mg X.base dz k f fd ps sp) (ak:ee k X.A) (hm:X.mg x=some (.ref f)) (aB:qS X.K (.ref f)=true) (ae:b1 X.K fd ps []) (aX:jM X (e :: a4) t) (bg:lX X x:=by rfl) (mu:(x == ("__debug__" : Str))=false:=by decide) (he:starEach (e :: a4) X.env=(false,eval e X.env) :: starEach a4 X.env:=by rfl) (cY:(backTo pos (starEach a4 X.env)).any (·.1)=false:=by rfl):br X (.Call (.Name x p) (e :: a4) [] pos) (vG sp [] CB t):=adK F ak bg hm aB ae .nil cO aX mu he cY
end L2
local macro_rules | `(tactic| nofun)=>`(tactic| ((try dsimp only [L2.p3,L2.ahC,L2.a8.k9,L2.a8.h7,L2.a8.block,L2.a8.pw,L2.a8.aT,L2.yF,L2.qO,L2.xQ,L2.Ht,L2.HC,L2.Ia,L2.FA,L2.D_,L2.GV,L2.ES,L2.il,L2.dN,L2.Jl,L2.xC,L2.SL,L2.Ee,L2.gd,L2.vm,L2.rz,L2.sG,L2.EQ,L2.sm,L2.HP,L2.C',L2.q2,L2.C2,L2.wy,L2.oa,L2.Bc,L2.DX,L2.G0,L2.FH,L2.LH,L2.JD,L2.Pf,L2.ww,L2.Cm,L2.v3,L2.Ep,L2.E1,L2.HK,L2.vG,L2.Lz,L2.LS,L2.y4,L2.G1,L2.EF,L2.Fd,L2.O1,L2.Im,L2.DG,L2.GW,L2.F9,L2.F8,L2.Bf,L2.G',L2.GG,L2.IC,L2.Fu,L2.Ft,L2.Et,L2.IT,L2.CU,L2.XL,L2.Mq,L2.oW,L2.FU,L2.B0,L2.Dr,L2.HR,L2.JY,L2.I',L2.IS,L2.CQ,L2.og,L2.EN,L2.GQ,L2.IJ,L2.BW,L2.HO,L2.Qn,L2.FV,L2.PV,L2.SS,L2.PI,L2.Ln,L2.JW,L2.Ly,L2.Pb,L2.Qo,L2.LP,L2.QU,L2.start,L2.R0,L2.Xy,L2.ahS,L2.af3,L2.adi,L2.aeB,L2.agV,L2.V7,L2.Yj,L2.ad7,L2.afX,L2.abA,L2.afn,L2.YK,L2.WL,Xl,abr,JZ]);(try simp only [L2.yF,L2.qO,L2.xQ,L2.Ht,L2.HC,L2.Ia,L2.FA,L2.D_,L2.GV,L2.ES,L2.il,L2.dN,L2.Jl,L2.xC,L2.SL,L2.Ee,L2.gd,L2.vm,L2.rz,L2.sG,L2.EQ,L2.sm,L2.HP,L2.C',L2.q2,L2.C2,L2.wy,L2.oa,L2.Bc,L2.DX,L2.G0,L2.FH,L2.LH,L2.JD,L2.Pf,L2.ww,L2.Cm,L2.v3,L2.Ep,L2.E1,L2.HK,L2.vG,L2.Lz,L2.LS,L2.y4,L2.G1,L2.EF,L2.Fd,L2.O1,L2.Im,L2.DG,L2.GW,L2.F9,L2.F8,L2.Bf,L2.G',L2.GG,L2.IC,L2.Fu,L2.Ft,L2.Et,L2.IT,L2.CU,L2.XL,L2.Mq,L2.oW,L2.FU,L2.B0,L2.Dr,L2.HR,L2.JY,L2.I',L2.IS,L2.CQ,L2.og,L2.EN,L2.GQ,L2.IJ,L2.BW,L2.HO,L2.Qn,L2.FV,L2.PV,L2.SS,L2.PI,L2.Ln,L2.JW,L2.Ly,L2.Pb,L2.Qo,L2.LP,L2.QU,L2.YI,L2.Zb,L2.TM,L2.Tv,L2.ahE,L2.start,L2.R0,eV,qh,Option.bind_none,uN,Option.join_some,Option.join_none,hQ,tX,Xl,abr,Y4,JZ,Bj,uI,z3,jX,jI,List.getElem?_cons_zero,A_,Option.some.injEq,L2.V.int.injEq,L2.V.bl.injEq,L2.V.str.injEq,L2.V.ref.injEq,L2.V.ty.injEq,exists_eq_left',exists_eq_left,exists_and_left,List.cons.injEq,and_true,true_and,and_assoc,oj,reduceCtorEq,false_and,exists_false,and_false,ite_true,ite_false,if_true,if_false,FF,L2.Fh,L2.Ju,false_or,or_false,aeV,Bool.not_false,decide_true,decide_false])))
local macro_rules | `(tactic| walk_at "B")=>`(tactic| first | rfl | (dsimp only [L2.a8.block];done) | (dsimp only [L2.a8.block];exact rfl))
local macro_rules | `(tactic| walk_at "F")=>`(tactic| exact ⟨rfl,rfl,rfl,by ac_nf,rfl,by ac_nf,by ac_nf⟩)
namespace L2
open PySem
theorem cG {P:Program} {w:World} {K:ba} {mg:Str->Option Value} {base:Heap} {C:jx} {m n:Nat} {f a:Addr} {fd b:FuncData} {ps q:List Str} {sp S:bN} (h:cH P w K mg base C m f fd ps sp) (g:cH P w K mg base C n f fd ps sp->cH P w K mg base C (n+1) a b q S) (hm:m<=n:=by decide):cH P w K mg base C (n+1) a b q S:=g (h.mono hm)
end L2
set_option hygiene false
local macro_rules | `(tactic| walk_at "O")=>`(tactic| (intro vs H Q E h;repeat (first | (obtain ⟨rfl,_⟩:=h;rfl) | (obtain ⟨_,h⟩:=h))))
set_option hygiene true
set_option hygiene false
local macro_rules | `(tactic| ac_rfl)=>`(tactic| refine QP fun cN aJ=>?_)
local macro_rules | `(tactic| exists $e,0)=>`(tactic| refine CH $e (fun b3 bJ=>?_) fun cN aJ=>?_)
local macro_rules | `(tactic| exists $e,2)=>`(tactic| refine CH $e (fun b3 bV=>?_) fun cN aJ=>?_)
local macro_rules | `(tactic| exists $e,9)=>`(tactic| refine ($e) (by walk_at "O") (fun _ _ _ s H vs Q E ak h=>?_))
set_option hygiene true
namespace My
open PySem L2
local macro_rules|`(~~~$x)=>`(some (L2.V.ref $x))
abbrev jf:List Str:=["self","name"]
abbrev iu:List Str:=["least","most","members"]
abbrev j7:List Str:=["crossing","rows"]
abbrev j8:List Str:=["self","name","start","end","off","near","least"]
abbrev pB:List Str:=["_law_way"]
abbrev pI:List Str:=["self","own_asked"]
abbrev p4:List Str:=["crossing","one","other"]
abbrev z_:List Str:=["_law_script","_law_k","_law_many"]
abbrev vH:List Str:=["word","signs","most"]
abbrev xD:List Str:=["self","good"]
abbrev D8:List Str:=["self","choices"]
abbrev IZ:List Str:=["self","low","high"]
abbrev y1:List Str:=["self","kind","name","start","end","off","near","least"]
abbrev zi:List Str:=["crossing","name"]
abbrev BP:List Str:=["stages","one","other"]
abbrev ye:List Str:=["places","way","second"]
abbrev z4:List Str:=["word","most_figures"]
abbrev vM:List Str:=["crossing","text"]
abbrev w9:List Str:=["reader","places","start"]
abbrev z9:List Str:=["sort","name","start","end","off","near","least"]
abbrev BA:List Str:=["_law_one","_law_other","_law_places"]
abbrev vg:List Str:=["self","row","told"]
abbrev vB:List Str:=["self","crossing","rows","one","other"]
abbrev vi:List Str:=["self","stages"]
abbrev yU:List Str:=["self","number"]
abbrev Ai:List Str:=["places","way","place"]
abbrev En:List Str:=["word","low","high"]
abbrev zL:List Str:=["crossing","first","second","turns","one"]
abbrev GJ:List Str:=["crossing","first","second"]
abbrev CG:List Str:=["reader","crossing","left"]
abbrev w6:List Str:=["reader","crossing","rows"]
abbrev E':List Str:=["reader","ways"]
abbrev xI:List Str:=["reader","places","ways"]
abbrev BX:List Str:=["_law_script","_law_many"]
abbrev BD:List Str:=["_law_script","_law_most"]
abbrev zg:List Str:=["_law_places","_law_ways_here"]
abbrev B5:List Str:=["_law_ways_here","_law_one","_law_other"]
abbrev yZ:List Str:=["_law_script","_law_places","_law_ways_here"]
abbrev zA:List Str:=["_law_ways_here","_law_stages_here"]
abbrev yg:List Str:=["_law_script","_law_turn","_law_ways_here"]
abbrev GN:List Str:=["_law_shades"]
abbrev yl:List Str:=["_law_way","_law_shades"]
abbrev y_:List Str:=["_law_rows","_law_one","_law_other"]
abbrev Ap:List Str:=["self","crossing","rows"]
abbrev BL:List Str:=["self","asks"]
abbrev xK:List Str:=["self","places","ways"]
abbrev yG:List Str:=["name","crossing"]
abbrev BE:List Str:=["least","most","members","crossing"]
abbrev zm:List Str:=["name","self"]
abbrev A4:List Str:=["_law_i","_law_ways_here"]
abbrev EM:List Str:=["crossing","rows","told"]
abbrev Di:List Str:=["reader","crossing","left","first","members","alike"]
abbrev Dp:List Str:=["self","waited","same","others","choices","last","many"]
noncomputable def top (i:Nat):Stmt:=PySem.Challenge.pw_lampway_k37_whole_safe_and_in_order.main.body.getD i (.Pass ⟨0,0,0,0⟩)
noncomputable abbrev L8:Stmt:=top 9
theorem QN:cq ["places","way","place","steps"] Ai (bz L8):=(by walk_at "F")
noncomputable abbrev ir:Stmt:=top 10
theorem V':cq ye ye (bz ir):=(by walk_at "F")
noncomputable abbrev Q8:Stmt:=top 11
theorem EK:cq ["crossing","one","other","way","second"] p4 (bz Q8):=(by walk_at "F")
noncomputable abbrev RN:Stmt:=top 12
theorem JF:cq ["crossing","one","other","way","second"] p4 (bz RN):=(by walk_at "F")
noncomputable abbrev IV:Stmt:=top 18
theorem ad0:cq ["text"] ["text"] (bz IV):=(by walk_at "F")
noncomputable abbrev CW:Stmt:=top 19
theorem ahN:cq vH vH (bz CW):=(by walk_at "F")
noncomputable abbrev RP:Stmt:=top 20
theorem YT:cq z4 z4 (bz RP):=(by walk_at "F")
noncomputable abbrev OL:Stmt:=top 21
theorem NV:cq ["word","low","high","number"] En (bz OL):=(by walk_at "F")
noncomputable abbrev Q3:Stmt:=top 22
theorem YE:cq ["word"] ["word"] (bz Q3):=(by walk_at "F")
noncomputable abbrev Gh:Stmt:=top 25
theorem afU:cq ["text"] ["text"] (bz Gh):=(by walk_at "F")
noncomputable abbrev Q4:Stmt:=top 30
theorem agS:cq zi zi (bz Q4):=(by walk_at "F")
noncomputable abbrev MU:Stmt:=top 31
theorem ua:cq ["members","homes","number","names","name"] ["members"] (bz MU):=(by walk_at "F")
noncomputable abbrev wJ:Stmt:=top 32
theorem Pi:cq zL GJ (bz wJ):=(by walk_at "F")
noncomputable abbrev zk:Stmt:=top 33
theorem Qv:cq EM j7 (bz zk):=(by walk_at "F")
noncomputable abbrev yS:Stmt:=top 34
theorem x5:cq Di CG (bz yS):=(by walk_at "F")
noncomputable abbrev LA:Stmt:=top 35
theorem I5:cq ["reader","crossing","rows","least","most"] w6 (bz LA):=(by walk_at "F")
noncomputable abbrev R4:Stmt:=top 36
theorem Se:cq ["crossing","rows","left"] j7 (bz R4):=(by walk_at "F")
noncomputable abbrev Fo:Stmt:=top 37
theorem x4:cq ["crossing","rows","homes","name","number"] j7 (bz Fo):=(by walk_at "F")
noncomputable abbrev PX:Stmt:=top 38
theorem w2:cq ["crossing","rows","number","row","one","other"] j7 (bz PX):=(by walk_at "F")
noncomputable abbrev N0:Stmt:=top 39
theorem FC:cq ["crossing","text","rows","reader"] vM (bz N0):=(by walk_at "F")
noncomputable abbrev Sg:Stmt:=top 40
theorem abz:cq BP BP (bz Sg):=(by walk_at "F")
noncomputable abbrev K3:Stmt:=top 56
theorem Lv:cq ["reader","places"] ["reader"] (bz K3):=(by walk_at "F")
noncomputable abbrev E6:Stmt:=top 57
theorem J3:cq ["reader","ways","name"] E' (bz E6):=(by walk_at "F")
noncomputable abbrev Om:Stmt:=top 58
theorem ag5:cq w9 w9 (bz Om):=(by walk_at "F")
noncomputable abbrev Sd:Stmt:=top 59
theorem aaz:cq z9 z9 (bz Sd):=(by walk_at "F")
noncomputable abbrev LO:Stmt:=top 60
theorem p9:cq ["reader","places","ways","sort","name","start","end","off","near","least"] xI (bz LO):=(by walk_at "F")
noncomputable abbrev O0:Stmt:=top 61
theorem uq:cq ["text","rows","places","ways","reader"] ["text"] (bz O0):=(by walk_at "F")
noncomputable abbrev KQ:Stmt:=top 63
theorem sd:cq ["_law_script","_law_k","_law_many","_law_cell","_law_seed"] z_ (bz KQ):=(by walk_at "F")
noncomputable abbrev Es:Stmt:=top 64
theorem pd:cq ["_law_script","_law_many","_law_letters","_law_base","_law_way","_law_at","_law_names_here","_law_k","_law_sign"] BX (bz Es):=(by walk_at "F")
noncomputable abbrev JV:Stmt:=top 65
theorem lY:cq ["_law_script","_law_most","_law_places","_law_names_here","_law_ways_here","_law_k","_law_start","_law_end","_law_sort","_law_off","_law_near"] BD (bz JV):=(by walk_at "F")
noncomputable abbrev EY:Stmt:=top 66
theorem D6:cq ["_law_places","_law_ways_here","_law_rows","_law_way"] zg (bz EY):=(by walk_at "F")
noncomputable abbrev Mr:Stmt:=top 67
theorem zS:cq ["_law_one","_law_other","_law_places","_law_length","_law_start","_law_end"] BA (bz Mr):=(by walk_at "F")
noncomputable abbrev RZ:Stmt:=top 68
theorem Lu:cq ["_law_ways_here","_law_one","_law_other","_law_tram"] B5 (bz RZ):=(by walk_at "F")
noncomputable abbrev DS:Stmt:=top 69
theorem kr:cq ["_law_script","_law_places","_law_ways_here","_law_some","_law_k","_law_fits","_law_j","_law_good","_law_i","_law_stages_here","_law_low","_law_more"] yZ (bz DS):=(by walk_at "F")
noncomputable abbrev Hd:Stmt:=top 70
theorem u9:cq ["_law_ways_here","_law_stages_here","_law_rows","_law_low","_law_high","_law_some"] zA (bz Hd):=(by walk_at "F")
noncomputable abbrev Qd:Stmt:=top 71
theorem zB:cq ["_law_script","_law_turn","_law_ways_here","_law_rate","_law_asks_here","_law_k"] yg (bz Qd):=(by walk_at "F")
noncomputable abbrev Oz:Stmt:=top 72
theorem aaI:cq pB pB (bz Oz):=(by walk_at "F")
noncomputable abbrev P9:Stmt:=top 73
theorem abC:cq pB pB (bz P9):=(by walk_at "F")
noncomputable abbrev LK:Stmt:=top 74
theorem DW:cq ["_law_shades","_law_found","_law_shade"] GN (bz LK):=(by walk_at "F")
noncomputable abbrev Sm:Stmt:=top 75
theorem mG:cq ["_law_way","_law_shades","_law_ready_here","_law_fade_here","_law_found","_law_begins","_law_ends","_law_behind","_law_k","_law_shade","_law_turns","_law_inner"] yl (bz Sm):=(by walk_at "F")
noncomputable abbrev N':Stmt:=top 76
theorem uy:cq ["_law_rows","_law_one","_law_other","_law_last","_law_need","_law_turn"] y_ (bz N'):=(by walk_at "F")
noncomputable abbrev F6:Stmt:=top 77
theorem jp:cq ["_law_script","_law_places","_law_ways_here","_law_stages_here","_law_keeper","_law_rows","_law_turn","_law_one","_law_other"] ["_law_script"] (bz F6):=(by walk_at "F")
noncomputable abbrev R5:Stmt:=eW (top 24) 0
theorem W9:cq vg vg (bz R5):=(by walk_at "F")
noncomputable abbrev Kv:Stmt:=eW (top 24) 1
theorem adx:cq ["self"] ["self"] (bz Kv):=(by walk_at "F")
noncomputable abbrev Mn:Stmt:=eW (top 24) 2
theorem adk:cq ["self"] ["self"] (bz Mn):=(by walk_at "F")
noncomputable abbrev MR:Stmt:=eW (top 24) 4
theorem Vn:cq xD xD (bz MR):=(by walk_at "F")
noncomputable abbrev Kq:Stmt:=eW (top 24) 5
theorem RL:cq ["self","choices","found"] D8 (bz Kq):=(by walk_at "F")
noncomputable abbrev Km:Stmt:=eW (top 24) 6
theorem bi:cq ["self","low","high","found"] IZ (bz Km):=(by walk_at "F")
noncomputable abbrev MF:Stmt:=eW (top 24) 7
theorem W':cq ["self"] ["self"] (bz MF):=(by walk_at "F")
noncomputable abbrev sg:Stmt:=eW (top 29) 0
theorem FO:cq vB Ap (bz sg):=(by walk_at "F")
noncomputable abbrev Mc:Stmt:=eW (top 42) 0
theorem Wa:cq vi vi (bz Mc):=(by walk_at "F")
noncomputable abbrev afa:Stmt:=eW (top 42) 1
noncomputable abbrev OR:Stmt:=eW (top 42) 3
theorem C_:cq ["self","colours","name"] ["self"] (bz OR):=(by walk_at "F")
noncomputable abbrev Sk:Stmt:=eW (top 42) 4
theorem agh:cq jf jf (bz Sk):=(by walk_at "F")
noncomputable abbrev Rh:Stmt:=eW (top 42) 5
theorem Re:cq ["self","name","way","home"] jf (bz Rh):=(by walk_at "F")
noncomputable abbrev K5:Stmt:=eW (top 42) 6
theorem so:cq ["self","asks","name","colours","own_asked"] BL (bz K5):=(by walk_at "F")
noncomputable abbrev JT:Stmt:=eW (top 42) 7
theorem adu:cq pI pI (bz JT):=(by walk_at "F")
noncomputable abbrev Ll:Stmt:=eW (top 42) 8
theorem V8:cq pI pI (bz Ll):=(by walk_at "F")
noncomputable abbrev CL:Stmt:=eW (top 42) 9
theorem afu:cq ["self"] ["self"] (bz CL):=(by walk_at "F")
noncomputable abbrev sy:Stmt:=eW (top 42) 10
theorem qT:cq Dp ["self"] (bz sy):=(by walk_at "F")
noncomputable abbrev PC:Stmt:=eW (top 42) 11
theorem aae:cq yU yU (bz PC):=(by walk_at "F")
noncomputable abbrev ii:Stmt:=eW (top 42) 12
theorem M4:cq jf ["self"] (bz ii):=(by walk_at "F")
noncomputable abbrev MW:Stmt:=eW (top 44) 0
theorem WW:cq y1 y1 (bz MW):=(by walk_at "F")
noncomputable abbrev Kp:Stmt:=eW (top 45) 0
theorem aaa:cq j8 j8 (bz Kp):=(by walk_at "F")
noncomputable abbrev Of:Stmt:=eW (top 45) 1
theorem agm:cq ["self"] ["self"] (bz Of):=(by walk_at "F")
noncomputable abbrev MV:Stmt:=eW (top 45) 2
theorem ZL:cq ["self"] ["self"] (bz MV):=(by walk_at "F")
noncomputable abbrev L9:Stmt:=eW (top 46) 0
theorem Go:cq j8 j8 (bz L9):=(by walk_at "F")
noncomputable abbrev P_:Stmt:=eW (top 46) 1
theorem XA:cq ["self"] ["self"] (bz P_):=(by walk_at "F")
noncomputable abbrev JQ:Stmt:=eW (top 46) 2
theorem ut:cq ["self"] ["self"] (bz JQ):=(by walk_at "F")
noncomputable abbrev O7:Stmt:=eW (top 47) 0
theorem af0:cq j8 j8 (bz O7):=(by walk_at "F")
noncomputable abbrev Q_:Stmt:=eW (top 47) 1
theorem aib:cq ["self"] ["self"] (bz Q_):=(by walk_at "F")
noncomputable abbrev PN:Stmt:=eW (top 47) 2
theorem afi:cq ["self"] ["self"] (bz PN):=(by walk_at "F")
noncomputable abbrev K6:Stmt:=eW (top 55) 0
theorem IY:cq ["self","places","ways","number","way"] xK (bz K6):=(by walk_at "F")
noncomputable abbrev E0:Stmt:=eW (top 55) 1
theorem aid:cq ["self"] ["self"] (bz E0):=(by walk_at "F")
noncomputable abbrev Qt:Stmt:=eW (top 55) 2
theorem Wp:cq jf jf (bz Qt):=(by walk_at "F")
noncomputable abbrev L':Stmt:=eW (top 55) 3
theorem aex:cq jf jf (bz L'):=(by walk_at "F")
set_option genInjectivity false in
set_option genInjectivity false in
structure bR where
 {Ps IQ yb By yn Fi Hk Ez D0 vQ im DZ IU HX JB yv y3 ya BG u4 Jj xr Ij Hj IH Bo BO y0 BZ xh Ah y5 Dj A9 yR zf I8 FD CJ xy xe II wR xF ld zI w5 yD zR vt vL Jc BK yW yd vR xT x6 AD xo zd y8 Bq wV Ax zK vF Au AU wj AA AK w4 uD z6 we gS e5 c_ kI iC iA ad ho qV:Addr}
 {Os Ge Bt Af Bm Ch Ha Op HJ uX C8 Gp Eo Fs CF zE AI yT z7 uf FJ xO B4 bn zn zp x2 AV HE Bd Cl AX GS yu xS AO FZ DU Ic yw AB xd zt DC CO Df JG HF El xZ Bp aek FI Hn D5 zF HV F3 Ed z5 GF EE Gx z2 E9 F1 xR Cn Eb xq DK IX Bu AR FY zZ:FuncData}
 {RM Lf RJ Kj QC J1 O2 RO LW Sa Rt Sj:Value}
structure Txt (w:World) (K:ba) (mg:Str->Option Value) (t:bR):Prop where
 J4:mg "in_bow"=some (.ref t.Ps)
 yI:b' K "in_bow" "in_bow" L8 t.Ps t.Os
 ahI:mg "bows_cross"=some (.ref t.IQ)
 Gg:b' K "bows_cross" "bows_cross" ir t.IQ t.Ge
 NS:mg "meet"=some (.ref t.yb)
 yx:b' K "meet" "meet" Q8 t.yb t.Bt
 aif:mg "gap"=some (.ref t.By)
 Jy:b' K "gap" "gap" RN t.By t.Af
 aem:mg "words"=some (.ref t.yn)
 H':b' K "words" "words" IV t.yn t.Bm
 Rc:mg "is_made_of"=some (.ref t.Fi)
 xc:b' K "is_made_of" "is_made_of" CW t.Fi t.Ch
 abN:mg "is_number"=some (.ref t.Hk)
 Jf:b' K "is_number" "is_number" RP t.Hk t.Ha
 af9:mg "figured"=some (.ref t.Ez)
 B_:b' K "figured" "figured" OL t.Ez t.Op
 Vd:mg "is_name"=some (.ref t.D0)
 HY:b' K "is_name" "is_name" Q3 t.D0 t.HJ
 Po:mg "readers"=some (.ref t.vQ)
 Bl:b' K "readers" "readers" Gh t.vQ t.uX
 Eh:mg "sort_of"=some (.ref t.im)
 vn:b' K "sort_of" "sort_of" Q4 t.im t.C8
 CR:mg "homes_in"=some (.ref t.DZ)
 vo:b' K "homes_in" "homes_in" MU t.DZ t.Gp
 afg:mg "change_turns"=some (.ref t.IU)
 HZ:b' K "change_turns" "change_turns" wJ t.IU t.Eo
 RS:mg "names_left"=some (.ref t.HX)
 zo:b' K "names_left" "names_left" zk t.HX t.Fs
 ab5:mg "read_members"=some (.ref t.JB)
 EJ:b' K "read_members" "read_members" yS t.JB t.CF
 ait:mg "read_stage"=some (.ref t.yv)
 FL:b' K "read_stage" "read_stage" LA t.yv t.zE
 afB:mg "refuse_never"=some (.ref t.y3)
 DH:b' K "refuse_never" "refuse_never" R4 t.y3 t.AI
 Xo:mg "refuse_short"=some (.ref t.ya)
 CV:b' K "refuse_short" "refuse_short" Fo t.ya t.yT
 agW:mg "refuse_clash"=some (.ref t.BG)
 Gm:b' K "refuse_clash" "refuse_clash" PX t.BG t.z7
 Ix:mg "read_stages"=some (.ref t.u4)
 ul:b' K "read_stages" "read_stages" N0 t.u4 t.uf
 M7:mg "change"=some (.ref t.Jj)
 xi:b' K "change" "change" Sg t.Jj t.FJ
 WS:mg "read_ring"=some (.ref t.xr)
 JC:b' K "read_ring" "read_ring" K3 t.xr t.xO
 aaw:mg "read_new_name"=some (.ref t.Ij)
 Dx:b' K "read_new_name" "read_new_name" E6 t.Ij t.B4
 aaf:mg "read_end"=some (.ref t.Hj)
 I0:b' K "read_end" "read_end" Om t.Hj t.bn
 ac3:mg "made_way"=some (.ref t.IH)
 D9:b' K "made_way" "made_way" Sd t.IH t.zn
 adg:mg "read_way"=some (.ref t.Bo)
 Fw:b' K "read_way" "read_way" LO t.Bo t.zp
 agX:mg "read_crossing"=some (.ref t.BO)
 C1:b' K "read_crossing" "read_crossing" O0 t.BO t.x2
 fA:mg "_law_draw"=some (.ref t.y0)
 fc:b' K "_law_draw" "_law_draw" KQ t.y0 t.AV
 aas:mg "_law_names"=some (.ref t.BZ)
 Hs:b' K "_law_names" "_law_names" Es t.BZ t.HE
 T1:mg "_law_ways"=some (.ref t.xh)
 EX:b' K "_law_ways" "_law_ways" JV t.xh t.Bd
 KB:mg "_law_text"=some (.ref t.Ah)
 EH:b' K "_law_text" "_law_text" EY t.Ah t.Cl
 R9:mg "_law_meet"=some (.ref t.y5)
 BN:b' K "_law_meet" "_law_meet" Mr t.y5 t.AX
 aeX:mg "_law_alike"=some (.ref t.Dj)
 Ds:b' K "_law_alike" "_law_alike" RZ t.Dj t.GS
 W7:mg "_law_stages"=some (.ref t.A9)
 Iw:b' K "_law_stages" "_law_stages" DS t.A9 t.yu
 T2:mg "_law_stages_text"=some (.ref t.yR)
 Cu:b' K "_law_stages_text" "_law_stages_text" Hd t.yR t.xS
 ahA:mg "_law_asks"=some (.ref t.zf)
 CE:b' K "_law_asks" "_law_asks" Qd t.zf t.AO
 Z8:mg "_law_ready"=some (.ref t.I8)
 IE:b' K "_law_ready" "_law_ready" Oz t.I8 t.FZ
 ada:mg "_law_fade"=some (.ref t.FD)
 Ck:b' K "_law_fade" "_law_fade" P9 t.FD t.DU
 ls:mg "_law_stretches"=some (.ref t.CJ)
 Cj:b' K "_law_stretches" "_law_stretches" LK t.CJ t.Ic
 ae4:mg "_law_in_order"=some (.ref t.xy)
 C9:b' K "_law_in_order" "_law_in_order" Sm t.xy t.yw
 adH:mg "_law_safe"=some (.ref t.xe)
 G3:b' K "_law_safe" "_law_safe" N' t.xe t.AB
 Xb:mg "law"=some (.ref t.II)
 aec:b' K "law" "law" F6 t.II t.xd
 ahw:mg "RowReader"=some (.ref t.gS)
 ajc:dq K (.ref t.gS) "__init__"=some (some (.ref t.wR))
 Tl:b' K "__init__" "RowReader.__init__" R5 t.wR t.zt
 akI:dq K (.ref t.gS) "ahead"=some (some (.ref t.xF))
 N7:b' K "ahead" "RowReader.ahead" Kv t.xF t.DC
 ajV:dq K (.ref t.gS) "has_more"=some (some (.ref t.ld))
 Rg:b' K "has_more" "RowReader.has_more" Mn t.ld t.CO
 ajk:dq K (.ref t.gS) "take"=some (some (.ref t.zI))
 Pw:b' K "take" "RowReader.take" MR t.zI t.Df
 aiT:dq K (.ref t.gS) "one_of"=some (some (.ref t.w5))
 Lj:b' K "one_of" "RowReader.one_of" Kq t.w5 t.JG
 ajr:dq K (.ref t.gS) "figures"=some (some (.ref t.yD))
 MM:b' K "figures" "RowReader.figures" Km t.yD t.HF
 akf:dq K (.ref t.gS) "finish"=some (some (.ref t.zR))
 KU:b' K "finish" "RowReader.finish" MF t.zR t.El
 abw:mg "Stages"=some (.ref t.e5)
 ajA:dq K (.ref t.e5) "__init__"=some (some (.ref t.vt))
 MN:b' K "__init__" "Stages.__init__" sg t.vt t.xZ
 afx:mg "Keeper"=some (.ref t.c_)
 aiR:dq K (.ref t.c_) "__init__"=some (some (.ref t.vL))
 N9:b' K "__init__" "Keeper.__init__" Mc t.vL t.Bp
 ai9:dq K (.ref t.c_) "stage"=some (some (.ref t.Jc))
 aky:b' K "stage" "Keeper.stage" afa t.Jc t.aek
 ajT:dq K (.ref t.c_) "shown"=some (some (.ref t.BK))
 Pm:b' K "shown" "Keeper.shown" OR t.BK t.FI
 alo:dq K (.ref t.c_) "stage_colour"=some (some (.ref t.yW))
 NP:b' K "stage_colour" "Keeper.stage_colour" Sk t.yW t.Hn
 ajR:dq K (.ref t.c_) "change_colour"=some (some (.ref t.yd))
 Mk:b' K "change_colour" "Keeper.change_colour" Rh t.yd t.D5
 ajb:dq K (.ref t.c_) "pass_turn"=some (some (.ref t.vR))
 NJ:b' K "pass_turn" "Keeper.pass_turn" K5 t.vR t.zF
 ajF:dq K (.ref t.c_) "settle"=some (some (.ref t.xT))
 Mh:b' K "settle" "Keeper.settle" JT t.xT t.HV
 ak5:dq K (.ref t.c_) "stays"=some (some (.ref t.x6))
 Qu:b' K "stays" "Keeper.stays" Ll t.x6 t.F3
 alu:dq K (.ref t.c_) "tram_waits"=some (some (.ref t.AD))
 KP:b' K "tram_waits" "Keeper.tram_waits" CL t.AD t.Ed
 akk:dq K (.ref t.c_) "pick"=some (some (.ref t.xo))
 LQ:b' K "pick" "Keeper.pick" sy t.xo t.z5
 aiW:dq K (.ref t.c_) "leave_for"=some (some (.ref t.zd))
 QL:b' K "leave_for" "Keeper.leave_for" PC t.zd t.GF
 akO:dq K (.ref t.c_) "show_sought"=some (some (.ref t.y8))
 PD:b' K "show_sought" "Keeper.show_sought" ii t.y8 t.EE
 GI:mg "Way"=some (.ref t.kI)
 ale:dq K (.ref t.kI) "__init__"=some (some (.ref t.Bq))
 R7:b' K "__init__" "Way.__init__" MW t.Bq t.Gx
 agc:mg "CarWay"=some (.ref t.iC)
 akV:dq K (.ref t.iC) "__init__"=some (some (.ref t.wV))
 R3:b' K "__init__" "CarWay.__init__" Kp t.wV t.z2
 aln:dq K (.ref t.iC) "ready"=some (some (.ref t.Ax))
 Nb:b' K "ready" "CarWay.ready" Of t.Ax t.E9
 ak0:dq K (.ref t.iC) "fade"=some (some (.ref t.zK))
 JL:b' K "fade" "CarWay.fade" MV t.zK t.F1
 aeC:mg "FootWay"=some (.ref t.iA)
 aj5:dq K (.ref t.iA) "__init__"=some (some (.ref t.vF))
 On:b' K "__init__" "FootWay.__init__" L9 t.vF t.xR
 alp:dq K (.ref t.iA) "ready"=some (some (.ref t.Au))
 Pj:b' K "ready" "FootWay.ready" P_ t.Au t.Cn
 akg:dq K (.ref t.iA) "fade"=some (some (.ref t.AU))
 Rv:b' K "fade" "FootWay.fade" JQ t.AU t.Eb
 WF:mg "TramWay"=some (.ref t.ad)
 aiL:dq K (.ref t.ad) "__init__"=some (some (.ref t.wj))
 J2:b' K "__init__" "TramWay.__init__" O7 t.wj t.xq
 aj3:dq K (.ref t.ad) "ready"=some (some (.ref t.AA))
 Kg:b' K "ready" "TramWay.ready" Q_ t.AA t.DK
 akJ:dq K (.ref t.ad) "fade"=some (some (.ref t.AK))
 PW:b' K "fade" "TramWay.fade" PN t.AK t.IX
 Zo:mg "Crossing"=some (.ref t.ho)
 alq:dq K (.ref t.ho) "__init__"=some (some (.ref t.w4))
 Nf:b' K "__init__" "Crossing.__init__" K6 t.w4 t.Bu
 ajD:dq K (.ref t.ho) "names"=some (some (.ref t.uD))
 NO:b' K "names" "Crossing.names" E0 t.uD t.AR
 akU:dq K (.ref t.ho) "number"=some (some (.ref t.z6))
 QQ:b' K "number" "Crossing.number" Qt t.z6 t.FY
 ai7:dq K (.ref t.ho) "called"=some (some (.ref t.we))
 OM:b' K "called" "Crossing.called" L' t.we t.zZ
 fF:g8 K t.gS
 ZQ:oL K t.gS t.wR
 xm:fx K t.gS "ahead" t.xF
 Ow:fx K t.gS "has_more" t.ld
 Fy:fx K t.gS "take" t.zI
 vE:fx K t.gS "one_of" t.w5
 p7:fx K t.gS "figures" t.yD
 Sp:fx K t.gS "finish" t.zR
 af1:cX K t.gS "row"
 Fk:cX K t.gS "told"
 Cw:cX K t.gS "place"
 jn:g8 K t.e5
 aaY:oL K t.e5 t.vt
 Ou:cX K t.e5 "crossing"
 OS:cX K t.e5 "many"
 LX:cX K t.e5 "leasts"
 lm:cX K t.e5 "mosts"
 F':cX K t.e5 "members"
 SI:cX K t.e5 "sorts"
 N3:cX K t.e5 "homes"
 QR:cX K t.e5 "changes"
 eU:g8 K t.c_
 abB:oL K t.c_ t.vL
 ajH:fx K t.c_ "stage" t.Jc
 Ys:fx K t.c_ "shown" t.BK
 Zk:fx K t.c_ "stage_colour" t.yW
 am:fx K t.c_ "change_colour" t.yd
 Tr:fx K t.c_ "pass_turn" t.vR
 aeI:fx K t.c_ "settle" t.xT
 ae6:fx K t.c_ "stays" t.x6
 aeM:fx K t.c_ "tram_waits" t.AD
 acx:fx K t.c_ "pick" t.xo
 SY:fx K t.c_ "leave_for" t.zd
 Ny:fx K t.c_ "show_sought" t.y8
 Kf:cX K t.c_ "stages"
 y7:cX K t.c_ "showing"
 zM:cX K t.c_ "lasted"
 CP:cX K t.c_ "left"
 Jq:cX K t.c_ "sought"
 AG:cX K t.c_ "gone"
 So:cX K t.c_ "waiting"
 P2:cX K t.c_ "picked"
 ajv:g8 K t.kI
 aiK:cX K t.kI "kind"
 ajy:cX K t.kI "name"
 ai0:cX K t.kI "start"
 ajI:cX K t.kI "end"
 aj2:cX K t.kI "off"
 ajm:cX K t.kI "near"
 ak6:cX K t.kI "least"
 DP:g8 K t.iC
 Yx:oL K t.iC t.wV
 Zc:fx K t.iC "ready" t.Ax
 Th:fx K t.iC "fade" t.zK
 bv:cX K t.iC "kind"
 UW:cX K t.iC "name"
 ZR:cX K t.iC "start"
 agD:cX K t.iC "end"
 aeZ:cX K t.iC "off"
 afp:cX K t.iC "near"
 Ul:cX K t.iC "least"
 Jt:g8 K t.iA
 ahJ:oL K t.iA t.vF
 Xt:fx K t.iA "ready" t.Au
 wv:fx K t.iA "fade" t.AU
 afF:cX K t.iA "kind"
 ae7:cX K t.iA "name"
 afc:cX K t.iA "start"
 ahG:cX K t.iA "end"
 V9:cX K t.iA "off"
 acp:cX K t.iA "near"
 Ut:cX K t.iA "least"
 DY:g8 K t.ad
 agI:oL K t.ad t.wj
 Vs:fx K t.ad "ready" t.AA
 afD:fx K t.ad "fade" t.AK
 abP:cX K t.ad "kind"
 Xu:cX K t.ad "name"
 ahV:cX K t.ad "start"
 aaF:cX K t.ad "end"
 ahy:cX K t.ad "off"
 acB:cX K t.ad "near"
 aeD:cX K t.ad "least"
 hU:g8 K t.ho
 TD:oL K t.ho t.w4
 yN:fx K t.ho "names" t.uD
 Wg:fx K t.ho "number" t.z6
 nK:fx K t.ho "called" t.we
 Oi:cX K t.ho "places"
 OC:cX K t.ho "ways"
 JS:cX K t.ho "numbers"
 aiZ:t.kI ≠ t.iC
 ajg:t.kI ≠ t.iA
 ak':t.kI ≠ t.ad
 Rz:t.iC ≠ t.iA
 Od:t.iC ≠ t.ad
 PA:t.iA ≠ t.ad
 D4:PQ K t.kI "__init__" t.Bq
 acv:mg "FIGURES"=some t.RM
 afE:bH (.str (aa "0123456789")) t.RM
 YA:mg "LEAST_PLACES"=some t.Lf
 WI:bH (.int 2) t.Lf
 ab_:mg "LETTERS"=some t.RJ
 aa5:bH (.str (aa "abcdefghijklmnopqrstuvwxyz")) t.RJ
 ad_:mg "MOST_FIGURES"=some t.Kj
 lv:bH (.int 3) t.Kj
 Uz:mg "MOST_LEAST"=some t.QC
 S2:bH (.int 60) t.QC
 V6:mg "MOST_LETTERS"=some t.J1
 adB:bH (.int 8) t.J1
 ahZ:mg "MOST_NEAR"=some t.O2
 aiy:bH (.int 30) t.O2
 NE:mg "MOST_OFF"=some t.RO
 abQ:bH (.int 30) t.RO
 aax:mg "MOST_PLACES"=some t.LW
 aat:bH (.int 99) t.LW
 Yy:mg "MOST_STAGES"=some t.Sa
 aaK:bH (.int 6) t.Sa
 Sl:mg "MOST_TURNS"=some t.Rt
 N5:bH (.int 60) t.Rt
 acP:mg "MOST_WAYS"=some t.Sj
 Zv:bH (.int 12) t.Sj
 Yu:mg "all"=none
 agR:mg "any"=none
 za:mg "enumerate"=none
 v':mg "int"=none
 gU:mg "len"=none
 Bi:mg "max"=none
 VG:mg "min"=none
 lJ:mg "range"=none
 uS:mg "str"=none
 XQ:t.z5.code=.ref t.qV
 X_:∀ (s:Shared) (u:Value),BindsTo s t.xd ⟨[u],[]⟩ [("_law_script",u)]
section
variable {w:World} {K:ba} {mg:Str->Option Value} {t:bR} (T:Txt w K mg t)
include T
theorem Txt.Pa:b1 K t.Os Ai []:=T.yI.binds fun _ _ _ _ _ _=>hB fun _ _ _=>rfl
theorem Txt.Ua:b1 K t.Ge ye []:=T.Gg.binds fun _ _ _ _ _ _=>hB fun _ _ _=>rfl
theorem Txt.P4:b1 K t.Bt p4 []:=T.yx.binds fun _ _ _ _ _ _=>hB fun _ _ _=>rfl
theorem Txt.Wo:b1 K t.Af p4 []:=T.Jy.binds fun _ _ _ _ _ _=>hB fun _ _ _=>rfl
theorem Txt.aa9:b1 K t.Bm ["text"] []:=T.H'.binds fun _ _ _ _ _ _=>hk fun _=>rfl
theorem Txt.MP:b1 K t.Ch vH []:=T.xc.binds fun _ _ _ _ _ _=>hB fun _ _ _=>rfl
theorem Txt.aes:b1 K t.Ha z4 []:=T.Jf.binds fun _ _ _ _ _ _=>g6 fun _ _=>rfl
theorem Txt.ah6:b1 K t.Op En []:=T.B_.binds fun _ _ _ _ _ _=>hB fun _ _ _=>rfl
theorem Txt.afe:b1 K t.HJ ["word"] []:=T.HY.binds fun _ _ _ _ _ _=>hk fun _=>rfl
theorem Txt.Nc:b1 K t.uX ["text"] []:=T.Bl.binds fun _ _ _ _ _ _=>hk fun _=>rfl
theorem Txt.EO:b1 K t.C8 zi []:=T.vn.binds fun _ _ _ _ _ _=>g6 fun _ _=>rfl
theorem Txt.cr:b1 K t.Gp ["members"] []:=T.vo.binds fun _ _ _ _ _ _=>hk fun _=>rfl
theorem Txt.ahs:b1 K t.Eo GJ []:=T.HZ.binds fun _ _ _ _ _ _=>hB fun _ _ _=>rfl
theorem Txt.QW:b1 K t.Fs j7 []:=T.zo.binds fun _ _ _ _ _ _=>g6 fun _ _=>rfl
theorem Txt.ZY:b1 K t.CF CG []:=T.EJ.binds fun _ _ _ _ _ _=>hB fun _ _ _=>rfl
theorem Txt.aed:b1 K t.zE w6 []:=T.FL.binds fun _ _ _ _ _ _=>hB fun _ _ _=>rfl
theorem Txt.UD:b1 K t.AI j7 []:=T.DH.binds fun _ _ _ _ _ _=>g6 fun _ _=>rfl
theorem Txt.Uk:b1 K t.yT j7 []:=T.CV.binds fun _ _ _ _ _ _=>g6 fun _ _=>rfl
theorem Txt.Xw:b1 K t.z7 j7 []:=T.Gm.binds fun _ _ _ _ _ _=>g6 fun _ _=>rfl
theorem Txt.Ur:b1 K t.uf vM []:=T.ul.binds fun _ _ _ _ _ _=>g6 fun _ _=>rfl
theorem Txt.KL:b1 K t.FJ BP []:=T.xi.binds fun _ _ _ _ _ _=>hB fun _ _ _=>rfl
theorem Txt.FB:b1 K t.xO ["reader"] []:=T.JC.binds fun _ _ _ _ _ _=>hk fun _=>rfl
theorem Txt.acg:b1 K t.B4 E' []:=T.Dx.binds fun _ _ _ _ _ _=>g6 fun _ _=>rfl
theorem Txt.S':b1 K t.bn w9 []:=T.I0.binds fun _ _ _ _ _ _=>hB fun _ _ _=>rfl
theorem Txt.ahk:b1 K t.zn z9 []:=T.D9.binds fun _ _ _ _ _ _=>xX fun _ _ _ _ _ _ _=>rfl
theorem Txt.agg:b1 K t.zp xI []:=T.Fw.binds fun _ _ _ _ _ _=>hB fun _ _ _=>rfl
theorem Txt.Wb:b1 K t.x2 ["text"] []:=T.C1.binds fun _ _ _ _ _ _=>hk fun _=>rfl
theorem Txt.fw:b1 K t.AV z_ []:=T.fc.binds fun _ _ _ _ _ _=>hB fun _ _ _=>rfl
theorem Txt.acq:b1 K t.HE BX []:=T.Hs.binds fun _ _ _ _ _ _=>g6 fun _ _=>rfl
theorem Txt.Xz:b1 K t.Bd BD []:=T.EX.binds fun _ _ _ _ _ _=>g6 fun _ _=>rfl
theorem Txt.WB:b1 K t.Cl zg []:=T.EH.binds fun _ _ _ _ _ _=>g6 fun _ _=>rfl
theorem Txt.Pk:b1 K t.AX BA []:=T.BN.binds fun _ _ _ _ _ _=>hB fun _ _ _=>rfl
theorem Txt.abl:b1 K t.GS B5 []:=T.Ds.binds fun _ _ _ _ _ _=>hB fun _ _ _=>rfl
theorem Txt.adq:b1 K t.yu yZ []:=T.Iw.binds fun _ _ _ _ _ _=>hB fun _ _ _=>rfl
theorem Txt.ZF:b1 K t.xS zA []:=T.Cu.binds fun _ _ _ _ _ _=>g6 fun _ _=>rfl
theorem Txt.Yc:b1 K t.AO yg []:=T.CE.binds fun _ _ _ _ _ _=>hB fun _ _ _=>rfl
theorem Txt.Yo:b1 K t.FZ pB []:=T.IE.binds fun _ _ _ _ _ _=>hk fun _=>rfl
theorem Txt.Td:b1 K t.DU pB []:=T.Ck.binds fun _ _ _ _ _ _=>hk fun _=>rfl
theorem Txt.U':b1 K t.Ic GN []:=T.Cj.binds fun _ _ _ _ _ _=>hk fun _=>rfl
theorem Txt.Zd:b1 K t.yw yl []:=T.C9.binds fun _ _ _ _ _ _=>g6 fun _ _=>rfl
theorem Txt.Z3:b1 K t.AB y_ []:=T.G3.binds fun _ _ _ _ _ _=>hB fun _ _ _=>rfl
theorem Txt.aaM:b1 K t.zt vg []:=T.Tl.binds fun _ _ _ _ _ _=>hB fun _ _ _=>rfl
theorem Txt.xP:b1 K t.DC ["self"] []:=T.N7.binds fun _ _ _ _ _ _=>hk fun _=>rfl
theorem Txt.RU:b1 K t.CO ["self"] []:=T.Rg.binds fun _ _ _ _ _ _=>hk fun _=>rfl
theorem Txt.FE:b1 K t.Df xD []:=T.Pw.binds fun _ _ _ _ _ _=>g6 fun _ _=>rfl
theorem Txt.wU:b1 K t.JG D8 []:=T.Lj.binds fun _ _ _ _ _ _=>g6 fun _ _=>rfl
theorem Txt.pL:b1 K t.HF IZ []:=T.MM.binds fun _ _ _ _ _ _=>hB fun _ _ _=>rfl
theorem Txt.OY:b1 K t.El ["self"] []:=T.KU.binds fun _ _ _ _ _ _=>hk fun _=>rfl
theorem Txt.aah:b1 K t.xZ Ap []:=T.MN.binds fun _ _ _ _ _ _=>hB fun _ _ _=>rfl
theorem Txt.abK:b1 K t.Bp vi []:=T.N9.binds fun _ _ _ _ _ _=>g6 fun _ _=>rfl
theorem Txt.aix:b1 K t.FI ["self"] []:=T.Pm.binds fun _ _ _ _ _ _=>hk fun _=>rfl
theorem Txt.WV:b1 K t.Hn jf []:=T.NP.binds fun _ _ _ _ _ _=>g6 fun _ _=>rfl
theorem Txt.S7:b1 K t.D5 jf []:=T.Mk.binds fun _ _ _ _ _ _=>g6 fun _ _=>rfl
theorem Txt.aht:b1 K t.zF BL []:=T.NJ.binds fun _ _ _ _ _ _=>g6 fun _ _=>rfl
theorem Txt.afb:b1 K t.HV pI []:=T.Mh.binds fun _ _ _ _ _ _=>g6 fun _ _=>rfl
theorem Txt.abk:b1 K t.F3 pI []:=T.Qu.binds fun _ _ _ _ _ _=>g6 fun _ _=>rfl
theorem Txt.YC:b1 K t.Ed ["self"] []:=T.KP.binds fun _ _ _ _ _ _=>hk fun _=>rfl
theorem Txt.ac0:b1 K t.z5 ["self"] []:=T.LQ.binds fun _ _ _ _ _ _=>hk fun _=>rfl
theorem Txt.ZD:b1 K t.GF yU []:=T.QL.binds fun _ _ _ _ _ _=>g6 fun _ _=>rfl
theorem Txt.MO:b1 K t.EE ["self"] []:=T.PD.binds fun _ _ _ _ _ _=>hk fun _=>rfl
theorem Txt.G8:b1 K t.Gx y1 []:=T.R7.binds fun _ _ _ _ _ _=>agJ fun _ _ _ _ _ _ _ _=>rfl
theorem Txt.aeN:b1 K t.z2 j8 []:=T.R3.binds fun _ _ _ _ _ _=>xX fun _ _ _ _ _ _ _=>rfl
theorem Txt.ahz:b1 K t.E9 ["self"] []:=T.Nb.binds fun _ _ _ _ _ _=>hk fun _=>rfl
theorem Txt.U8:b1 K t.F1 ["self"] []:=T.JL.binds fun _ _ _ _ _ _=>hk fun _=>rfl
theorem Txt.aev:b1 K t.xR j8 []:=T.On.binds fun _ _ _ _ _ _=>xX fun _ _ _ _ _ _ _=>rfl
theorem Txt.Tq:b1 K t.Cn ["self"] []:=T.Pj.binds fun _ _ _ _ _ _=>hk fun _=>rfl
theorem Txt.ac6:b1 K t.Eb ["self"] []:=T.Rv.binds fun _ _ _ _ _ _=>hk fun _=>rfl
theorem Txt.ahm:b1 K t.xq j8 []:=T.J2.binds fun _ _ _ _ _ _=>xX fun _ _ _ _ _ _ _=>rfl
theorem Txt.af2:b1 K t.DK ["self"] []:=T.Kg.binds fun _ _ _ _ _ _=>hk fun _=>rfl
theorem Txt.ac4:b1 K t.IX ["self"] []:=T.PW.binds fun _ _ _ _ _ _=>hk fun _=>rfl
theorem Txt.aeY:b1 K t.Bu xK []:=T.Nf.binds fun _ _ _ _ _ _=>hB fun _ _ _=>rfl
theorem Txt.A2:b1 K t.AR ["self"] []:=T.NO.binds fun _ _ _ _ _ _=>hk fun _=>rfl
theorem Txt.XP:b1 K t.FY jf []:=T.QQ.binds fun _ _ _ _ _ _=>g6 fun _ _=>rfl
theorem Txt.nR:b1 K t.zZ jf []:=T.OM.binds fun _ _ _ _ _ _=>g6 fun _ _=>rfl
end
noncomputable def di (ns:List Int) (k m:Int):Int:=
 ((((if 0 < (ns.length:Int) then ns.getD (k % (ns.length:Int)).toNat 0 else 0) % 1000003 + 31 * k * k + 1) * 48271 % 999983 * 7919) % 524287) % m
theorem ce (ns:List Int) (k:Int) (h:0 < m):0 <= di ns k m:=BQ _ (by omega)
theorem hx (ns:List Int) (k:Int) (h:0 < m):di ns k m < m:=w7 _ h
def iI (K:ba) (a:Addr) (ns:List Int):bN:=fun vs H Q _=>∃ k m,vs=[.ref a,.int k,.int m]/\Sc K a ns H/\(0 <= k/\k < 1000000)/\0 < m/\Q (.int (di ns k m)) H
variable {P:Program} {w:World} {K:ba} {mg:Str->Option Value} {base:Heap} {t:bR}
abbrev cv (P:Program) (base:Heap) {w:World} {K:ba} {mg:Str->Option Value} {t:bR} (_:Txt w K mg t):=cH P w K mg base dz
variable (T:Txt w K mg t)
theorem GU (a:Addr) (ns:List Int) (hv:ns.length <= 63):cv P base T 1 t.y0 t.AV z_ (iI K a ns):=by
 exists T.fc.ok sd,9
 obtain ⟨k,m,rfl,S,⟨h0,af⟩,hm,q⟩:=h;refine ⟨_,(aR (b2 (i:=3) sd.aG (tE (cP kz (fq g0 rfl T.gU gK (ai (U 0) aE)) aL (cm _)) (bX dE (U 0) (bD i9 (U 1) (fq g0 rfl T.gU gK (ai (U 0) aE)))) aL))
   (aR (b2 (i:=4) sd.aG (bD d2 (bD d2 (bD i9 (U 3) aL) (bD jq (bD jq aL (U 1)) (U 1))) aL))
   (a5 (cj (bD i9 (bD i9 (bD jq (bD i9 (bD jq (U 4) aL) aL) aL) aL) (U 2)))))),?_⟩
 nofun;refine ⟨_,.inl S.seq,?_⟩;rw [aU];have V1:(0:Int) <= k * k/\k * k < 1000000 * 1000000:=⟨aia h0 h0,XX (by omega) af h0 (by decide)⟩;have fin:∀ i:Int,(0:Int) < 1000003/\mS 31 k/\mS (31 * k) k/\mS (i % 1000003 + 31 * k * k + 1) 48271/\(0:Int) < 999983/\mS ((i % 1000003 + 31 * k * k + 1) * 48271 % 999983) 7919/\(0:Int) < 524287/\0 < m:=by
  intro i;refine ⟨by decide,.inl (by decide),.inr (by omega),.inr (by decide),by decide,.inr (by decide),by decide,hm⟩
 by_cases c:(0:Int) < (ns.length:Int)
 .rw [if_pos (decide_eq_true c)];have aB:0 <= k % (ns.length:Int)/\k % (ns.length:Int) < (ns.length:Int):=⟨BQ _ (by omega),w7 _ c⟩;refine ⟨_,.inl S.seq,by rw [aU];exact c,_,S.seq,?_⟩;rw [aU];have aO:(k % (ns.length:Int)).toNat < ns.length:=by omega
  refine ⟨.int ns[(k % (ns.length:Int)).toNat],?_,_,rfl,?_⟩
  .have e:=cg (xs:=ns.map V.int) (j:=(k % (ns.length:Int)).toNat) (v:=.int ns[(k % (ns.length:Int)).toNat]) (by rw [dm,a' aO] <;> rfl);rwa [pv aB.1] at e
  .obtain ⟨f1,f2,dY,f4,ea,mm,ll,f8⟩:=fin ns[(k % (ns.length:Int)).toNat];refine ⟨f1,f2,dY,f4,ea,mm,ll,f8,?_⟩;have e:di ns k m=(((ns[(k % (ns.length:Int)).toNat] % 1000003 + 31 * k * k + 1) * 48271 % 999983 * 7919) % 524287) % m:=by
    unfold di;rw [if_pos c,iV,a' aO];rfl
   rw [<- e];exact q
 .rw [if_neg (by simpa using c)];obtain ⟨f1,f2,dY,f4,ea,mm,ll,f8⟩:=fin 0;refine ⟨f1,f2,dY,f4,ea,mm,ll,f8,?_⟩;have e:di ns k m=(((0 % 1000003 + 31 * k * k + 1) * 48271 % 999983 * 7919) % 524287) % m:=by
   unfold di;rw [if_neg c]
  rw [<- e];exact q
theorem BI {w:Str}:w=aa "" ↔ w.length=0:=by
 constructor
 .rintro rfl;ac_nf
 .intro h;have e:w.cps=#[]:=Array.eq_empty_of_size_eq_zero h;have aI:(aa "").cps=#[]:=by ac_nf
  cases w;cases ao:aa "";rw [ao] at aI;simp only at e aI;rw [e,aI]
noncomputable def sM (bf:Str) (c:Nat):Bool:=!(rJ bf (iY c) 0 bf.length 1).isEmpty
theorem I_ (bf:Str) (c:Nat):sM bf c=decide (c ∈ bf.cps.toList):=StrLaws.found_one bf c
noncomputable def made (w bf:Str) (m:Int):Bool:=if w=aa "" then false else if m < (w.length:Int) then false else w.cps.toList.all (sM bf)
def EW:bN:=fun vs H Q _=>∃ w bf m,vs=[.str w,.str bf,.int m]/\w.length <= 1000/\aP H/\Q (.bl (made w bf m)) H
def X0:bN:=fun vs H Q _=>∃ w bf m,vs=[.str w,.str bf,.int m]/\w.length <= 1000/\∀ I,ac H I->Q (.bl (made w bf m)) I
theorem Pq:cv P base T 1 t.Fi t.Ch vH EW:=by
 refine cH.forget (sp:=X0) ?_ fun vs H Q E h=>?_
 .exists T.xc.ok ahN,9
  obtain ⟨w,bf,m,rfl,aQ,q⟩:=h;have gr:w.length <= sizeLine:=c4 aQ (by decide);refine ⟨_,(aR (dI (fj.pt (p8 (cP eo (U 0) cD (cm _)) (rS (cP kz (fq aa8 rfl T.gU gK (ai (U 0) aE)) (U 2) (cm _))))) (a5 (cj iJ)) eh)
   (a5 (cj (fq (aeU rfl) rfl T.Yu Vm (ai (hE rfl (afV (U 0)) (gQ (sc:=bz CW) rfl (by ac_nf)) (N:=["sign","signs"]) (sel:=[none,some 1]) (gF (M:=vH) (by ac_nf)) (fy.of (fun _ _ _ _=>(cz (i:=0) (er (N:=["sign","signs"]) (by ac_nf) rfl))) (fun _ _ _ _=>⟨_,h4,by walk_at "B"⟩) (fun _ _ _ _=>⟨_,(hj afo (U 0) (U 1) (by with_unfolding_all rfl)),by walk_at "B"⟩))) aE))))),?_⟩
  nofun;refine dy (decide (w=aa "") || decide (m < (w.length:Int))) (fun Q aV=>?_) (fun ae=>?_) (fun ae=>?_)
  .nofun;by_cases c:w=aa ""
   .rw [if_pos (decide_eq_true c)];rw [decide_eq_true c,q7] at aV;exact aV
   .rw [if_neg (by simpa using c)];rw [decide_eq_false c,kX] at aV;exact ⟨gr,aV⟩
  .nofun;have e:made w bf m=false:=by
    unfold made;simp only [v5,decide_eq_true_eq] at ae;by_cases c:w=aa ""
    .rw [if_pos c]
    .rw [if_neg c,if_pos (ae.resolve_left c)]
   have:=q H (ac.refl H);rw [e] at this;exact this
  .nofun;have e:made w bf m=w.cps.toList.all (sM bf):=by
    unfold made;simp only [sT,decide_eq_false_iff_not] at ae;rw [if_neg ae.1,if_neg ae.2]
   refine da.aaL (fun x=>match x with | .str y=>.bl (!(rJ bf y 0 bf.length 1).isEmpty) | _=>.bU) (by rw [Nw];exact gr) (fun i x N ag bu=>?_) (fun p av=>?_)
   .unfold Tm at ag;rw [dm] at ag;cases aw:w.cps.toList[i]? with
    | none=>rw [aw] at ag;cases ag
    | some c=>
     rw [aw] at ag;have ey:V.str (iY c)=x:=dh ag;subst ey;nofun;exact ⟨Sub.name,bu⟩
   .refine ⟨p,rfl,w.cps.toList.map (sM bf),aD.of ?_,?_⟩
    .rw [db];unfold Tm;rw [pO,pO];rfl
    .have:=q (upd H p (.lst (rQ (fun x=>match x with | .str y=>.bl (!(rJ bf y 0 bf.length 1).isEmpty) | _=>.bU) (Tm w)))) (bp av);rw [e] at this;rw [adR];exact this
 .obtain ⟨w,bf,m,e,aQ,bE,q⟩:=h;exact ⟨bE,w,bf,m,e,aQ,fun I bQ=>⟨bQ,q⟩⟩
noncomputable abbrev qB:Str:=aa "0123456789"
noncomputable def lL (c:Nat):Bool:=decide (48 <= c/\c <= 57)
theorem adD:qB.cps.toList=[48,49,50,51,52,53,54,55,56,57]:=by ac_nf
theorem Wn (c:Nat):sM qB c=lL c:=by
 rw [I_,adD];unfold lL;rw [kD];simp only [decide_eq_true_eq,fh,o9,or_false];omega
noncomputable abbrev cs (w:Str):List Nat:=w.cps.toList
theorem Cf (w:Str):(cs w).length=w.length:=by simp [cs,sO]
noncomputable def jU (w:Str):Bool:=decide (1 <= (cs w).length) && decide ((cs w).length <= 3) && (cs w).all lL && (decide ((cs w).length <= 1) || decide ((cs w).headD 0 ≠ 48))
noncomputable abbrev val (w:Str):Int:=((RB (cs w):Nat):Int)
noncomputable def iy (w:Str) (lo ah:Int):V:=if jU w && !(decide (val w < lo) || decide (ah < val w)) then .int (val w) else .bU
theorem Mw {w:Str}:w=⟨#[c]⟩↔cs w=[c]:=by
 constructor
 .rintro rfl;rfl
 .intro h;cases w with
  | mk a=>
   have e:a=#[c]:=Nx.mp h;rw [e]
theorem Hg:aa "0"=⟨#[48]⟩:=by ac_nf
theorem O6 (w:Str):made w qB 3=(decide (1 <= (cs w).length) && decide ((cs w).length <= 3) && (cs w).all lL):=by
 unfold made;have e:(sM qB)=lL:=funext Wn;rw [e];by_cases af:w=aa ""
 .have ao:=BI.mp af;rw [if_pos af,Cf,ao];rfl
 .have ao:¬ w.length=0:=fun z=>af (BI.mpr z)
  rw [if_neg af,Cf];by_cases a_:(3:Int) < (w.length:Int)
  .rw [if_pos a_,decide_eq_false (show ¬ w.length <= 3 by omega),ZI,k2]
  .rw [if_neg a_,decide_eq_true (show 1 <= w.length by omega),decide_eq_true (show w.length <= 3 by omega)];rfl
theorem agr (h:l.all lL=true):NumText.AllDigits l:=fun c aw=>by
 have:=m7.mp h c aw;simpa [lL] using this
theorem Tc {w:Str} (h:jU w=true):(1 <= (cs w).length/\(cs w).length <= 3)/\(cs w).all lL=true:=by
 unfold jU at h;simp only [hy,decide_eq_true_eq] at h;exact h.1
def JK:bN:=fun vs H Q _=>∃ w,vs=[.str w,.int 3]/\w.length <= 1000/\aP H/\Q (.bl (jU w)) H
def W6:bN:=fun vs H Q _=>∃ w lo ah,vs=[.str w,.int lo,.int ah]/\w.length <= 1000/\aP H/\Q (iy w lo ah) H
theorem YU:cv P base T 2 t.Hk t.Ha z4 JK:=by
 refine cG (Pq T) fun Jk=>?_;exists T.Jf.ok YT,9
 obtain ⟨w,rfl,aQ,bE,q⟩:=h;have gr:w.length <= sizeLine:=c4 aQ (by decide);refine ⟨_,(aR (dI (rv (ki (cf Jk ak T.Rc T.xc.bK T.MP (ai (U 0) (ai (lz rfl T.acv T.afE) (ai (U 1) aE)))))) (a5 (cj iJ)) eh)
   (a5 (cj (K4 (hj eo (U 0) cD (cm _)) (tZ (hj sS (bX Ei (U 0) aL) cD (cm _))))))),?_⟩
 refine dy (!made w qB 3) (fun Q aV=>?_) (fun ae=>?_) (fun ae=>?_)
 ·(nofun; repeat (dsimp only [EW];nofun));exact ⟨aQ,bE,aV⟩
 .nofun;have e:jU w=false:=by
   have g9:made w qB 3=false:=by simpa using ae
   rw [O6] at g9;unfold jU;rw [g9];rfl
  rw [e] at q;exact q
 .have g9:made w qB 3=true:=by simpa using ae
  rw [O6] at g9;rw [il];dsimp only;refine acn (.bl (jU w)) (fun Q aV=>?_) ?_
  case refine_2=>exact q
  nofun;have iU:(1 <= (cs w).length/\(cs w).length <= 3)/\(cs w).all lL=true:=by
   simpa only [hy,decide_eq_true_eq] using g9
  obtain ⟨c,r,FT⟩:∃ c r,cs w=c :: r:=by
   cases h:cs w with
   | nil=>rw [h] at iU;exact absurd iU.1.1 (by decide)
   | cons c r=>exact ⟨c,r,rfl⟩
  have ok:jU w=(decide ((cs w).length <= 1) || decide ((cs w).headD 0 ≠ 48)):=by
   unfold jU;rw [g9,kG]
  by_cases b_:w=aa "0"
  .rw [if_pos (decide_eq_true b_)];have e:cs w=[48]:=by rw [b_,Hg]
   rw [ok,e] at aV;exact aV
  .rw [if_neg (by simpa using b_)];refine ⟨gr,c,?_,?_⟩
   .have:=cg (xs:=cs w) (j:=0) (v:=c) (by rw [FT];rfl);exact this
   .have aI:decide ((⟨#[c]⟩:Str)=aa "0")=decide (c=48):=by
     rw [Hg];by_cases pX:c=48
     .rw [pX];simp
     .rw [decide_eq_false pX,decide_eq_false];intro z;have eT:=Mw.mp z;exact pX (ue eT).1
    rw [aI];have bO:jU w = !decide (c=48):=by
     rw [ok,FT];show (decide ((c :: r).length <= 1) || decide (c ≠ 48))=_;by_cases pX:c=48
     .have ak:r ≠ []:=fun z=>b_ (by rw [Hg];exact Mw.mpr (by rw [FT,z,pX]))
      have:¬ (c :: r).length <= 1:=by
       cases r with
       | nil=>exact absurd rfl ak
       | cons d r=>simp
      rw [decide_eq_false this,pX];rfl
     .rw [decide_eq_true pX,Ri,decide_eq_false pX];rfl
    rw [<- bO];exact aV
theorem ab4:cv P base T 3 t.Ez t.Op En W6:=by
 refine cG (YU T) fun ads=>?_;exists T.B_.ok NV,9
 obtain ⟨w,lo,ah,rfl,aQ,bE,q⟩:=h;refine ⟨_,(aR (dI (rv (ki (cf ads ak T.abN T.Jf.bK T.aes (ai (U 0) (ai (lz rfl T.ad_ T.lv) aE))))) (a5 (cj qR)) eh)
   (aR (b2 (i:=3) NV.aG (nz aeu rfl T.v' wd (ai (U 0) aE)))
   (aR (dI (fj.pt (p8 (cP jd (U 3) (U 1) (cm _)) (rS (cP kz (U 3) (U 2) (cm _))))) (a5 (cj qR)) eh)
   (a5 (cj (U 3)))))),?_⟩
 refine dy (!jU w) (fun Q aV=>?_) (fun ae=>?_) (fun ae=>?_)
 ·(nofun; repeat (dsimp only [JK];nofun));exact ⟨aQ,bE,aV⟩
 .nofun;have g9:jU w=false:=by simpa using ae
  have e:iy w lo ah=.bU:=by unfold iy;rw [g9];rfl
  rw [e] at q;exact q
 .have g9:jU w=true:=by simpa using ae
  have a_:(1 <= (cs w).length/\(cs w).length <= 3)/\(cs w).all lL=true:=by
   have:=g9;unfold jU at this;simp only [hy,decide_eq_true_eq] at this;exact this.1
  have aM:=Cf w;have e7:intText? w=some (val w):=intText_digits (agr a_.2) (fun z=>by have hJ:cs w=[]:=z;rw [hJ] at a_;exact absurd a_.1.1 (by decide)) (by omega);nofun;refine ⟨val w,e7,by omega,?_⟩;refine dy (decide (val w < lo) || decide (ah < val w)) (fun Q aV=>?_) (fun aw=>?_) (fun aw=>?_)
  .nofun;by_cases c:val w < lo
   .rw [if_pos (decide_eq_true c)];rw [decide_eq_true c,q7] at aV;exact aV
   .rw [if_neg (by simpa using c)];rw [decide_eq_false c,kX] at aV;exact aV
  .nofun;have e:iy w lo ah=.bU:=by unfold iy;rw [g9,aw];rfl
   rw [e] at q;exact q
  .nofun;have e:iy w lo ah=.int (val w):=by unfold iy;rw [g9,aw];rfl
   rw [e] at q;exact q
theorem EL (h:n < 1000):n.log2 < 1920:=by
 by_cases h0:n=0
 .subst h0;decide
 .rw [Ug h0];exact hC h (c4 (show 1000 <= 2 ^ 10 by decide) (Nat.pow_le_pow_right (by decide) (by decide)))
theorem agb:∀ n,n < 1000->(sW 10 n).length <= 3:=by ac_nf
theorem u' {n:Int} (h0:0 <= n) (af:n <= 999):(aa (toString n)).length <= 3:=by
 have e:=abn n.toNat;rw [pv h0] at e;have l:(aa (toString n)).length=(aa (toString n)).cps.toList.length:=by simp [sO]
 rw [l,e,aU];exact agb _ (by omega)
noncomputable abbrev mC:Str:=aa "abcdefghijklmnopqrstuvwxyz"
def ah0:bN:=fun vs H Q _=>∃ w,vs=[.str w]/\w.length <= 1000/\aP H/\Q (.bl (made w mC 8)) H
theorem ZT:cv P base T 2 t.D0 t.HJ ["word"] ah0:=by
 refine cG (Pq T) fun Jk=>?_;exists T.HY.ok YE,9
 obtain ⟨w,rfl,aQ,bE,q⟩:=h;refine ⟨_,(a5 (cj (cf Jk ak T.Rc T.xc.bK T.MP (ai (U 0) (ai (lz rfl T.ab_ T.aa5) (ai (lz rfl T.V6 T.adB) aE)))))),?_⟩;(nofun; repeat (dsimp only [EW];nofun));exact ⟨aQ,bE,q⟩
noncomputable abbrev nl:Str:=aa "\n"
noncomputable abbrev cE:Str:=aa " "
theorem abL:nl=⟨#[10]⟩:=by ac_nf
theorem x3:cE=⟨#[32]⟩:=by ac_nf
noncomputable def gX (x:Str):List (List Str):=(ik x nl).map fun r=>ik r cE
theorem K8:∀ {ys:List Str} {y:Str},y ∈ ys->y.length <= (ys.map (·.length)).sum
 | [],_,h=>nomatch h
 | a :: r,y,h=>by
  rw [eV,Pl];rcases fh.mp h with rfl | h
  .omega
  .have:=K8 h;omega
theorem ad3 {x y r:Str} (a7:1 <= y.length) (h:r ∈ ik x y):r.length <= x.length + 1:=by
 have af:=ahO x y a7;have ao:=K8 h;omega
theorem At {x y:Str} (a7:1 <= y.length):(ik x y).length <= x.length + 1:=by
 have af:=ahO x y a7;omega
theorem XC (x y:Str):ik x y ≠ []:=by
 unfold ik;split
 .simp
 .split
  .simp
  .rw [StrLaws.partsBetween_eq];obtain ⟨p,r,e⟩:=StrLaws.partsFrom_ne x y.length 0 (rJ x y 0 x.length (x.length + 1));rw [e];simp
def ZE (cn H:aq) (p:Addr) (rows:List (List Str)):Prop:=∃ qs:List Addr,H p=some (.lst (qs.map V.ref))/\cn p=none/\p ∉ qs/\qs.length=rows.length/\∀ (i:Nat) (q:Addr) (r:List Str),qs[i]? = some q->rows[i]? = some r->H q=some (.lst (aW r))/\cn q=none
def MX:bN:=fun vs H Q _=>∃ x,vs=[.str x]/\x.length <= 20000/\aP H/\∀ p I,ac H I->aP I->ZE H I p (gX x)->Q (.ref p) I
theorem uh:nl.length=1:=by ac_nf
theorem pf:cE.length=1:=by ac_nf
theorem ahn:cv P base T 1 t.yn t.Bm ["text"] MX:=by
 exists T.H'.ok ad0,9
 obtain ⟨x,rfl,aQ,bE,q⟩:=h;have hM:∀ n:Nat,n <= 40000->n <= sizeLine:=fun n h=>c4 h (by decide)
 refine ⟨_,(a5 (cj (hE rfl (Gc (gk tu zy XT KG (U 0) (ai cD aE))) (gQ (sc:=bz IV) rfl (by ac_nf)) (N:=["row"]) (sel:=[none]) (gF (M:=["text"]) (by ac_nf)) (fy.of (fun _ _ _ _=>(cz (i:=0) (er (N:=["row"]) (by ac_nf) rfl))) (fun _ _ _ _=>⟨_,h4,by walk_at "B"⟩) (fun _ _ _ _=>⟨_,(gk tu zy XT KG (U 0) (ai cD aE)),by walk_at "B"⟩))))),?_⟩;nofun;have a7:1 <= nl.length:=by rw [uh];exact bW _
 have ae3:1 <= cE.length:=by rw [pf];exact bW _
 have ax:=At (x:=x) a7;have nI:(aW (ik x nl)).length <= sizeLine:=by unfold aW;rw [aU];exact hM _ (by omega)
 refine ⟨by rw [uh];decide,hM _ (by omega),hM _ (show (ik x nl).length <= 40000 by omega),fun p av=>⟨⟨_,aD.of db⟩,?_⟩⟩;refine da.Ye (xs:=aW (ik x nl)) (fun v=>match v with | .str r=>.lst (aW (ik r cE)) | _=>.lst []) (aD.of db) nI (fun v=>by cases v <;> rfl) (fun i v H1 N ag bQ jE bu=>?_) (fun qs H1 bQ jE aM al d6 hc=>?_)
 .unfold aW at ag;rw [dm] at ag;cases ak:(ik x nl)[i]? with
  | none=>rw [ak] at ag;cases ag
  | some r=>
   rw [ak] at ag;have e:=dh ag;subst e;have hm:=ad3 a7 (cB ak);have kS:=At (x:=r) ae3;nofun;exact ⟨Sub.name,by rw [pf];decide,hM _ (by omega),hM _ (show (ik r cE).length <= 40000 by omega),bu⟩
 .have HI:ac H H1:=(bp av).trans bQ;refine q _ _ (HI.fC (HI.free hc)) ((jE (bE.upd)).upd) ⟨qs,db,HI.free hc,fun hm=>?_,?_,fun i ef r af ao=>?_⟩
  .obtain ⟨j,aO,e⟩:=C5 hm;have VB:j < (aW (ik x nl)).length:=by omega
   have:=al j d6 _ (by rw [a' aO,e]) (a' VB);rw [hc] at this;cases this.1
  .rw [aM];unfold gX aW;rw [aU,aU]
  .unfold gX at ao;rw [dm] at ao;cases ak:(ik x nl)[i]? with
   | none=>rw [ak] at ao;cases ao
   | some vZ=>
    rw [ak] at ao;have e:=dh ao;subst e;have z:=al i ef (.str vZ) af (by unfold aW;rw [dm,ak];rfl);refine ⟨by rw [aF (dB z.1 hc)];exact z.1,?_⟩;have:=z.2;by_cases aN:ef=p
    .rw [aN];exact av
    .rwa [aF aN] at this
structure a0 where
 k:Nat
 name:Str
 start:Int
 fin:Int
 off:Int
 near:Int
 least:Int
noncomputable def dC:Nat->Str
 | 0=>aa "car"
 | 1=>aa "foot"
 | _=>aa "tram"
noncomputable def bR.gp (t:bR):Nat->Addr
 | 0=>t.iC
 | 1=>t.iA
 | _=>t.ad
noncomputable def n4 (d:a0):List (Str × V):=[(aa "kind",.str (dC d.k)),(aa "name",.str d.name),(aa "start",.int d.start),(aa "end",.int d.fin),(aa "off",.int d.off),(aa "near",.int d.near),(aa "least",.int d.least)]
noncomputable abbrev nk:List Str:=[aa "kind",aa "name",aa "start",aa "end",aa "off",aa "near",aa "least"]
theorem NN (d:a0):(n4 d).map (·.1)=nk:=rfl
def eF (t:bR) (H:aq) (p:Addr) (d:a0):Prop:=d.k < 3/\∃ ar,H p=some (.ins (t.gp d.k) ar (n4 d))
theorem eF.same {t:bR} {p:Addr} (h:eF t H p d) (s:ac H I):eF t I p d:=⟨h.1,h.2.imp fun ar e=>s _ _ e⟩
def sI (t:bR) (C:Addr):Prop:=∃ k,k < 3/\C=t.gp k
noncomputable def dM (d:a0):Int:=match d.k with | 0=>1 | 1=>0 | _=>2
noncomputable def d0 (d:a0):Int:=match d.k with | 0=>2 | 1=>d.off | _=>1
section
variable {w:World} {K:ba} {mg:Str->Option Value} {t:bR}
theorem Txt.pG (T:Txt w K mg t):∀ k,g8 K (t.gp k)
 | 0=>T.DP
 | 1=>T.Jt
 | _ + 2=>T.DY
theorem Txt.KY (T:Txt w K mg t) (hf:f ∈ nk):∀ k,cX K (t.gp k) f:=by
 intro k;simp only [nk,fh,o9,or_false] at hf;rcases hf with rfl | rfl | rfl | rfl | rfl | rfl | rfl
 .match k with
  | 0=>exact T.bv
  | 1=>exact T.afF
  | _ + 2=>exact T.abP
 .match k with
  | 0=>exact T.UW
  | 1=>exact T.ae7
  | _ + 2=>exact T.Xu
 .match k with
  | 0=>exact T.ZR
  | 1=>exact T.afc
  | _ + 2=>exact T.ahV
 .match k with
  | 0=>exact T.agD
  | 1=>exact T.ahG
  | _ + 2=>exact T.aaF
 .match k with
  | 0=>exact T.aeZ
  | 1=>exact T.V9
  | _ + 2=>exact T.ahy
 .match k with
  | 0=>exact T.afp
  | 1=>exact T.acp
  | _ + 2=>exact T.acB
 .match k with
  | 0=>exact T.Ul
  | 1=>exact T.Ut
  | _ + 2=>exact T.aeD
theorem Txt.cw_inj (T:Txt w K mg t) {j k:Nat} (aO:j < 3) (aB:k < 3) (e:t.gp j=t.gp k):j=k:=by
 match j,k,aO,aB with
 | 0,0,_,_=>rfl
 | 0,1,_,_=>exact absurd e T.Rz
 | 0,2,_,_=>exact absurd e T.Od
 | 1,0,_,_=>exact absurd e.symm T.Rz
 | 1,1,_,_=>rfl
 | 1,2,_,_=>exact absurd e T.PA
 | 2,0,_,_=>exact absurd e.symm T.Od
 | 2,1,_,_=>exact absurd e.symm T.PA
 | 2,2,_,_=>rfl
 | j + 3,_,h,_=>omega
 | _,k + 3,_,h=>omega
theorem eF.fld (T:Txt w K mg t) {p:Addr} (h:eF t H p d) (i:Nat) (ah:nk.findIdx? (· == f)=some i) (aK:(n4 d)[i]? = some (f,v)):fE K H p f v:=by
 obtain ⟨_,ar,e⟩:=h;have hm:f ∈ nk:=by
  obtain ⟨dt,af,_⟩:=List.findIdx?_eq_some_iff_getElem.mp ah;have:nk[i]=f:=by simpa using af
  rw [<- this];exact jg dt
 exact ⟨_,ar,_,e,T.pG _,T.KY hm _,gf nk i (NN d) ah aK⟩
theorem eF.ael (T:Txt w K mg t) {p:Addr} (h:eF t H p d):fE K H p (aa "kind") (.str (dC d.k)):=h.fld T 0 (by ac_nf) rfl
theorem eF.FW (T:Txt w K mg t) {p:Addr} (h:eF t H p d):fE K H p (aa "name") (.str d.name):=h.fld T 1 (by ac_nf) rfl
theorem eF.sz (T:Txt w K mg t) {p:Addr} (h:eF t H p d):fE K H p (aa "start") (.int d.start):=h.fld T 2 (by ac_nf) rfl
theorem eF.ri (T:Txt w K mg t) {p:Addr} (h:eF t H p d):fE K H p (aa "end") (.int d.fin):=h.fld T 3 (by ac_nf) rfl
theorem eF.Oa (T:Txt w K mg t) {p:Addr} (h:eF t H p d):fE K H p (aa "off") (.int d.off):=h.fld T 4 (by ac_nf) rfl
theorem eF.agK (T:Txt w K mg t) {p:Addr} (h:eF t H p d):fE K H p (aa "near") (.int d.near):=h.fld T 5 (by ac_nf) rfl
theorem eF.W3 (T:Txt w K mg t) {p:Addr} (h:eF t H p d):fE K H p (aa "least") (.int d.least):=h.fld T 6 (by ac_nf) rfl
end
def S8 (t:bR):bN:=fun vs H Q _=>∃ (p ar:Addr) (d:a0),vs=[.ref p,.str (dC d.k),.str d.name,.int d.start,.int d.fin,.int d.off,.int d.near,.int d.least]/\d.k < 3/\H p=some (.ins (t.gp d.k) ar [])/\Q .bU (upd H p (.ins (t.gp d.k) ar (n4 d)))
def tn (t:bR) (k:Nat):bN:=fun vs H Q _=>∃ (p ar:Addr) (d:a0),vs=[.ref p,.str d.name,.int d.start,.int d.fin,.int d.off,.int d.near,.int d.least]/\d.k=k/\H p=some (.ins (t.gp d.k) ar [])/\Q .bU (upd H p (.ins (t.gp d.k) ar (n4 d)))
theorem HH:cv P base T 1 t.Bq t.Gx y1 (S8 t):=by
 exists T.R7.ok WW,9
 obtain ⟨p,ar,d,rfl,aB,av,q⟩:=h;refine ⟨_,(aR (eS (U 0) (U 1) rfl)
   (aR (eS (U 0) (U 2) rfl)
   (aR (eS (U 0) (U 3) rfl)
   (aR (eS (U 0) (U 4) rfl)
   (aR (eS (U 0) (U 5) rfl)
   (aR (eS (U 0) (U 6) rfl)
   (a5 (eS (U 0) (U 7) rfl)))))))),?_⟩
 nofun;have na:∀ {f:Str},f ∈ nk->cX K (t.gp d.k) f:=fun hf=>T.KY hf d.k
 refine ⟨_,_,_,av,T.pG _,na (by ac_nf),by decide,?_⟩;refine ⟨_,_,_,db,T.pG _,na (by ac_nf),gH (n:=999) (by decide),?_⟩;refine ⟨_,_,_,db,T.pG _,na (by ac_nf),gH (n:=999) (gH (n:=998) (by decide)),?_⟩;refine ⟨_,_,_,db,T.pG _,na (by ac_nf),gH (n:=999) (gH (n:=998) (gH (n:=997) (by decide))),?_⟩;refine ⟨_,_,_,db,T.pG _,na (by ac_nf),gH (n:=999) (gH (n:=998) (gH (n:=997) (gH (n:=996) (by decide)))),?_⟩;refine ⟨_,_,_,db,T.pG _,na (by ac_nf),gH (n:=999) (gH (n:=998) (gH (n:=997) (gH (n:=996) (gH (n:=995) (by decide))))),?_⟩;refine ⟨_,_,_,db,T.pG _,na (by ac_nf),gH (n:=999) (gH (n:=998) (gH (n:=997) (gH (n:=996) (gH (n:=995) (gH (n:=994) (by decide)))))),?_⟩;simp only [qY];rw [show c2 (aa "kind") (V.str (dC d.k)) ([]:List (Str × V))=[(aa "kind",V.str (dC d.k))] from f3 [] rfl (by ac_nf),
  show c2 (aa "name") (V.str d.name) ([(aa "kind",V.str (dC d.k))]:List (Str × V))=[(aa "kind",V.str (dC d.k)),(aa "name",V.str d.name)] from f3 [aa "kind"] rfl (by ac_nf),
  show c2 (aa "start") (V.int d.start) ([(aa "kind",V.str (dC d.k)),(aa "name",V.str d.name)]:List (Str × V))=[(aa "kind",V.str (dC d.k)),(aa "name",V.str d.name),(aa "start",V.int d.start)] from f3 [aa "kind",aa "name"] rfl (by ac_nf),
  show c2 (aa "end") (V.int d.fin) ([(aa "kind",V.str (dC d.k)),(aa "name",V.str d.name),(aa "start",V.int d.start)]:List (Str × V))=[(aa "kind",V.str (dC d.k)),(aa "name",V.str d.name),(aa "start",V.int d.start),(aa "end",V.int d.fin)] from f3 [aa "kind",aa "name",aa "start"] rfl (by ac_nf),
  show c2 (aa "off") (V.int d.off) ([(aa "kind",V.str (dC d.k)),(aa "name",V.str d.name),(aa "start",V.int d.start),(aa "end",V.int d.fin)]:List (Str × V))=[(aa "kind",V.str (dC d.k)),(aa "name",V.str d.name),(aa "start",V.int d.start),(aa "end",V.int d.fin),(aa "off",V.int d.off)] from f3 [aa "kind",aa "name",aa "start",aa "end"] rfl (by ac_nf),
  show c2 (aa "near") (V.int d.near) ([(aa "kind",V.str (dC d.k)),(aa "name",V.str d.name),(aa "start",V.int d.start),(aa "end",V.int d.fin),(aa "off",V.int d.off)]:List (Str × V))=[(aa "kind",V.str (dC d.k)),(aa "name",V.str d.name),(aa "start",V.int d.start),(aa "end",V.int d.fin),(aa "off",V.int d.off),(aa "near",V.int d.near)] from f3 [aa "kind",aa "name",aa "start",aa "end",aa "off"] rfl (by ac_nf),
  show c2 (aa "least") (V.int d.least) ([(aa "kind",V.str (dC d.k)),(aa "name",V.str d.name),(aa "start",V.int d.start),(aa "end",V.int d.fin),(aa "off",V.int d.off),(aa "near",V.int d.near)]:List (Str × V))=[(aa "kind",V.str (dC d.k)),(aa "name",V.str d.name),(aa "start",V.int d.start),(aa "end",V.int d.fin),(aa "off",V.int d.off),(aa "near",V.int d.near),(aa "least",V.int d.least)] from f3 [aa "kind",aa "name",aa "start",aa "end",aa "off",aa "near"] rfl (by ac_nf)]
 exact q
theorem TJ:cv P base T 2 t.wV t.z2 j8 (tn t 0):=by
 refine cG (HH T) fun vP=>?_;exists T.R3.ok aaa,9
 obtain ⟨p,ar,d,rfl,aB,av,q⟩:=h;refine ⟨_,(a5 (en (Je rfl T.GI T.D4 vP ak T.G8 .nil cO (ai (U 0) (ai cD (ai (U 1) (ai (U 2) (ai (U 3) (ai (U 4) (ai (U 5) (ai (U 6) aE))))))))))),?_⟩;nofun;exact ⟨p,ar,d,by rw [aB];rfl,by omega,av,q⟩
theorem XF:cv P base T 2 t.vF t.xR j8 (tn t 1):=by
 refine cG (HH T) fun vP=>?_;exists T.On.ok Go,9
 obtain ⟨p,ar,d,rfl,aB,av,q⟩:=h;refine ⟨_,(a5 (en (Je rfl T.GI T.D4 vP ak T.G8 .nil cO (ai (U 0) (ai cD (ai (U 1) (ai (U 2) (ai (U 3) (ai (U 4) (ai (U 5) (ai (U 6) aE))))))))))),?_⟩;nofun;exact ⟨p,ar,d,by rw [aB];rfl,by omega,av,q⟩
theorem Uh:cv P base T 2 t.wj t.xq j8 (tn t 2):=by
 refine cG (HH T) fun vP=>?_;exists T.J2.ok af0,9
 obtain ⟨p,ar,d,rfl,aB,av,q⟩:=h;refine ⟨_,(a5 (en (Je rfl T.GI T.D4 vP ak T.G8 .nil cO (ai (U 0) (ai cD (ai (U 1) (ai (U 2) (ai (U 3) (ai (U 4) (ai (U 5) (ai (U 6) aE))))))))))),?_⟩;nofun;exact ⟨p,ar,d,by rw [aB];rfl,by omega,av,q⟩
def tx (t:bR) (C:Addr):bN:=fun vs H Q _=>∃ p d,vs=[.ref p]/\eF t H p d/\C=t.gp d.k/\Q (.int (dM d)) H
def tl (t:bR) (C:Addr):bN:=fun vs H Q _=>∃ p d,vs=[.ref p]/\eF t H p d/\C=t.gp d.k/\Q (.int (d0 d)) H
theorem SW:cv P base T 1 t.Ax t.E9 ["self"] (tx t (t.gp 0)):=by
 exists T.Nb.ok agm,9
 obtain ⟨p,d,rfl,W,dg,q⟩:=h;have aB:=(T.cw_inj (by decide) W.1 dg).symm;refine ⟨_,(a5 (cj aL)),?_⟩;rw [show dM d=1 by unfold dM;simp only [aB]] at q;nofun;exact q
theorem aaj:cv P base T 1 t.Au t.Cn ["self"] (tx t (t.gp 1)):=by
 exists T.Pj.ok XA,9
 obtain ⟨p,d,rfl,W,dg,q⟩:=h;have aB:=(T.cw_inj (by decide) W.1 dg).symm;refine ⟨_,(a5 (cj aL)),?_⟩;rw [show dM d=0 by unfold dM;simp only [aB]] at q;nofun;exact q
theorem acA:cv P base T 1 t.AA t.DK ["self"] (tx t (t.gp 2)):=by
 exists T.Kg.ok aib,9
 obtain ⟨p,d,rfl,W,dg,q⟩:=h;have aB:=(T.cw_inj (by decide) W.1 dg).symm;refine ⟨_,(a5 (cj aL)),?_⟩;rw [show dM d=2 by unfold dM;simp only [aB]] at q;nofun;exact q
theorem PK (T:Txt w K mg t):n6 P w K mg base dz 1 (sI t) "ready" ["self"] (tx t):=by
 refine ⟨fun C dg=>?_⟩;obtain ⟨k,aB,rfl⟩:=dg
 match k,aB with
 | 0,_=>exact ⟨_,_,T.DP,T.Zc,SW T,T.ahz⟩
 | 1,_=>exact ⟨_,_,T.Jt,T.Xt,aaj T,T.Tq⟩
 | 2,_=>exact ⟨_,_,T.DY,T.Vs,acA T,T.af2⟩
theorem VK:cv P base T 1 t.zK t.F1 ["self"] (tl t (t.gp 0)):=by
 exists T.JL.ok ZL,9
 obtain ⟨p,d,rfl,W,dg,q⟩:=h;have aB:=(T.cw_inj (by decide) W.1 dg).symm;refine ⟨_,(a5 (cj aL)),?_⟩;rw [show d0 d=2 by unfold d0;simp only [aB]] at q;nofun;exact q
theorem Za:cv P base T 1 t.AU t.Eb ["self"] (tl t (t.gp 1)):=by
 exists T.Rv.ok ut,9
 obtain ⟨p,d,rfl,W,dg,q⟩:=h;have aB:=(T.cw_inj (by decide) W.1 dg).symm;refine ⟨_,(a5 (cj (bG (U 0) rfl))),?_⟩;rw [show d0 d=d.off by unfold d0;simp only [aB]] at q;nofun;exact ⟨_,W.Oa T,q⟩
theorem Vk:cv P base T 1 t.AK t.IX ["self"] (tl t (t.gp 2)):=by
 exists T.PW.ok afi,9
 obtain ⟨p,d,rfl,W,dg,q⟩:=h;have aB:=(T.cw_inj (by decide) W.1 dg).symm;refine ⟨_,(a5 (cj aL)),?_⟩;rw [show d0 d=1 by unfold d0;simp only [aB]] at q;nofun;exact q
theorem MY (T:Txt w K mg t):n6 P w K mg base dz 1 (sI t) "fade" ["self"] (tl t):=by
 refine ⟨fun C dg=>?_⟩;obtain ⟨k,aB,rfl⟩:=dg
 match k,aB with
 | 0,_=>exact ⟨_,_,T.DP,T.Th,VK T,T.U8⟩
 | 1,_=>exact ⟨_,_,T.Jt,T.wv,Za T,T.ac6⟩
 | 2,_=>exact ⟨_,_,T.DY,T.afD,Vk T,T.ac4⟩
noncomputable def kL (c:Nat):List (List Nat)->List Nat
 | []=>[]
 | [a]=>a
 | a :: b :: r=>a ++ c :: kL c (b :: r)
theorem Q9:∀ {a b X Y:List Nat},c ∉ a->c ∉ b->a ++ c :: X=b ++ c :: Y->a=b/\X=Y
 | [],[],X,Y,_,_,h=>⟨rfl,(ue h).2⟩
 | [],d :: b,X,Y,_,ae,h=>absurd (ue h).1 (fun z=>ae (by simp [<- z]))
 | d :: a,[],X,Y,aX,_,h=>absurd (ue h).1 (fun z=>aX (by simp [z]))
 | d :: a,e :: b,X,Y,aX,ae,h=>by
  obtain ⟨af,ao⟩:=ue h;obtain ⟨au,aI⟩:=Q9 (fun z=>aX (hL _ z)) (fun z=>ae (hL _ z)) ao;exact ⟨by rw [af,au],aI⟩
theorem KK:∀ {ps qs:List (List Nat)},(∀ p ∈ ps,c ∉ p)->(∀ q ∈ qs,c ∉ q)->ps ≠ []->qs ≠ []->kL c ps=kL c qs->ps=qs
 | [a],[b],_,_,_,_,h=>by rw [show a=b from h]
 | [a],b :: tc :: r,aX,_,_,_,h=>absurd (show c ∈ a by rw [show a=b ++ c :: kL c (tc :: r) from h];simp) (aX a (by simp))
 | a :: oF :: r,[b],_,ae,_,_,h=>absurd (show c ∈ b by rw [show b=a ++ c :: kL c (oF :: r) from h.symm];simp) (ae b (by simp))
 | a :: oF :: r,b :: tc :: s,aX,ae,_,_,h=>by
  obtain ⟨au,aI⟩:=Q9 (aX a (by simp)) (ae b (by simp)) (show a ++ c :: kL c (oF :: r)=b ++ c :: kL c (tc :: s) from h);rw [au,KK (fun p av=>aX p (hL _ av)) (fun q aN=>ae q (hL _ aN)) (by simp) (by simp) aI]
 | [],_,_,_,h,_,_=>absurd rfl h
 | _ :: _,[],_,_,_,h,_=>absurd rfl h
theorem Kz:∀ {ps:List (List Nat)},d ∈ kL c ps->d=c\/∃ p ∈ ps,d ∈ p
 | [],h=>nomatch h
 | [a],h=>.inr ⟨a,by simp,h⟩
 | a :: b :: r,h=>by
  rcases f5.mp (show d ∈ a ++ c :: kL c (b :: r) from h) with h | h
  .exact .inr ⟨a,by simp,h⟩
  .rcases fh.mp h with h | h
   .exact .inl h
   .rcases Kz h with h | ⟨p,av,h⟩
    .exact .inl h
    .exact .inr ⟨p,hL _ av,h⟩
theorem qp (c:Nat):∀ ys:List Str,(dV ⟨#[c]⟩ ys).cps.toList=kL c (ys.map (·.cps.toList))
 | []=>rfl
 | [a]=>rfl
 | a :: b :: r=>by
  show (a ++ ⟨#[c]⟩ ++ dV ⟨#[c]⟩ (b :: r)).cps.toList=_;rw [nh,nq,nh,nq,qp c (b :: r)];simp [kL]
theorem xk {x y:Str} (h:x.cps.toList=y.cps.toList):x=y:=by
 cases x;cases y;exact congrArg Str.mk (Nx.mp h)
theorem Ss (aT:ys ≠ []) (hf:∀ y ∈ ys,c ∉ y.cps.toList):ik (dV ⟨#[c]⟩ ys) ⟨#[c]⟩=ys:=by
 have e:=congrArg (·.cps.toList) (StrLaws.join_split (dV ⟨#[c]⟩ ys) ⟨#[c]⟩);simp only [qp] at e;have aI:=KK (c:=c) (ps:=(ik (dV ⟨#[c]⟩ ys) ⟨#[c]⟩).map (·.cps.toList)) (qs:=ys.map (·.cps.toList)) (fun p av=>by
  obtain ⟨y,a7,rfl⟩:=cp.mp av;exact StrLaws.split_free _ c y a7) (fun p av=>by
  obtain ⟨y,a7,rfl⟩:=cp.mp av;exact hf y a7) (by simp [XC]) (by simpa using aT) e
 exact (List.map_inj_right fun x y h=>xk h).mp aI
noncomputable abbrev num (v:Int):Str:=aa (toString v)
theorem YZ:∀ n,n < 1000->(decide (1 <= ((sW 10 n).map wO).length) && decide (((sW 10 n).map wO).length <= 3) && ((sW 10 n).map wO).all lL && (decide (((sW 10 n).map wO).length <= 1) || decide (((sW 10 n).map wO).headD 0 ≠ 48)) &&
  decide (RB ((sW 10 n).map wO)=n))=true:=by ac_nf
theorem xB (h0:0 <= v) (af:v < 1000):jU (num v)=true/\val (num v)=v:=by
 have e:=abn v.toNat;rw [pv h0] at e;have a:=YZ v.toNat (by omega);rw [<- e,hy,decide_eq_true_eq] at a;exact ⟨a.1,by show ((RB (cs (num v)):Nat):Int)=v;rw [a.2];omega⟩
theorem pV {v lo ah:Int} (h0:0 <= v) (af:v < 1000) (aM:lo <= v) (eM:v <= ah):iy (num v) lo ah=.int v:=by
 obtain ⟨a,b⟩:=xB h0 af;unfold iy;rw [a,b,decide_eq_false (by omega:¬ v < lo),decide_eq_false (by omega:¬ ah < v)];rfl
theorem Uj (h0:0 <= u) (af:u < 1000) (ao:0 <= v) (a_:v < 1000) (e:num u=num v):u=v:=by
 rw [<- (xB h0 af).2,e,(xB ao a_).2]
theorem PZ (h0:0 <= v) (af:v < 1000):∀ c ∈ (num v).cps.toList,48 <= c/\c <= 57:=fun c aw=>by
 have:=m7.mp (Tc (xB h0 af).1).2 c aw;simpa [lL] using this
theorem aea:∀ c ∈ mC.cps.toList,97 <= c/\c <= 122:=by ac_nf
theorem afL:∀ k,k < 26->97 + k ∈ mC.cps.toList:=by ac_nf
theorem tj {x:Str} (h:made x mC 8=true):(1 <= x.length/\x.length <= 8)/\∀ c ∈ x.cps.toList,97 <= c/\c <= 122:=by
 unfold made at h;split at h
 .cases h
 .rename_i af;split at h
  .cases h
  .rename_i ao;have a_:¬ x.length=0:=fun z=>af (BI.mpr z)
   refine ⟨by omega,fun c aw=>?_⟩;have:=m7.mp h c aw;rw [I_] at this;exact aea c (of_decide_eq_true this)
theorem acV {x:Str} (h0:1 <= x.length) (af:x.length <= 8) (h:∀ c ∈ x.cps.toList,97 <= c/\c <= 122):made x mC 8=true:=by
 unfold made;rw [if_neg (fun z=>by have:=BI.mp z;omega),if_neg (by omega)];refine m7.mpr fun c aw=>?_
 have:=h c aw;rw [I_];have e:=afL (c - 97) (by omega);rw [show 97 + (c - 97)=c by omega] at e;exact decide_eq_true e
structure oO (n:Int) (d:a0):Prop where
 k:d.k < 3
 nm:made d.name mC 8=true
 st:0 <= d.start/\d.start < n
 e8:0 <= d.fin/\d.fin < n
 ne:d.start ≠ d.fin
 of:0 <= d.off/\d.off <= 30
 zP:0 <= d.near/\d.near <= 30
 le:1 <= d.least/\d.least <= 60
structure q4 (n:Int) (ds:List a0):Prop where
 nn:2 <= n/\n <= 99
 ln:1 <= ds.length/\ds.length <= 12
 al:∀ d ∈ ds,oO n d
 aG:(ds.map (·.name)).Nodup
noncomputable def mv (d:a0):List Str:=[dC d.k,d.name,num d.start,num d.fin,num d.off,num d.near,num d.least]
noncomputable def hW (n:Int) (ds:List a0):List (List Str):=[aa "ring",num n] :: ds.map mv
noncomputable def oo (n:Int) (ds:List a0):Str:=dV nl ((hW n ds).map (dV cE))
def ow (x:Str):Prop:=x.length <= 8/\(32:Nat) ∉ x.cps.toList/\(10:Nat) ∉ x.cps.toList
theorem Ls (k:Nat):ow (dC k):=by
 match k with
 | 0=>exact ⟨by ac_nf,by ac_nf,by ac_nf⟩
 | 1=>exact ⟨by ac_nf,by ac_nf,by ac_nf⟩
 | _ + 2=>exact ⟨show (aa "tram").length <= 8 by ac_nf,show (32:Nat) ∉ (aa "tram").cps.toList by ac_nf,show (10:Nat) ∉ (aa "tram").cps.toList by ac_nf⟩
theorem kx (h0:0 <= v) (af:v < 1000):ow (num v):=
 ⟨c4 (u' h0 (by omega)) (by decide),fun z=>by have:=PZ h0 af _ z;omega,fun z=>by have:=PZ h0 af _ z;omega⟩
theorem Cp {x:Str} (h:made x mC 8=true):ow x:=
 ⟨(tj h).1.2,fun z=>by have:=(tj h).2 _ z;omega,fun z=>by have:=(tj h).2 _ z;omega⟩
theorem oO.plain (h:oO n d) (aT:n <= 99):∀ x ∈ mv d,ow x:=fun x ag=>by
 have af:=h.st;have ao:=h.e8;have a_:=h.of;have cL:=h.zP;have ej:=h.le;simp only [mv,fh,o9,or_false] at ag;rcases ag with rfl | rfl | rfl | rfl | rfl | rfl | rfl
 .exact Ls _
 .exact Cp h.nm
 .exact kx (by omega) (by omega)
 .exact kx (by omega) (by omega)
 .exact kx (by omega) (by omega)
 .exact kx (by omega) (by omega)
 .exact kx (by omega) (by omega)
theorem q4.plain (h:q4 n ds):∀ r ∈ hW n ds,∀ x ∈ r,ow x:=fun r ak x ag=>by
 have aT:=h.nn;rcases fh.mp ak with rfl | ak
 .simp only [fh,o9,or_false] at ag;rcases ag with rfl | rfl
  .exact ⟨by ac_nf,by ac_nf,by ac_nf⟩
  .exact kx (by omega) (by omega)
 .obtain ⟨d,hd,rfl⟩:=cp.mp ak;exact (h.al d hd).plain aT.2 x ag
theorem SU (h0:rs ≠ []) (af:∀ r ∈ rs,r ≠ []) (ao:∀ r ∈ rs,∀ x ∈ r,ow x):gX (dV nl (rs.map (dV cE)))=rs:=by
 unfold gX;rw [abL,x3];rw [Ss (by simpa using h0) (fun y a7=>by
  obtain ⟨r,ak,rfl⟩:=cp.mp a7;rw [qp];intro z;rcases Kz z with z | ⟨p,av,z⟩
  .cases z
  .obtain ⟨x,ag,rfl⟩:=cp.mp av;exact (ao r ak x ag).2.2 z)]
 rw [pO];have:∀ r ∈ rs,((fun r=>ik r ⟨#[32]⟩) ∘ dV ⟨#[32]⟩) r=r:=fun r ak=>Ss (af r ak) fun x ag=>(ao r ak x ag).2.1
 exact (ah1 this).trans (List.map_id rs)
theorem acO (h:q4 n ds):gX (oo n ds)=hW n ds:=SU (by simp [hW]) (fun r ak=>by
 rcases fh.mp ak with rfl | ak
 .simp
 .obtain ⟨d,hd,rfl⟩:=cp.mp ak;simp [mv]) h.plain
theorem ot (sep:Str) (B:Nat):∀ ys:List Str,(∀ y ∈ ys,y.length <= B)->(dV sep ys).length <= ys.length * (B + sep.length)
 | [],_=>by show (Str.empty).length <= _;exact fk _
 | [a],h=>by
  have:=h a (by simp);show a.length <= _;simp only [hQ,tX];omega
 | a :: b :: r,h=>by
  have af:=h a (by simp);have ao:=ot sep B (b :: r) fun y a7=>h y (hL _ a7)
  show (a ++ sep ++ dV sep (b :: r)).length <= _;rw [nS,nS,hQ,ag3];omega
theorem adj (h:q4 n ds):(oo n ds).length <= 1000:=by
 have af:∀ y ∈ (hW n ds).map (dV cE),y.length <= 63:=fun y a7=>by
  obtain ⟨r,ak,rfl⟩:=cp.mp a7;have:=ot cE 8 r fun x ag=>(h.plain r ak x ag).1
  rw [pf] at this;have aM:r.length <= 7:=by
   rcases fh.mp ak with rfl | ak
   .simp
   .obtain ⟨d,hd,rfl⟩:=cp.mp ak;simp [mv]
  omega
 have ao:=ot nl 63 _ af;rw [uh] at ao;have a_:((hW n ds).map (dV cE)).length <= 13:=by
  have:=h.ln;simp [hW];omega
 unfold oo;omega
noncomputable abbrev og:List Str:=[aa "row",aa "told",aa "place"]
noncomputable def lM (row:Int) (a9:Addr) (pl:Int):List (Str × V):=[(aa "row",.int row),(aa "told",.ref a9),(aa "place",.int pl)]
theorem v_ (row:Int) (a9:Addr) (pl:Int):(lM row a9 pl).map (·.1)=og:=rfl
theorem ZS (row:Int) (a9:Addr) (pl v:Int):c2 (aa "place") (.int v) (lM row a9 pl)=lM row a9 v:=by
 unfold lM;simp only [c2];rw [if_neg (by ac_nf),if_neg (by ac_nf)];rfl
def c7 (t:bR) (H:aq) (p:Addr) (row:Int) (ws:List Str) (pl:Nat):Prop:=
 (ws.length <= 1000/\∀ x ∈ ws,x.length <= 1000)/\∃ ar a9,H p=some (.ins t.gS ar (lM row a9 pl))/\H a9=some (.lst (aW ws))
def cU (p:Addr) (H I:aq):Prop:=∀ b u,b ≠ p->H b=some u->I b=some u
theorem cU.trans {p:Addr} (a:cU p H H1) (b:cU p H1 az):cU p H az:=fun c u n e=>b c u n (a c u n e)
theorem cU.of {p:Addr} (a:ac H H1):cU p H H1:=fun c u _ e=>a c u e
theorem cU.put {p:Addr}:cU p H (upd H p o):=fun c u n e=>by rw [aF n];exact e
theorem fo (ws:List Str):(aW ws).length=ws.length:=by unfold aW;rw [aU]
theorem qr {ws:List Str} {i:Nat} {x:Str} (h:ws[i]? = some x):(aW ws)[i]? = some (.str x):=by unfold aW;rw [dm,h];rfl
theorem Aw (ws:List Str):(aW ws).all kB=true:=by unfold aW;simp [kB]
theorem Bb (x:Str) (xs:List Str):pE (.str x) (aW xs)=decide (x ∈ xs):=by
 unfold pE aW;rw [K_,kD];simp only [p6,Function.comp,jF,beq_iff_eq,decide_eq_true_eq];constructor
 .rintro ⟨y,a7,rfl⟩;exact a7
 .intro h;exact ⟨x,h,rfl⟩
section
variable {w:World} {K:ba} {mg:Str->Option Value} {t:bR} {H I:aq} {p:Addr} {row:Int} {ws:List Str} {pl:Nat}
theorem c7.same (h:c7 t H p row ws pl) (s:ac H I):c7 t I p row ws pl:=by
 obtain ⟨aQ,ar,a9,au,aI⟩:=h;exact ⟨aQ,ar,a9,s _ _ au,s _ _ aI⟩
theorem c7.uT (h:c7 t H p row ws pl) (s:cU q H I) (n:p ≠ q) (k:∃ C ar aH,H q=some (.ins C ar aH)):c7 t I p row ws pl:=by
 obtain ⟨aQ,ar,a9,au,aI⟩:=h;obtain ⟨C,Ae,aH,bO⟩:=k;exact ⟨aQ,ar,a9,s _ _ n au,s _ _ (b8 aI bO (by intro z;cases z)) aI⟩
theorem c7.ins (h:c7 t H p row ws pl):∃ C ar aH,H p=some (.ins C ar aH):=by
 obtain ⟨aQ,ar,a9,au,aI⟩:=h;exact ⟨_,_,_,au⟩
theorem c7.no (row:Int) (a9:Addr) (pl:Int) (h:og.contains m=false):(lM row a9 pl).lookup m=none:=uk og (v_ ..) h
theorem HN (T:Txt w K mg t) (e:H p=some (.ins t.gS ar (lM row a9 pl))):fE K H p (aa "place") (.int pl):=
 ⟨_,ar,_,e,T.fF,T.Cw,gf og 2 (v_ ..) (by ac_nf) rfl⟩
theorem DV (T:Txt w K mg t) (e:H p=some (.ins t.gS ar (lM row a9 pl))):fE K H p (aa "told") (.ref a9):=
 ⟨_,ar,_,e,T.fF,T.Fk,gf og 1 (v_ ..) (by ac_nf) rfl⟩
end
def NU (t:bR):bN:=fun vs H Q _=>∃ (p ar a9:Addr) (row:Int),vs=[.ref p,.int row,.ref a9]/\H p=some (.ins t.gS ar [])/\Q .bU (upd H p (.ins t.gS ar (lM row a9 0)))
def abo (t:bR):bN:=fun vs H Q _=>∃ p row ws pl,vs=[.ref p]/\c7 t H p row ws pl/\pl <= ws.length/\Q (.str (ws.getD pl (aa ""))) H
def U1 (t:bR):bN:=fun vs H Q _=>∃ p row ws pl,vs=[.ref p]/\c7 t H p row ws pl/\Q (.bl (decide (pl < ws.length))) H
def DD (t:bR) (H:aq) (p:Addr) (row:Int) (ws:List Str) (pl:Nat) (R:aq->Prop):Prop:=∀ I,cU p H I->(aP H->aP I)->c7 t I p row ws pl->R I
def ahx (t:bR):bN:=fun vs H Q _=>∃ p row ws pl,vs=[.ref p,.bl true]/\c7 t H p row ws pl/\DD t H p row ws (pl + 1) (Q .bU)
def aiz (K:ba) (t:bR):bN:=fun vs H Q _=>∃ p row ws pl x c xs,vs=[.ref p,.ref c]/\c7 t H p row ws pl/\ws[pl]? = some x/\aD K H c (aW xs)/\x ∈ xs/\DD t H p row ws (pl + 1) (Q (.str x))
def VM (t:bR):bN:=fun vs H Q _=>∃ p row ws pl x lo ah v,vs=[.ref p,.int lo,.int ah]/\c7 t H p row ws pl/\ws[pl]? = some x/\iy x lo ah=.int v/\aP H/\DD t H p row ws (pl + 1) (Q (.int v))
def Vf (t:bR):bN:=fun vs H Q _=>∃ p row ws pl,vs=[.ref p]/\c7 t H p row ws pl/\pl=ws.length/\Q .bU H
theorem adb:cv P base T 1 t.wR t.zt vg (NU t):=by
 exists T.Tl.ok W9,9
 obtain ⟨p,ar,a9,row,rfl,av,q⟩:=h;refine ⟨_,(aR (eS (U 0) (U 1) rfl)
   (aR (eS (U 0) (U 2) rfl)
   (a5 (eS (U 0) aL rfl)))),?_⟩
 nofun;refine ⟨_,_,_,av,T.fF,T.af1,by decide,?_⟩;refine ⟨_,_,_,db,T.fF,T.Fk,gH (n:=999) (by decide),?_⟩;refine ⟨_,_,_,db,T.fF,T.Cw,gH (n:=999) (gH (n:=998) (by decide)),?_⟩;simp only [qY];rw [show c2 (aa "row") (V.int row) ([]:List (Str × V))=[(aa "row",V.int row)] from f3 [] rfl (by ac_nf),
  show c2 (aa "told") (V.ref a9) ([(aa "row",V.int row)]:List (Str × V))=[(aa "row",V.int row),(aa "told",V.ref a9)] from f3 [aa "row"] rfl (by ac_nf),
  show c2 (aa "place") (V.int 0) ([(aa "row",V.int row),(aa "told",V.ref a9)]:List (Str × V))=[(aa "row",V.int row),(aa "told",V.ref a9),(aa "place",V.int 0)] from f3 [aa "row",aa "told"] rfl (by ac_nf)]
 exact q
theorem AE:cv P base T 1 t.xF t.DC ["self"] (abo t):=by
 exists T.N7.ok adx,9
 obtain ⟨p,row,ws,pl,rfl,⟨aQ,ar,a9,au,aI⟩,hle,q⟩:=h;refine ⟨_,(aR (dI (cP eo (bG (U 0) rfl) (fq g0 rfl T.gU gK (ai (bG (U 0) rfl) aE)) (cm _)) (a5 (cj cD)) eh)
   (a5 (cj (bX dE (bG (U 0) rfl) (bG (U 0) rfl))))),?_⟩
 nofun;refine dy (decide ((pl:Int)=(ws.length:Int))) (fun Q aV=>?_) (fun c=>?_) (fun c=>?_)
 .nofun;refine ⟨_,HN T au,_,DV T au,_,rfl,_,.inl (aD.of aI),rfl,?_⟩;rw [fo];nofun;exact aV
 .nofun;have c':pl=ws.length:=by have:=of_decide_eq_true c;omega
  rw [show ws.getD pl (aa "")=aa "" by rw [iV,Ws (by omega)];rfl] at q;exact q
 .nofun;have c':pl < ws.length:=by have:=of_decide_eq_false c;omega
  have ag:ws[pl]? = some ws[pl]:=a' c';rw [iV,ag] at q;exact ⟨_,DV T au,_,HN T au,_,rfl,_,_,rfl,aD.of aI,_,cg (qr ag),q⟩
theorem Qz:cv P base T 1 t.ld t.CO ["self"] (U1 t):=by
 exists T.Rg.ok adk,9
 obtain ⟨p,row,ws,pl,rfl,⟨aQ,ar,a9,au,aI⟩,q⟩:=h;refine ⟨_,(a5 (cj (hj jd (bG (U 0) rfl) (fq g0 rfl T.gU gK (ai (bG (U 0) rfl) aE)) (cm _)))),?_⟩;nofun;have e:decide (pl < ws.length)=decide ((pl:Int) < (ws.length:Int)):=by rw [kD];simp
 rw [e] at q;refine ⟨_,HN T au,_,DV T au,_,rfl,_,.inl (aD.of aI),?_⟩;rw [fo];exact ⟨_,rfl,q⟩
theorem Dm:cv P base T 1 t.zI t.Df xD (ahx t):=by
 exists T.Pw.ok Vn,9
 obtain ⟨p,row,ws,pl,rfl,⟨aQ,ar,a9,au,aI⟩,q⟩:=h;refine ⟨_,(aR (dI (rv (ki (U 1))) (a5 nG) eh)
   (a5 (Hr (U 0) aL FP))),?_⟩
 nofun;refine dy false (fun Q aV=>?_) (fun aw=>nomatch aw) (fun _=>?_)
 .nofun;exact aV
 .nofun;refine ⟨_,_,_,au,T.fF,T.Cw,_,gf og 2 (v_ ..) (by ac_nf) rfl,_,rfl,_,_,au,by rw [<- aU (f:=(·.1)),v_];decide,?_⟩;rw [ZS];exact q _ cU.put (fun n=>n.upd) ⟨aQ,ar,a9,db,by rw [aF (b8 aI au (by intro z;cases z))];exact aI⟩
theorem Ac:cv P base T 2 t.w5 t.JG D8 (aiz K t):=by
 refine cG (AE T) fun rk=>cG (Dm T) fun u7=>?_;exists T.Lj.ok RL,9
 obtain ⟨p,row,ws,pl,x,c,xs,rfl,R,ag,aw,hm,q⟩:=h;refine ⟨_,(aR (b2 (i:=2) RL.aG (jj (U 0) T.fF T.xm rk ak T.xP .nil cO))
   (aR (en (e4 (U 0) T.fF T.Fy u7 ak T.FE .nil cO (ai (hj Dw (U 2) (U 1) (by with_unfolding_all rfl)) aE)))
   (a5 (cj (U 2))))),?_⟩
 have dt:pl < ws.length:=(b6.mp ag).1;have bg:ws.getD pl (aa "")=x:=by rw [iV,ag];rfl
 obtain ⟨_,ar,a9,au,aI⟩:=id R;nofun;refine ⟨_,_,au,c7.no _ _ _ (by ac_nf),⟨p,row,ws,pl,rfl,R,by omega,?_⟩⟩;rw [bg];nofun;refine ⟨_,_,au,c7.no _ _ _ (by ac_nf),_,.inl aw,rfl,Aw xs,?_⟩;rw [Bb,decide_eq_true hm];refine ⟨p,row,ws,pl,rfl,R,fun I s1 s2 s3=>?_⟩;nofun;exact q I s1 s2 s3
theorem xJ:cv P base T 4 t.yD t.HF IZ (VM t):=by
 refine cG (AE T) fun rk=>cG (Dm T) fun u7=>cG (ab4 T) fun aaX=>?_;exists T.MM.ok bi,9
 obtain ⟨p,row,ws,pl,x,lo,ah,v,rfl,R,ag,aK,bE,q⟩:=h;refine ⟨_,(aR (b2 (i:=3) bi.aG (cf aaX ak T.af9 T.B_.bK T.ah6 (ai (jj (U 0) T.fF T.xm rk ak T.xP .nil cO) (ai (U 1) (ai (U 2) aE)))))
   (aR (en (e4 (U 0) T.fF T.Fy u7 ak T.FE .nil cO (ai (hj Nk (U 3) qR (cm _)) aE)))
   (a5 (cj (U 3))))),?_⟩
 have dt:pl < ws.length:=(b6.mp ag).1;have bg:ws.getD pl (aa "")=x:=by rw [iV,ag];rfl
 obtain ⟨aQ,ar,a9,au,aI⟩:=id R;nofun;refine ⟨_,_,au,c7.no _ _ _ (by ac_nf),⟨p,row,ws,pl,rfl,R,by omega,?_⟩⟩;rw [bg];nofun;refine ⟨x,lo,ah,rfl,aQ.2 x (cB ag),bE,?_⟩;rw [aK];nofun;refine ⟨_,_,au,c7.no _ _ _ (by ac_nf),?_⟩;refine ⟨p,row,ws,pl,rfl,R,fun I s1 s2 s3=>?_⟩;nofun;exact q I s1 s2 s3
theorem Lg:cv P base T 2 t.zR t.El ["self"] (Vf t):=by
 refine cG (Qz T) fun B3=>?_;exists T.KU.ok W',9
 obtain ⟨p,row,ws,pl,rfl,R,aM,q⟩:=h;obtain ⟨aQ,ar,a9,au,aI⟩:=id R;refine ⟨_,(a5 (dI (ki (jj (U 0) T.fF T.Ow B3 ak T.RU .nil cO)) (a5 nG) eh)),?_⟩;nofun;refine dy false (fun Q aV=>?_) (fun aw=>nomatch aw) (fun _=>?_)
 .nofun;refine ⟨_,_,au,c7.no _ _ _ (by ac_nf),⟨p,row,ws,pl,rfl,R,?_⟩⟩;rw [decide_eq_false (by omega)];exact ⟨_,rfl,aV⟩
 .nofun;exact q
noncomputable abbrev aC (ws:List Str) (k:Nat):Str:=ws.getD k (aa "")
theorem Hb {k:Nat} (h:aC ws k ≠ aa ""):k < ws.length:=by
 refine Classical.byContradiction fun z=>h ?_
 unfold aC;rw [iV,Ws (by omega)];rfl
theorem Xe (w:Str) (lo ah:Int):(∃ v,iy w lo ah=.int v/\lo <= v/\v <= ah/\w ≠ aa "")\/iy w lo ah=.bU:=by
 unfold iy;split
 .rename_i h;rw [hy] at h;refine .inl ⟨val w,rfl,?_,?_,fun z=>?_⟩
  .have:=h.2;simp at this;omega
  .have:=h.2;simp at this;omega
  .have af:=h.1;rw [z] at af;exact absurd af (by ac_nf)
 .exact .inr rfl
def Zw (x:Str):Prop:=x.length <= 1000/\∀ c ∈ x.cps.toList,c < 16 ^ 8
noncomputable def h6 (ds:List a0) (x:Str):Option a0:=ds.find? fun d=>decide (d.name=x)
theorem xl {w:World} {K:ba} {mg:Str->Option Value} {base:Heap} {j k:Nat} (V:n6 P w K mg base CX j nB m ps nH) (h:j <= k):n6 P w K mg base CX k nB m ps nH:=⟨fun C dg=>by
 obtain ⟨f,fd,af,ao,a_,cL⟩:=V.ok C dg;exact ⟨f,fd,af,ao,a_.mono h,cL⟩⟩
noncomputable def kd (x:Str) (lo ah:Int):Option Int:=if jU x && !(decide (val x < lo) || decide (ah < val x)) then some (val x) else none
theorem C6 (x:Str) (lo ah:Int):iy x lo ah=(kd x lo ah).elim .bU .int:=by
 unfold iy kd;split <;> rfl
theorem Kc {x:Str} {lo ah v:Int} (h:iy x lo ah=.int v):kd x lo ah=some v:=by
 rw [C6] at h;cases e:kd x lo ah with
 | none=>rw [e] at h;cases h
 | some u=>rw [e] at h;injection h with h;rw [h]
theorem GH {k:Nat} {lo ah v:Int} (h:iy (aC ws k) lo ah=.int v):k + 1 <= ws.length/\lo <= v/\v <= ah:=by
 rcases Xe (aC ws k) lo ah with ⟨u,bq,af,ao,a_⟩ | aT
 .rw [bq] at h;injection h with h;subst h;exact ⟨Hb a_,af,ao⟩
 .rw [aT] at h;cases h
theorem lN {a x:α} (h:(l ++ [a])[i]? = some x):(i < l.length/\l[i]? = some x)\/(i=l.length/\x=a):=by
 by_cases ah:i < l.length
 .rw [gD ah] at h;exact .inl ⟨ah,h⟩
 .rw [i5 (by omega)] at h;have h0:i - l.length=0:=by
   cases eM:i - l.length with
   | zero=>rfl
   | succ m=>rw [eM] at h;simp at h
  rw [h0] at h;exact .inr ⟨by omega,(by simpa using h:a=x).symm⟩
theorem wF {k:Nat} (h:k < ws.length):ws[k]? = some (aC ws k):=by
 unfold aC;rw [iV,a' h];rfl
theorem cA {α β:Type} {f:α->β} {l:List α} {i:Nat} {y:β} (h:(l.map f)[i]? = some y):∃ x,l[i]? = some x/\y=f x:=by
 rw [dm] at h;cases e:l[i]? with
 | none=>rw [e] at h;cases h
 | some x=>rw [e] at h;exact ⟨x,rfl,(dh h).symm⟩
def VE (t:bR) (cn H:aq) (p:Addr) (rows:List (List Str)):Prop:=∃ qs:List Addr,H p=some (.lst (qs.map V.ref))/\cn p=none/\qs.length=rows.length/\∀ (i:Nat) (q:Addr) (r:List Str),qs[i]? = some q->rows[i]? = some r->c7 t H q i r 0/\cn q=none
def Ho (t:bR):bN:=fun vs H Q _=>∃ x,vs=[.str x]/\x.length <= 20000/\(∀ r ∈ gX x,r.length <= 1000/\∀ y ∈ r,y.length <= 1000)/\aP H/\∀ p I,ac H I->aP I->VE t H I p (gX x)->Q (.ref p) I
theorem Lq:cv P base T 3 t.vQ t.uX ["text"] (Ho t):=by
 have ahK:cH P w K mg base dz 2 t.yn t.Bm ["text"] MX:=(ahn T).mono (by decide);have abj:cH P w K mg base dz 1 t.wR t.zt vg (NU t):=adb T;exists T.Bl.ok afU,9
 obtain ⟨x,rfl,aQ,sQ,bE,q⟩:=h;refine ⟨_,(a5 (cj (hE rfl (xf rfl T.za (ai (cf ahK ak T.aem T.H'.bK T.aa9 (ai (U 0) aE)) aE)) (gQ (sc:=bz Gh) rfl (by ac_nf)) (N:=["row","told"]) (sel:=[none,none]) (gF (M:=["text"]) (by ac_nf)) (fy.of (fun _ _ _ _=>(ly (K:=K) (n:=2) rfl rfl (lc (cz (i:=0) (er (N:=["row","told"]) (by ac_nf) rfl)) (lc (cz (i:=1) (er (N:=["row","told"]) (by ac_nf) rfl)) k4)))) (fun _ _ _ _=>⟨_,h4,by walk_at "B"⟩) (fun _ _ _ _=>⟨_,(ry T.ZQ abj ak rfl T.ahw T.aaM .nil cO (ai (U 0) (ai (U 1) aE))),by walk_at "B"⟩))))),?_⟩;nofun;refine ⟨x,rfl,aQ,bE,fun p H1 r6 jE ⟨ps,av,hs,jJ,cY,n8⟩=>?_⟩;nofun;refine ⟨⟨_,aD.of av⟩,?_⟩;have hlen:ps.length <= sizeLine:=by
  rw [cY];unfold gX;rw [aU];have:=At (x:=x) (y:=nl) (by rw [uh];exact bW _);exact c4 (show _ <= 40000 by omega) (by decide)
 refine da.enum (xs:=ps.map V.ref) (fun i ys az=>ac H1 az/\aP az/\∃ qs:List Addr,ys=qs.map V.ref/\qs.length=i/\∀ (j:Nat) (q:Addr) (r:List Str),qs[j]? = some q->(gX x)[j]? = some r->c7 t az q j r 0/\H1 q=none)
  (by rw [aU];exact hlen) ⟨ac.refl H1,jE,[],rfl,rfl,fun j q r h _=>by simp at h⟩ ?_ ?_ ?_
 .rintro i ys az ah bh;ac_rfl
  obtain ⟨s2,cV,qs,rfl,aN,_⟩:=bh;subst aJ;exact ⟨aD.of (s2 _ _ av),by rw [aU];omega⟩
 .rintro i v ys az d6 aK ⟨s2,cV,qs,rfl,aN,al⟩ hc N bu;rw [dm] at aK;cases xE:ps[i]? with
  | none=>rw [xE] at aK;cases aK
  | some pi=>
   rw [xE] at aK;have e:=(dh aK).symm;subst e;refine Ao ?_;nofun;refine ⟨Sub.WK,fun a ar aX hd b4=>?_⟩;refine ⟨a,ar,pi,i,rfl,db,rfl,?_⟩;rw [qY];have s3:ac az (upd (upd (upd az d6 (.tup [.int i,.ref pi])) ar (.own a)) a (.ins t.gS ar (lM i pi 0))):=by
    have aj:ac az (upd az d6 (.tup [.int i,.ref pi])):=bp hc;exact ((ac.trans aj (bp hd)).fC (aj.free aX))
   obtain ⟨r,ak⟩:∃ r,(gX x)[i]? = some r:=⟨(gX x)[i]'(by rw [<- cY];exact (b6.mp xE).1),a' _⟩;have aaZ:az a=none:=(bp hc).free aX;refine bu _ _ ⟨s2.trans s3,((cV.upd).upd).upd,qs ++ [a],by rw [fz];rfl,by rw [c6,aN];rfl,fun j ef dj af ao=>?_⟩;by_cases aO:j < qs.length
   .rw [gD aO] at af;obtain ⟨ff,eT⟩:=al j ef dj af ao;exact ⟨ff.same s3,eT⟩
   .rw [i5 (by omega)] at af;have oG:j - qs.length=0:=by
     cases eM:j - qs.length with
     | zero=>rfl
     | succ n=>rw [eM] at af;simp at af
    rw [oG] at af;have bO:a=ef:=by simpa using af
    subst bO;have eD:j=i:=by omega
    subst eD;rw [ak] at ao;cases ao;refine ⟨⟨sQ r (cB ak),ar,pi,db,?_⟩,s2.free aaZ⟩;exact s3 _ _ (s2 _ _ (n8 j pi r xE ak).1)
 .rintro ys az ⟨s2,cV,qs,rfl,aN,al⟩ d6 hc;refine q d6 _ ((r6.trans s2).fC ((r6.trans s2).free hc)) (cV.upd) ⟨qs,db,(r6.trans s2).free hc,by rw [aN,aU,cY],fun i ef r af ao=>?_⟩;obtain ⟨ff,eT⟩:=al i ef r af ao;exact ⟨ff.same (bp hc),r6.free eT⟩
def WY (q:Addr) (H:aq) (R:aq->Prop):Prop:=∀ I,cU q H I->aP I->R I
def ME (t:bR):bN:=fun vs H Q _=>∃ q row n,vs=[.ref q]/\c7 t H q row [aa "ring",num n] 0/\(2 <= n/\n <= 99)/\aP H/\WY q H (Q (.int n))
def mz (t:bR) (H:aq) (wl:Addr) (ds:List a0):Prop:=∃ as:List Addr,H wl=some (.lst (as.map V.ref))/\as.length=ds.length/\∀ (i:Nat) (a:Addr) (d:a0),as[i]? = some a->ds[i]? = some d->eF t H a d
def TZ (t:bR):bN:=fun vs H Q _=>∃ q row ws pl wl ds x,vs=[.ref q,.ref wl]/\c7 t H q row ws pl/\ws[pl]? = some x/\made x mC 8=true/\mz t H wl ds/\ds.length <= 12/\(∀ d ∈ ds,d.name ≠ x)/\aP H /\
 ∀ I,cU q H I->aP I->c7 t I q row ws (pl + 1)->Q (.str x) I
def aaW (t:bR):bN:=fun vs H Q _=>∃ q row ws pl n st e8,vs=[.ref q,.int n,.int st]/\c7 t H q row ws pl/\ws[pl]? = some (num e8)/\(0 <= st/\st < n)/\(0 <= e8/\e8 < n)/\st ≠ e8/\n <= 99/\aP H /\
 ∀ I,cU q H I->aP I->c7 t I q row ws (pl + 1)->Q (.int e8) I
def YV (t:bR):bN:=fun vs H Q _=>∃ d:a0,vs=[.str (dC d.k),.str d.name,.int d.start,.int d.fin,.int d.off,.int d.near,.int d.least]/\d.k < 3/\∀ x I,ac H I->(aP H->aP I)->eF t I x d->H x=none->Q (.ref x) I
def KS (t:bR):bN:=fun vs H Q _=>∃ q row n wl ds d,vs=[.ref q,.int n,.ref wl]/\c7 t H q row (mv d) 0/\oO n d/\(2 <= n/\n <= 99)/\mz t H wl ds/\ds.length <= 12/\(∀ e ∈ ds,e.name ≠ d.name)/\aP H /\
 ∀ x I,cU q H I->aP I->eF t I x d->H x=none->Q (.ref x) I
theorem mz.uT {t:bR} (h:mz t H wl ds) (s:cU q H I) (r:c7 t H q row ws pl):mz t I wl ds:=by
 obtain ⟨as,au,aI,al⟩:=h;obtain ⟨aQ,ar,a9,bO,eD⟩:=r;refine ⟨as,s _ _ (b8 au bO (by intro z;cases z)) au,aI,fun i a d af ao=>?_⟩;obtain ⟨aB,g5,gh⟩:=al i a d af ao;refine ⟨aB,g5,s _ _ (fun z=>?_) gh⟩;subst z;rw [gh] at bO;have fi:=dh bO;injection fi with _ _ lP;have lu:(7:Nat)=3:=congrArg pT lP;omega
theorem mz.same {t:bR} (h:mz t H wl ds) (s:ac H I):mz t I wl ds:=by
 obtain ⟨as,au,aI,al⟩:=h;exact ⟨as,s _ _ au,aI,fun i a d af ao=>(al i a d af ao).same s⟩
theorem adG:cv P base T 5 t.xr t.xO ["reader"] (ME t):=by
 refine cG (Ac T) fun pn=>cG (xJ T) fun mB=>cG (Lg T) fun GY=>?_;exists T.JC.ok Lv,9
 obtain ⟨q,row,n,rfl,R,aT,bE,kn⟩:=h;refine ⟨_,(aR (en (e4 (U 0) T.fF T.vE pn ak T.wU .nil cO (ai (fg (ai cD aE)) aE)))
   (aR (b2 (i:=1) Lv.aG (e4 (U 0) T.fF T.p7 mB ak T.pL .nil cO (ai (lz rfl T.YA T.WI) (ai (lz rfl T.aax T.aat) aE))))
   (aR (en (jj (U 0) T.fF T.Sp GY ak T.OY .nil cO))
   (a5 (cj (U 1)))))),?_⟩
 obtain ⟨_,ar,a9,au,aI⟩:=id R;nofun;refine ⟨_,_,au,c7.no _ _ _ (by ac_nf),by decide,fun p av=>?_⟩;have s0:ac H (upd H p (.lst [V.str (aa "ring")])):=bp av;refine ⟨q,row,_,0,aa "ring",p,[aa "ring"],rfl,R.same s0,rfl,aD.of db,by simp,fun H1 s1 cw jL=>?_⟩;obtain ⟨_,KR,L4,f1,f2⟩:=id jL;nofun;refine ⟨_,_,f1,c7.no _ _ _ (by ac_nf),?_⟩;have jE:=cw bE.upd;refine ⟨q,row,_,1,num n,2,99,n,rfl,jL,rfl,pV (by omega) (by omega) aT.1 aT.2,jE,fun az s2 cV eN=>?_⟩;obtain ⟨_,rp,IB,g1,g2⟩:=id eN;nofun;refine ⟨_,_,g1,c7.no _ _ _ (by ac_nf),?_⟩;refine ⟨q,row,_,2,rfl,eN,rfl,?_⟩;nofun;exact kn az (((cU.of s0).trans s1).trans s2) (cV jE)
theorem agL:cv P base T 3 t.Ij t.B4 E' (TZ t):=by
 refine cG (AE T) fun rk=>cG (Dm T) fun u7=>cG (ZT T) fun adm=>?_;exists T.Dx.ok J3,9
 obtain ⟨q,row,ws,pl,wl,ds,x,rfl,R,ag,hm,fK,gx,Ca,bE,kn⟩:=h;refine ⟨_,(aR (b2 (i:=2) J3.aG (jj (U 0) T.fF T.xm rk ak T.xP .nil cO))
   (aR (en (e4 (U 0) T.fF T.Fy u7 ak T.FE .nil cO (ai (wq (cf adm ak T.Vd T.HY.bK T.afe (ai (U 2) aE)) (tZ (hj x9 (U 2) (hE rfl (Gc (U 1)) (gQ (sc:=bz E6) rfl (by ac_nf)) (N:=["way"]) (sel:=[none]) (gF (M:=["reader","ways","name"]) (by ac_nf)) (fy.of (fun _ _ _ _=>(cz (i:=0) (er (N:=["way"]) (by ac_nf) rfl))) (fun _ _ _ _=>⟨_,h4,by walk_at "B"⟩) (fun _ _ _ _=>⟨_,(bG (U 0) rfl),by walk_at "B"⟩))) (by with_unfolding_all rfl)))) aE)))
   (a5 (cj (U 2))))),?_⟩
 have dt:pl < ws.length:=(b6.mp ag).1;have bg:ws.getD pl (aa "")=x:=by rw [iV,ag];rfl
 obtain ⟨aQ,ar,a9,au,aI⟩:=id R;nofun;refine ⟨_,_,au,c7.no _ _ _ (by ac_nf),⟨q,row,ws,pl,rfl,R,by omega,?_⟩⟩;rw [bg];nofun;refine ⟨_,_,au,c7.no _ _ _ (by ac_nf),?_⟩;refine ⟨x,rfl,aQ.2 x (cB ag),bE,?_⟩;rw [hm];nofun;obtain ⟨as,dk,dZ,al⟩:=fK;refine ⟨⟨_,aD.of dk⟩,?_⟩;have hle:(as.map V.ref).length <= sizeLine:=by rw [aU,dZ];exact c4 gx (by decide)
 refine da.lg (xs:=as.map V.ref) (zs:=ds.map fun d=>V.str d.name) (aD.of dk) hle (by rw [aU,aU,dZ]) (fun i v z N aK gr bu=>?_) (fun p av=>?_)
 .obtain ⟨a,aX,rfl⟩:=cA aK;obtain ⟨d,hd,rfl⟩:=cA gr;nofun;exact ⟨Sub.name,_,(al i a d aX hd).FW T,bu⟩
 .nofun;have eX:(ds.map fun d=>V.str d.name)=aW (ds.map (·.name)):=by unfold aW;rw [pO];rfl
  rw [eX];refine ⟨_,.inl (aD.of db),rfl,Aw _,?_⟩;rw [Bb,decide_eq_false (fun z=>by
   obtain ⟨d,hd,e⟩:=cp.mp z;exact Ca d hd e)]
  have s0:ac H (upd H p (.lst (aW (ds.map (·.name))))):=bp av;exact ⟨q,row,ws,pl,rfl,R.same s0,fun I s1 cw jL=>kn I ((cU.of s0).trans s1) (cw bE.upd) jL⟩
theorem Y0:cv P base T 5 t.Hj t.bn w9 (aaW t):=by
 refine cG (AE T) fun rk=>cG (xJ T) fun mB=>?_;exists T.I0.ok ag5,9
 obtain ⟨q,row,ws,pl,n,st,e8,rfl,R,ag,gP,G2,b4,aT,bE,kn⟩:=h;refine ⟨_,(aR (dI (cP eo (jj (U 0) T.fF T.xm rk ak T.xP .nil cO) (nz ub rfl T.uS vr (ai (U 2) aE)) (cm _)) (a5 nG) eh)
   (a5 (cj (e4 (U 0) T.fF T.p7 mB ak T.pL .nil cO (ai aL (ai (bD jR (U 1) aL) aE)))))),?_⟩
 have dt:pl < ws.length:=(b6.mp ag).1;have bg:ws.getD pl (aa "")=num e8:=by rw [iV,ag];rfl
 obtain ⟨aQ,ar,a9,au,aI⟩:=id R;nofun;refine dy false (fun Q aV=>?_) (fun aw=>nomatch aw) (fun _=>?_)
 .nofun;refine ⟨_,_,au,c7.no _ _ _ (by ac_nf),⟨q,row,ws,pl,rfl,R,by omega,?_⟩⟩;rw [bg];nofun;refine ⟨EL (by omega),?_⟩;rw [decide_eq_false (fun z=>b4 (Uj (by omega) (by omega) (by omega) (by omega) z).symm)];exact aV
 .nofun;refine ⟨_,_,au,c7.no _ _ _ (by ac_nf),⟨q,row,ws,pl,num e8,0,n - 1,e8,rfl,R,ag,pV (by omega) (by omega) (by omega) (by omega),bE,fun H1 s1 cw jL=>?_⟩⟩;exact kn H1 s1 (cw bE) jL
theorem aeh {t:bR} {x ar:Addr} (ag:H x=none) (hd:H ar=none) (aB:d.k < 3) :
  ac H (upd (upd (upd H ar (.own x)) x (.ins (t.gp d.k) ar [])) x (.ins (t.gp d.k) ar (n4 d)))/\(aP H->aP (upd (upd (upd H ar (.own x)) x (.ins (t.gp d.k) ar [])) x (.ins (t.gp d.k) ar (n4 d)))) /\
   eF t (upd (upd (upd H ar (.own x)) x (.ins (t.gp d.k) ar [])) x (.ins (t.gp d.k) ar (n4 d))) x d:=
 ⟨(((ac.refl H).fC hd).fC ag).fC ag,fun n=>((n.upd).upd).upd,aB,ar,db⟩
theorem Xv:cv P base T 4 t.IH t.zn z9 (YV t):=by
 have VI:cH P w K mg base dz 2 t.wV t.z2 j8 (tn t 0):=TJ T;have afC:cH P w K mg base dz 2 t.vF t.xR j8 (tn t 1):=XF T;have acF:cH P w K mg base dz 2 t.wj t.xq j8 (tn t 2):=Uh T;exists T.D9.ok aaz,9
 obtain ⟨d,rfl,aB,q⟩:=h;refine ⟨_,(aR (dI (cP eo (U 0) cD (cm _)) (a5 (cj (ry T.Yx VI ak rfl T.agc T.aeN .nil cO (ai (U 1) (ai (U 2) (ai (U 3) (ai (U 4) (ai (U 5) (ai (U 6) aE))))))))) eh)
   (aR (dI (cP eo (U 0) cD (cm _)) (a5 (cj (ry T.ahJ afC ak rfl T.aeC T.aev .nil cO (ai (U 1) (ai (U 2) (ai (U 3) (ai (U 4) (ai (U 5) (ai (U 6) aE))))))))) eh)
   (a5 (cj (ry T.agI acF ak rfl T.WF T.ahm .nil cO (ai (U 1) (ai (U 2) (ai (U 3) (ai (U 4) (ai (U 5) (ai (U 6) aE))))))))))),?_⟩
 have fin:∀ (x ar:Addr),H x=none->H ar=none->Q (.ref x) (upd (upd (upd H ar (.own x)) x (.ins (t.gp d.k) ar [])) x (.ins (t.gp d.k) ar (n4 d))):=fun x ar ag hd=>by
  obtain ⟨jw,jl,sY⟩:=aeh (t:=t) (d:=d) ag hd aB;exact q x _ jw jl sY ag
 obtain ⟨k,name,start,e8,off,near,least⟩:=d
 match k,aB with
 | 0,_=>
  (nofun; repeat (dsimp only [dC];nofun));refine dy true (fun Q aV=>?_) (fun _=>?_) (fun aw=>nomatch aw)
  .nofun;exact aV
  .nofun;exact fun x ar ag hd b4=>⟨x,ar,⟨0,name,start,e8,off,near,least⟩,rfl,rfl,db,rfl,fin x ar ag hd⟩
 | 1,_=>
  (nofun; repeat (dsimp only [dC];nofun));refine dy false (fun Q aV=>?_) (fun aw=>nomatch aw) (fun _=>?_)
  .nofun;rw [decide_eq_false (by ac_nf)];exact aV
  .nofun;refine dy true (fun Q aV=>?_) (fun _=>?_) (fun aw=>nomatch aw)
   .nofun;exact aV
   .nofun;exact fun x ar ag hd b4=>⟨x,ar,⟨1,name,start,e8,off,near,least⟩,rfl,rfl,db,rfl,fin x ar ag hd⟩
 | 2,_=>
  (nofun; repeat (dsimp only [dC];nofun));refine dy false (fun Q aV=>?_) (fun aw=>nomatch aw) (fun _=>?_)
  .nofun;rw [decide_eq_false (by ac_nf)];exact aV
  .nofun;refine dy false (fun Q aV=>?_) (fun aw=>nomatch aw) (fun _=>?_)
   .nofun;rw [decide_eq_false (by ac_nf)];exact aV
   .nofun;exact fun x ar ag hd b4=>⟨x,ar,⟨2,name,start,e8,off,near,least⟩,rfl,rfl,db,rfl,fin x ar ag hd⟩
theorem IN:cv P base T 6 t.Bo t.zp xI (KS t):=by
 refine cG (Ac T) fun pn=>cG (xJ T) fun mB=>cG (Lg T) fun GY=>cG (agL T) fun agq=>cG (Y0 T) fun Wc=>cG (Xv T) fun ah9=>?_;exists T.Fw.ok p9,9
 obtain ⟨q,row,n,wl,ds,d,rfl,R,hd,aT,fK,gx,Ca,bE,kn⟩:=h;refine ⟨_,(aR (b2 (i:=3) p9.aG (e4 (U 0) T.fF T.vE pn ak T.wU .nil cO (ai (fg (ai cD (ai cD (ai cD aE)))) aE)))
   (aR (b2 (i:=4) p9.aG (cf agq ak T.aaw T.Dx.bK T.acg (ai (U 0) (ai (U 2) aE))))
   (aR (b2 (i:=5) p9.aG (e4 (U 0) T.fF T.p7 mB ak T.pL .nil cO (ai aL (ai (bD jR (U 1) aL) aE))))
   (aR (b2 (i:=6) p9.aG (cf Wc ak T.aaf T.I0.bK T.S' (ai (U 0) (ai (U 1) (ai (U 5) aE)))))
   (aR (b2 (i:=7) p9.aG (e4 (U 0) T.fF T.p7 mB ak T.pL .nil cO (ai aL (ai (lz rfl T.NE T.abQ) aE))))
   (aR (b2 (i:=8) p9.aG (e4 (U 0) T.fF T.p7 mB ak T.pL .nil cO (ai aL (ai (lz rfl T.ahZ T.aiy) aE))))
   (aR (b2 (i:=9) p9.aG (e4 (U 0) T.fF T.p7 mB ak T.pL .nil cO (ai aL (ai (lz rfl T.Uz T.S2) aE))))
   (aR (en (jj (U 0) T.fF T.Sp GY ak T.OY .nil cO))
   (a5 (cj (cf ah9 ak T.ac3 T.D9.bK T.ahk (ai (U 3) (ai (U 4) (ai (U 5) (ai (U 6) (ai (U 7) (ai (U 8) (ai (U 9) aE)))))))))))))))))),?_⟩
 have e_:=hd.st;have ec:=hd.e8;have hR:=hd.of;have o1:=hd.zP;have YL:=hd.le;obtain ⟨_,ar,a9,au,aI⟩:=id R;nofun;refine ⟨_,_,au,c7.no _ _ _ (by ac_nf),by decide,fun p av=>?_⟩;have s0:ac H (upd H p (.lst [V.str (aa "car"),V.str (aa "foot"),V.str (aa "tram")])):=bp av;have gw:dC d.k ∈ [aa "car",aa "foot",aa "tram"]:=by
  have:=hd.k
  match d.k,this with
  | 0,_=>simp [dC]
  | 1,_=>simp [dC]
  | 2,_=>simp [dC]
 refine ⟨q,row,_,0,dC d.k,p,[aa "car",aa "foot",aa "tram"],rfl,R.same s0,rfl,aD.of db,gw,fun H1 s1 cw jL=>?_⟩;have cT:cU q H H1:=(cU.of s0).trans s1;have jw:=cw bE.upd;nofun;refine ⟨q,row,_,1,wl,ds,d.name,rfl,jL,rfl,hd.nm,fK.uT cT R,gx,Ca,jw,fun az s2 jl eN=>?_⟩;obtain ⟨_,rp,IB,f2,g2⟩:=id eN;have e':=cT.trans s2;nofun;refine ⟨_,_,f2,c7.no _ _ _ (by ac_nf),⟨q,row,_,2,num d.start,0,n - 1,d.start,rfl,eN,rfl,pV (by omega) (by omega) (by omega) (by omega),jl,fun bk s3 dK lO=>?_⟩⟩;have fV:=e'.trans s3;have sY:=dK jl;nofun;refine ⟨q,row,_,3,n,d.start,d.fin,rfl,lO,rfl,e_,ec,hd.ne,aT.2,sY,fun cJ s4 QE lI=>?_⟩;obtain ⟨_,Gf,akB,f4,s8⟩:=id lI;have dD:=fV.trans s4;nofun;refine ⟨_,_,f4,c7.no _ _ _ (by ac_nf),⟨q,row,_,4,num d.off,0,30,d.off,rfl,lI,rfl,pV (by omega) (by omega) (by omega) (by omega),QE,fun dH s5 iB qj=>?_⟩⟩;obtain ⟨_,aj8,ak3,ea,OK⟩:=id qj;have eE:=dD.trans s5;have OA:=iB QE;nofun;refine ⟨_,_,ea,c7.no _ _ _ (by ac_nf),⟨q,row,_,5,num d.near,0,30,d.near,rfl,qj,rfl,pV (by omega) (by omega) (by omega) (by omega),OA,fun hH gV kh Ay=>?_⟩⟩;obtain ⟨_,ajE,aiO,mm,L1⟩:=id Ay;have eB:=eE.trans gV;have OP:=kh OA;nofun;refine ⟨_,_,mm,c7.no _ _ _ (by ac_nf),⟨q,row,_,6,num d.least,1,60,d.least,rfl,Ay,rfl,pV (by omega) (by omega) (by omega) (by omega),OP,fun ft jN j9 PJ=>?_⟩⟩;obtain ⟨_,aiD,akt,ll,DQ⟩:=id PJ;have dU:=eB.trans jN;have acI:=j9 OP;nofun;refine ⟨_,_,ll,c7.no _ _ _ (by ac_nf),⟨q,row,_,7,rfl,PJ,rfl,?_⟩⟩;nofun;refine ⟨d,rfl,hd.k,fun x iG f' nD HT xa=>?_⟩;refine kn x iG (dU.trans (cU.of f')) (nD acI) HT ?_;cases kC:H x with
 | none=>rfl
 | some u=>
  by_cases KO:x=q
  .subst KO;rw [ll] at xa;cases xa
  .rw [dU x u KO kC] at xa;cases xa
noncomputable abbrev tw:List Str:=[aa "places",aa "ways",aa "numbers"]
noncomputable def nF (n:Int) (wl aG:Addr):List (Str × V):=[(aa "places",.int n),(aa "ways",.ref wl),(aa "numbers",.ref aG)]
theorem yJ (n:Int) (wl aG:Addr):(nF n wl aG).map (·.1)=tw:=rfl
noncomputable def nm (ds:List a0) (i:Nat):Str:=((ds[i]?).map (·.name)).getD (aa "")
noncomputable def l5 (ds:List a0) (i:Nat):List (Key × V):=(fL i).map fun j=>(bc (nm ds j),V.int j)
theorem l1 (h:ds[i]? = some d):nm ds i=d.name:=by unfold nm;rw [h];rfl
theorem r_ (h:(ds.map (·.name)).Nodup) (ah:i < ds.length) (aO:j < ds.length) (e:nm ds i=nm ds j):i=j:=by
 rw [l1 (a' ah),l1 (a' aO)] at e;have:=(DE (xs:=ds.map (·.name)) (i:=i) (j:=j) (h₀:=by rw [aU];exact ah) (h₁:=by rw [aU];exact aO) h).mp (by rw [H5,H5];exact e);exact this
theorem agY (h:(ds.map (·.name)).Nodup):∀ {n:Nat},i < n->n <= ds.length->cu (l5 ds n) (bc (nm ds i))=some (.int i):=by
 intro n
 induction n with
 | zero=>intro ah _;omega
 | succ n b9=>
  intro ah aT;unfold l5 cu;rw [t_,fz,List.find?_append];by_cases c:i < n
  .have:=b9 c (by omega);unfold l5 cu at this;cases e:acz (fun df=>decide (df.fst=bc (nm ds i))) (rQ (fun j=>((bc (nm ds j):Key),V.int j)) (fL n)) with
   | none=>rw [e] at this;cases this
   | some p=>rw [e] at this;exact this
  .have e:i=n:=by omega
   subst e;have no:acz (fun df=>decide (df.fst=bc (nm ds i))) (rQ (fun j=>((bc (nm ds j):Key),V.int j)) (fL i))=none:=by
    rw [Xg];intro p av;obtain ⟨j,aO,rfl⟩:=cp.mp av;have fY:=om.mp aO;simp only [decide_eq_true_eq];intro z;have:=r_ h (by omega) (by omega) (rK z);omega
   rw [no];simp
theorem abU (h:(ds.map (·.name)).Nodup) (aT:n < ds.length):d3 (l5 ds n) (bc (nm ds n)) (.int n)=l5 ds (n + 1):=by
 unfold d3;have no:((l5 ds n).any fun df=>decide (df.1=bc (nm ds n)))=false:=by
  rw [NG];intro p av;obtain ⟨j,aO,rfl⟩:=cp.mp av;have fY:=om.mp aO;simp only [decide_eq_true_eq];intro z;have:=r_ h (by omega) aT (rK z);omega
 rw [no];unfold l5;rw [t_,fz];rfl
theorem uY (a:ac H H1) (b:cU q H1 az) (n:H q=none):ac H az:=fun c u e=>b c u (dB e n) (a c u e)
theorem FM {t:bR} {p q:Addr} {k l:Nat} (a:c7 t H p i ws k) (b:c7 t H q j vs l) (n:i ≠ j):p ≠ q:=fun z=>by
 subst z;obtain ⟨_,ar,a9,au,_⟩:=a;obtain ⟨_,g5,Z6,aI,_⟩:=b;rw [au] at aI;have bO:=dh aI;injection bO with _ _ eD;unfold lM at eD;injection eD with gh _;injection gh with _ fi;injection fi with h9;exact n h9
theorem Q7 {t:bR} {p q:Addr} (a:eF t H p d) (b:c7 t H q j vs l):p ≠ q:=fun z=>by
 subst z;obtain ⟨_,ar,au⟩:=a;obtain ⟨_,g5,Z6,aI,_⟩:=b;rw [au] at aI;have bO:=dh aI;injection bO with _ _ eD;exact absurd (congrArg pT eD) (by show ¬ (7:Nat)=3;decide)
def fu (t:bR) (H:aq) (c:Addr) (n:Int) (ds:List a0):Prop:=
 ((ds.map (·.name)).Nodup/\ds.length <= 12)/\∃ ar wl aG,H c=some (.ins t.ho ar (nF n wl aG))/\mz t H wl ds/\H aG=some (.bw (l5 ds ds.length))
theorem fu.same {t:bR} (h:fu t H c n ds) (s:ac H I):fu t I c n ds:=by
 obtain ⟨h0,ar,wl,aG,au,aI,bO⟩:=h;exact ⟨h0,ar,wl,aG,s _ _ au,aI.same s,s _ _ bO⟩
theorem kb (n:Int) (wl aG:Addr) (h:tw.contains m=false):(nF n wl aG).lookup m=none:=uk tw (yJ ..) h
section
variable {w:World} {K:ba} {mg:Str->Option Value} {t:bR} {H:aq} {c ar wl aG:Addr} {n:Int}
theorem XD (T:Txt w K mg t) (e:H c=some (.ins t.ho ar (nF n wl aG))):fE K H c (aa "places") (.int n):=⟨_,ar,_,e,T.hU,T.Oi,gf tw 0 (yJ ..) (by ac_nf) rfl⟩
theorem Qi (T:Txt w K mg t) (e:H c=some (.ins t.ho ar (nF n wl aG))):fE K H c (aa "ways") (.ref wl):=⟨_,ar,_,e,T.hU,T.OC,gf tw 1 (yJ ..) (by ac_nf) rfl⟩
theorem G4 (T:Txt w K mg t) (e:H c=some (.ins t.ho ar (nF n wl aG))):fE K H c (aa "numbers") (.ref aG):=⟨_,ar,_,e,T.hU,T.JS,gf tw 2 (yJ ..) (by ac_nf) rfl⟩
end
def Qw (t:bR):bN:=fun vs H Q _=>∃ c ar n wl ds,vs=[.ref c,.int n,.ref wl]/\H c=some (.ins t.ho ar [])/\mz t H wl ds/\(ds.map (·.name)).Nodup/\ds.length <= 12/\aP H /\
 ∀ I,cU c H I->aP I->fu t I c n ds->Q .bU I
def PR (t:bR):bN:=fun vs H Q _=>∃ n ds,vs=[.str (oo n ds)]/\q4 n ds/\aP H/\∀ c I,ac H I->aP I->fu t I c n ds->Q (.ref c) I
def Oo (t:bR):bN:=fun vs H Q _=>∃ c n ds,vs=[.ref c]/\fu t H c n ds/\∀ p,H p=none->Q (.ref p) (upd H p (.lst (aW (ds.map (·.name)))))
def agZ (t:bR):bN:=fun vs H Q _=>∃ c n ds,∃ i:Nat,∃ d,vs=[.ref c,.str d.name]/\fu t H c n ds/\ds[i]? = some d/\Q (.int (i:Nat)) H
def QV (t:bR):bN:=fun vs H Q _=>∃ c n ds,∃ i:Nat,∃ d,vs=[.ref c,.str d.name]/\fu t H c n ds/\ds[i]? = some d/\∀ a,eF t H a d->Q (.ref a) H
theorem agM:cv P base T 1 t.w4 t.Bu xK (Qw t):=by
 exists T.Nf.ok IY,9
 obtain ⟨c,ar,n,wl,ds,rfl,aw,fK,fv,gx,bE,q⟩:=h;have bq:=g7 ak;refine ⟨_,(aR (eS (U 0) (U 1) rfl)
   (aR (eS (U 0) (U 2) rfl)
   (aR (eS (U 0) zU rfl)
   (a5 (be fm rfl (xf rfl T.za (ai (U 2) aE)) (ly (K:=K) (n:=2) rfl rfl (lc (cz (i:=3) IY.aG) (lc (cz (i:=4) IY.aG) k4))) (a5 (tW bq (bG (U 0) rfl) (bG (U 4) rfl) (U 3) rfl))))))),?_⟩
 nofun;refine ⟨_,_,_,aw,T.hU,T.Oi,by decide,?_⟩;refine ⟨_,_,_,db,T.hU,T.OC,gH (n:=999) (by decide),fun aG aT=>?_⟩;simp only [qY] at aT ⊢;rw [show c2 (aa "places") (V.int n) ([]:List (Str × V))=[(aa "places",V.int n)] from rfl,show c2 (aa "ways") (V.ref wl) [(aa "places",V.int n)]=[(aa "places",V.int n),(aa "ways",V.ref wl)] from f3 [aa "places"] rfl (by ac_nf)] at aT ⊢;have yt:c ≠ aG:=fun z=>by subst z;rw [db] at aT;cases aT
 refine ⟨t.ho,ar,[(aa "places",V.int n),(aa "ways",V.ref wl)],by rw [aF yt];exact db,T.hU,T.JS,show (2:Nat) < 1000 by decide,?_⟩;rw [show c2 (aa "numbers") (V.ref aG) [(aa "places",V.int n),(aa "ways",V.ref wl)]=nF n wl aG from f3 [aa "places",aa "ways"] rfl (by ac_nf)];obtain ⟨as,dk,dZ,al⟩:=fK;have KJ:H aG=none:=by rw [aF (eg yt)] at aT;exact aT
 have jZ:cU c H (upd (upd (upd H c (.ins t.ho ar [(aa "places",V.int n),(aa "ways",V.ref wl)])) aG (.bw [])) c (.ins t.ho ar (nF n wl aG))):=fun b u ae e=>by
  rw [aF ae,aF (dB e KJ),aF ae];exact e
 have C3:wl ≠ c:=b8 dk aw (by intro z;cases z);refine ⟨⟨_,aD.of (jZ _ _ C3 dk)⟩,?_⟩;refine dP.enum (xs:=as.map V.ref) (fun i σ I=>(∃ x y,σ=[some (V.ref c),some (V.int n),some (V.ref wl),x,y])/\I c=some (.ins t.ho ar (nF n wl aG))/\I aG=some (.bw (l5 ds i))/\cU c H I/\aP I) ?_ ?_ ?_ ?_
 .exact ⟨⟨_,_,rfl⟩,db,by rw [aF (eg yt),db];rfl,jZ,((bE.upd).upd).upd⟩
 .rintro i σ I ah bh;ac_rfl
  obtain ⟨_,_,_,qg,_⟩:=bh;subst aJ;exact aD.of (qg _ _ C3 dk)
 .rintro i v σ I p aK ⟨⟨x,y,rfl⟩,af,ao,qg,m3⟩ av;obtain ⟨a,aX,rfl⟩:=cA aK;obtain ⟨ah,_⟩:=b6.mp aX;have k8:i < ds.length:=by omega
  have hd:ds[i]? = some ds[i]:=a' k8;have iQ:eF t H a ds[i]:=al i a _ aX hd;have Dz:a ≠ c:=by
   obtain ⟨_,g5,e⟩:=iQ;intro z;subst z;rw [aw] at e;have aI:=dh e;injection aI with _ _ bO;exact absurd (congrArg pT bO) (by show ¬ (0:Nat)=7;decide)
  have XJ:eF t I a ds[i]:=⟨iQ.1,iQ.2.imp fun g5 e=>qg _ _ Dz e⟩;have sp:ac I (upd I p (.tup [.int i,.ref a])):=bp av;refine Ao ?_;nofun;refine ⟨_,G4 T (sp _ _ af),_,(XJ.same sp).FW T,_,rfl,_,kv.k (k:=bc ds[i].name) (sp _ _ ao) (hp (show (l5 ds i).length <= 12 by unfold l5;rw [aU,tr];omega) (by decide)),?_⟩;rw [<- l1 hd,abU fv k8];refine ⟨⟨_,rfl⟩,?_,db,fun b u ae e=>?_,(m3.upd).upd⟩
  .rw [aF yt];exact sp _ _ af
  .rw [aF (dB e KJ)];exact sp _ _ (qg b u ae e)
 .rintro σ I bh;ac_rfl
  obtain ⟨⟨x,y,rfl⟩,af,ao,qg,m3⟩:=bh;subst aJ;nofun;rw [aU,dZ] at ao;refine q I qg m3 ⟨⟨fv,gx⟩,ar,wl,aG,af,⟨as,qg _ _ C3 dk,dZ,fun i a d a_ cL=>?_⟩,ao⟩;have iQ:=al i a d a_ cL;have Dz:a ≠ c:=by
   obtain ⟨_,g5,e⟩:=iQ;intro z;subst z;rw [aw] at e;have aI:=dh e;injection aI with _ _ bO;exact absurd (congrArg pT bO) (by show ¬ (0:Nat)=7;decide)
  exact ⟨iQ.1,iQ.2.imp fun g5 e=>qg _ _ Dz e⟩
theorem VR:cv P base T 1 t.z6 t.FY jf (agZ t):=by
 exists T.QQ.ok Wp,9
 obtain ⟨c,n,ds,i,d,rfl,⟨⟨fv,gx⟩,ar,wl,aG,au,aI,bO⟩,hd,q⟩:=h;have bq:=g7 ak;have aK:cu (l5 ds ds.length) (bc d.name)=some (.int i):=by
  rw [<- l1 hd];exact agY fv (b6.mp hd).1 (bW _)
 have bg:gb H aG (.str d.name) (some (.int i)):=by rw [<- aK];exact gb.k (k:=bc d.name) bO
 refine ⟨_,(aR (dI (QB (Pu bq (U 1) (bG (U 0) rfl))) (a5 nG) eh)
   (a5 (cj (kJ bq (bG (U 0) rfl) (U 1) (fun _ _=>rfl))))),?_⟩
 nofun;refine dy false (fun Q aV=>?_) (fun aw=>nomatch aw) (fun _=>?_)
 .nofun;refine ⟨_,G4 T au,_,rfl,_,bg,?_⟩;exact aV
 .nofun;exact ⟨_,G4 T au,_,rfl,_,bg,q⟩
theorem qG:cv P base T 2 t.we t.zZ jf (QV t):=by
 refine cG (VR T) fun Wr=>?_;exists T.OM.ok aex,9
 obtain ⟨c,n,ds,i,d,rfl,C,hd,q⟩:=h;obtain ⟨⟨fv,gx⟩,ar,wl,aG,au,⟨as,dk,dZ,al⟩,bO⟩:=id C;refine ⟨_,(a5 (cj (bX dE (bG (U 0) rfl) (e4 (U 0) T.hU T.Wg Wr ak T.XP .nil cO (ai (U 1) aE))))),?_⟩;nofun;refine ⟨_,Qi T au,_,_,au,kb _ _ _ (by ac_nf),⟨c,n,ds,i,d,rfl,C,hd,?_⟩⟩;have ah:i < as.length:=by rw [dZ];exact (b6.mp hd).1
 have aX:as[i]? = some as[i]:=a' ah;nofun;refine ⟨_,aD.of dk,_,cg (show (as.map V.ref)[i]? = some (V.ref as[i]) by rw [dm,aX];rfl),?_⟩;exact q as[i] (al i _ d aX hd)
theorem XN:cv P base T 7 t.BO t.x2 ["text"] (PR t):=by
 have E4:cH P w K mg base dz 6 t.vQ t.uX ["text"] (Ho t):=(Lq T).mono (by decide);have UG:cH P w K mg base dz 6 t.xr t.xO ["reader"] (ME t):=(adG T).mono (by decide);have adS:cH P w K mg base dz 6 t.Bo t.zp xI (KS t):=IN T;have XK:cH P w K mg base dz 5 t.w4 t.Bu xK (Qw t):=(agM T).mono (by decide);exists T.C1.ok uq,9
 obtain ⟨n,ds,rfl,dg,bE,kn⟩:=h;refine ⟨_,(aR (b2 (i:=1) uq.aG (cf E4 ak T.Po T.Bl.bK T.Nc (ai (U 0) aE)))
   (aR (b2 (i:=2) uq.aG (cf UG ak T.WS T.JC.bK T.FB (ai (bX dE (U 1) aL) aE)))
   (aR (b2 (i:=3) uq.aG (fg aE))
   (aR (be fm rfl (Gc (Tk M' (U 1) (q9 aL) io)) (cz (i:=4) uq.aG) (aR (dI (cP eo (fq g0 rfl T.gU gK (ai (U 3) aE)) (lz rfl T.acP T.Zv) (cm _)) (a5 nG) eh)
   (a5 (en (gk iM kO kT ks (U 3) (ai (cf adS ak T.adg T.Fw.bK T.agg (ai (U 4) (ai (U 2) (ai (U 3) aE)))) aE))))))
   (aR (dI (rv (yq (U 3) (fun _=>rfl))) (a5 nG) eh)
   (a5 (cj (ry T.TD XK ak rfl T.Zo T.aeY .nil cO (ai (U 2) (ai (U 3) aE)))))))))),?_⟩
 have sQ:=acO dg;have hlen:=adj dg;have LY:=dg.nn;have afS:=dg.ln;nofun;refine ⟨oo n ds,rfl,by omega,?_,bE,fun p H1 r6 jE R=>?_⟩
 .rw [sQ];intro r ak;refine ⟨?_,fun x ag=>c4 (dg.plain r ak x ag).1 (by decide)⟩;rcases fh.mp ak with rfl | ak
  .show (2:Nat) <= 1000;decide
  .obtain ⟨d,hd,rfl⟩:=cp.mp ak;show (7:Nat) <= 1000;decide
 rw [sQ] at R;obtain ⟨qs,av,hs,gO,rI⟩:=R;have JP:qs.length=ds.length + 1:=by rw [gO];simp [hW]
 obtain ⟨kZ,kF,rfl⟩:∃ kZ kF,qs=kZ :: kF:=by
  cases qs with
  | nil=>simp at JP
  | cons a b=>exact ⟨a,b,rfl⟩
 obtain ⟨x',px⟩:=rI 0 kZ _ rfl rfl;nofun;refine ⟨_,aD.of av,_,cg (j:=0) rfl,⟨kZ,_,n,rfl,x',LY,jE,fun az s2 pJ=>⟨fk _,fun wl gL=>?_⟩⟩⟩;obtain ⟨akp,alh,ai8,Tu⟩:=x'.ins;have U6:p ≠ kZ:=b8 av Tu (by intro z;cases z);have hc:az p=some (.lst ((kZ :: kF).map V.ref)):=s2 _ _ U6 av;have GK:ac az (upd az wl (.lst [])):=bp gL;have Iu:md ((kZ :: kF).map V.ref) (some 1) none=kF.map V.ref:=by
  unfold md;simp [fM.c9];exact Jz (by rw [aU];exact bW _)
 refine ⟨_,aD.of (GK _ _ hc),fun pc Cb=>?_⟩;rw [Iu];have iX:pc ≠ wl:=fun z=>by subst z;rw [db] at Cb;cases Cb
 have E2:ac (upd az wl (.lst [])) (upd (upd az wl (.lst [])) pc (.lst (kF.map V.ref))):=bp Cb;refine ⟨⟨_,aD.of db⟩,?_⟩;have Ra:ac H az:=uY r6 s2 px;have afA:kF.length=ds.length:=by simpa using JP
 refine dP.list (xs:=kF.map V.ref) (fun i σ I=>(∃ x,σ=[some (V.str (oo n ds)),some (V.ref p),some (V.int n),some (V.ref wl),x])/\aP I/\ac H I/\I pc=some (.lst (kF.map V.ref))/\H wl=none/\mz t I wl (ds.take i) /\
  ∀ (j:Nat) (q:Addr) (d:a0),i <= j->kF[j]? = some q->ds[j]? = some d->c7 t I q ((j + 1:Nat):Int) (mv d) 0/\H q=none) ?_ ?_ ?_ ?_
 .refine ⟨⟨_,rfl⟩,(pJ.upd).upd,(Ra.trans GK).trans E2,db,Ra.free gL,⟨[],E2 _ _ db,rfl,fun j a d h=>by simp at h⟩,fun j q d _ af ao=>?_⟩;have ak:(hW n ds)[j + 1]? = some (mv d):=by
   unfold hW;rw [A_,dm,ao];rfl
  obtain ⟨nT,eG⟩:=rI (j + 1) q _ (by rw [A_];exact af) ak;refine ⟨((nT.uT s2 (FM nT x' (by omega)) x'.ins).same GK).same E2,eG⟩
 .rintro i σ I ah bh;ac_rfl
  obtain ⟨_,_,_,h,_⟩:=bh;subst aJ;exact aD.of h
 .rintro i v σ I aK bh;ac_rfl
  obtain ⟨⟨x,rfl⟩,m3,n',IP,Ey,W,Rs⟩:=bh;obtain ⟨q,aN,rfl⟩:=cA aK;obtain ⟨ah,_⟩:=b6.mp aN;have k8:i < ds.length:=by omega
  have hd:ds[i]? = some ds[i]:=a' k8;obtain ⟨mP,iL⟩:=Rs i q _ (bW _) aN hd;have mf:(ds.take i).length=i:=by rw [hq];omega
  obtain ⟨as,dk,dZ,al⟩:=id W;subst aJ;nofun;refine dy false (fun Q aV=>?_) (fun aw=>nomatch aw) (fun _=>?_)
  .nofun;refine ⟨_,.inl (aD.of dk),?_⟩;rw [aU,dZ,mf];rw [decide_eq_false (by omega)] <;> exact aV
  .nofun;refine ⟨.inl ⟨_,aD.of dk⟩,?_⟩;refine ⟨q,_,n,wl,ds.take i,ds[i],rfl,mP,dg.al _ (jg k8),LY,W,by omega,fun e he z=>?_,m3,fun y bk s3 Gl hn RV=>?_⟩
   .obtain ⟨j,aO,rfl⟩:=C5 he;rw [List.getElem_take] at z;have fY:j < i:=by omega
    have:=r_ dg.aG (i:=j) (j:=i) (by omega) k8 (by rw [l1 (a' (by omega)),l1 hd];exact z);omega
   .nofun;obtain ⟨ai_,Ae,ai5,gM⟩:=mP.ins;have ais:wl ≠ q:=b8 dk gM (by intro z;cases z);have Fj:bk wl=some (.lst (as.map V.ref)):=s3 _ _ ais dk;have adY:ac H bk:=uY n' s3 iL;refine ⟨_,Fj,hp (show (as.map V.ref).length <= 12 by rw [aU];omega) (by decide),?_⟩;have aiq:y ≠ wl:=fun z=>by
     subst z;rw [dk] at RV;cases RV
    refine ⟨⟨_,rfl⟩,Gl.upd,fun b u e=>?_,?_,Ey,⟨as ++ [y],by rw [db,fz];rfl,?_,fun j a d af ao=>?_⟩,fun j ef d aO af ao=>?_⟩
    .rw [aF (dB e Ey)];exact adY _ _ e
    .rw [aF iX];exact s3 _ _ (b8 IP gM (by intro z;cases z)) IP
    .rw [c6,dZ,mf,hq];show i + 1=_;omega
    .by_cases aO:j < as.length
     .rw [gD aO] at af;have abb:(ds.take i)[j]? = some d:=by
       rw [sq (by omega)];rw [sq (by omega)] at ao;exact ao
      obtain ⟨aB,g5,e⟩:=al j a d af abb;have ab0:a ≠ q:=Q7 ⟨aB,g5,e⟩ mP;have ags:a ≠ wl:=b8 e dk (by intro z;cases z);exact ⟨aB,g5,by rw [aF ags];exact s3 _ _ ab0 e⟩
     .rw [i5 (by omega)] at af;have oG:j - as.length=0:=by
       cases eM:j - as.length with
       | zero=>rfl
       | succ m=>rw [eM] at af;simp at af
      rw [oG] at af;have bO:y=a:=by simpa using af
      subst bO;have eD:j=i:=by omega
      subst eD;rw [sq (by omega),hd] at ao;cases ao;exact ⟨hn.1,hn.2.imp fun g5 e=>by rw [aF aiq];exact e⟩
    .obtain ⟨nT,eG⟩:=Rs j ef d (by omega) af ao;have lO:=nT.uT s3 (FM nT mP (by omega)) mP.ins;refine ⟨?_,eG⟩;obtain ⟨aQ,g5,a9,au,aI⟩:=lO;refine ⟨aQ,g5,a9,by rw [aF (b8 au Fj (by intro z;cases z))];exact au,?_⟩;rw [aF (fun z=>by
      subst z;rw [Fj] at aI;have gh:=dh aI;injection gh with fi;cases as with
      | nil=>exact absurd (congrArg pT fi) (by show ¬ (0:Nat)=7;decide)
      | cons a r=>injection fi with h9 _;cases h9)]
     exact aI
 .rintro σ I bh;ac_rfl
  obtain ⟨⟨x,rfl⟩,m3,n',IP,Ey,W,Rs⟩:=bh;subst aJ;rw [aU,afA,iq] at W;obtain ⟨as,dk,dZ,al⟩:=id W;nofun;refine dy false (fun Q aV=>?_) (fun aw=>nomatch aw) (fun _=>?_)
  .nofun;refine ⟨true,.inl ⟨_,aD.of dk,?_⟩,aV⟩;cases as with
   | nil=>simp at dZ;omega
   | cons a r=>rfl
  .nofun;intro c ar aw vz b4;have sc:ac I (upd (upd I ar (.own c)) c (.ins t.ho ar [])):=((ac.refl I).fC vz).fC aw;refine ⟨c,ar,n,wl,ds,rfl,db,W.same sc,dg.aG,afS.2,(m3.upd).upd,fun dH s5 H6 F5=>⟨rfl,?_⟩⟩;exact kn c dH (uY (n'.trans sc) s5 (n'.free aw)) H6 F5
theorem Bz:cv P base T 1 t.uD t.AR ["self"] (Oo t):=by
 exists T.NO.ok aid,9
 obtain ⟨c,n,ds,rfl,⟨⟨fv,gx⟩,ar,wl,aG,au,⟨as,dk,dZ,al⟩,bO⟩,q⟩:=h;refine ⟨_,(a5 (cj (hE rfl (Gc (bG (U 0) rfl)) (gQ (sc:=bz E0) rfl (by ac_nf)) (N:=["way"]) (sel:=[none]) (gF (M:=["self"]) (by ac_nf)) (fy.of (fun _ _ _ _=>(cz (i:=0) (er (N:=["way"]) (by ac_nf) rfl))) (fun _ _ _ _=>⟨_,h4,by walk_at "B"⟩) (fun _ _ _ _=>⟨_,(bG (U 0) rfl),by walk_at "B"⟩))))),?_⟩;nofun;refine ⟨_,Qi T au,_,rfl,⟨_,aD.of dk⟩,?_⟩;refine da.lg (xs:=as.map V.ref) (zs:=aW (ds.map (·.name))) (aD.of dk) (by rw [aU,dZ];exact c4 gx (by decide)) (by rw [fo,aU,aU,dZ]) (fun i v z N aK gr bu=>?_) (fun p av=>q p av);obtain ⟨a,aX,rfl⟩:=cA aK;obtain ⟨x,ag,rfl⟩:=cA gr;obtain ⟨d,hd,rfl⟩:=cA ag;nofun;exact ⟨Sub.name,_,(al i a d aX hd).FW T,bu⟩
theorem zD {n s p:Int} (h0:0 <= s) (af:s < n) (ao:0 <= p) (a_:p < n):(p - s) % n=if s <= p then p - s else p - s + n:=by
 split
 .rename_i h;exact GZ (by omega) (by omega)
 .rename_i h;have e:(p - s) % n=(p - s + n) % n:=(Int.add_emod_right ..).symm;rw [e];exact GZ (by omega) (by omega)
noncomputable def j2 (n s f p:Int):Bool:=decide (0 < (p - s) % n) && decide ((p - s) % n < (f - s) % n)
noncomputable def rT (n s f s2 f2:Int):Bool:=decide (f=f2) || (if (s2=s\/s2=f)\/(f2=s\/f2=f) then false else (j2 n s f s2 != j2 n s f f2))
theorem Ad {s f p:Int} (af:p ≠ s) (ao:p ≠ f) (a_:s ≠ f):((decide (s < f) && decide (f < p) && !decide (s < p)) || (!decide (s < f) && !decide (f < p) && decide (s < p)))=false:=by
 by_cases a:s < f <;> by_cases b:f < p
 .rw [decide_eq_true a,decide_eq_true b,decide_eq_true (show s < p by omega)];rfl
 .rw [decide_eq_true a,decide_eq_false b];rfl
 .rw [decide_eq_false a,decide_eq_true b];rfl
 .rw [decide_eq_false a,decide_eq_false b,decide_eq_false (show ¬ s < p by omega)];rfl
theorem r9 {s p:Int} (h:s ≠ p):decide (p < s) = !decide (s < p):=by
 by_cases a:s < p
 .rw [decide_eq_true a,decide_eq_false (by omega)];rfl
 .rw [decide_eq_false a,decide_eq_true (by omega)];rfl
theorem A7 {n s f p:Int} (ax:0 <= s/\s < n) (hf:0 <= f/\f < n) (av:0 <= p/\p < n) (af:p ≠ s) (ao:p ≠ f) (a_:s ≠ f):j2 n s f p=((decide (s < p) && decide (p < f)) || (decide (p < f) && decide (f < s)) || (decide (f < s) && decide (s < p))):=by
 unfold j2;rw [zD ax.1 ax.2 av.1 av.2,zD ax.1 ax.2 hf.1 hf.2,decide_eq_true (show 0 < (if s <= p then p - s else p - s + n) by split <;> omega),kG,r9 a_];by_cases a:s < p <;> by_cases b:s < f
 .rw [if_pos (by omega),if_pos (by omega),decide_eq_true a,decide_eq_true b,show decide (p - s < f - s)=decide (p < f) from decide_eq_decide.mpr (by omega)];cases decide (p < f) <;> rfl
 .rw [if_pos (by omega),if_neg (by omega),decide_eq_true a,decide_eq_false b,decide_eq_true (show p - s < f - s + n by omega)];cases decide (p < f) <;> rfl
 .rw [if_neg (by omega),if_pos (by omega),decide_eq_false a,decide_eq_true b,decide_eq_false (show ¬ p - s + n < f - s by omega)];cases decide (p < f) <;> rfl
 .rw [if_neg (by omega),if_neg (by omega),decide_eq_false a,decide_eq_false b,show decide (p - s + n < f - s + n)=decide (p < f) from decide_eq_decide.mpr (by omega)];cases decide (p < f) <;> rfl
theorem ag':∀ a b c d e g:Bool,((a && d && !b) || (!a && !d && b))=false->((a && e && !c) || (!a && !e && c))=false->((b && g && !c) || (!b && !g && c))=false->((d && g && !e) || (!d && !g && e))=false ->
  (((b && !d) || (!d && !a) || (!a && b)) != ((c && !e) || (!e && !a) || (!a && c)))=(((!b && c) || (c && !g) || (!g && !b)) != ((!d && e) || (e && !g) || (!g && !d))):=by ac_nf
theorem abZ (ax:0 <= s/\s < n) (hf:0 <= f/\f < n) (kS:0 <= s2/\s2 < n) (Cg:0 <= f2/\f2 < n) (b4:s ≠ f) (vb:s2 ≠ f2):rT n s f s2 f2=rT n s2 f2 s f:=by
 unfold rT;by_cases e:f=f2
 .rw [decide_eq_true e,decide_eq_true e.symm];rfl
 .rw [decide_eq_false e,decide_eq_false (eg e)];by_cases c:(s2=s\/s2=f)\/(f2=s\/f2=f)
  .have c':(s=s2\/s=f2)\/(f=s2\/f=f2):=by omega
   rw [if_pos c,if_pos c']
  .have c':¬ ((s=s2\/s=f2)\/(f=s2\/f=f2)):=by omega
   rw [if_neg c,if_neg c'];have cw:s2 ≠ s:=by omega
   have cV:s2 ≠ f:=by omega
   have dK:f2 ≠ s:=by omega
   have dR:f2 ≠ f:=by omega
   rw [kX,kX,A7 ax hf kS cw cV b4,A7 ax hf Cg dK dR b4,A7 kS Cg ax cw.symm dK.symm vb,A7 kS Cg hf cV.symm dR.symm vb,r9 cw.symm,r9 cV.symm,r9 dR.symm,r9 b4,r9 vb];exact ag' _ _ _ _ _ _ (Ad cw cV b4) (Ad dK dR b4) (Ad dK vb.symm cw.symm) (Ad dR vb.symm cV.symm)
noncomputable abbrev mt (n:Int) (d e:a0):Bool:=rT n d.start d.fin e.start e.fin
def Rx (t:bR):bN:=fun vs H Q _=>∃ a d n p,vs=[.int n,.ref a,.int p]/\eF t H a d/\0 < n/\Q (.bl (j2 n d.start d.fin p)) H
noncomputable def uJ (n:Int) (d e:a0):Bool:=if (e.start=d.start\/e.start=d.fin)\/(e.fin=d.start\/e.fin=d.fin) then false else (j2 n d.start d.fin e.start != j2 n d.start d.fin e.fin)
def ab7 (t:bR):bN:=fun vs H Q _=>∃ a b d e n,vs=[.int n,.ref a,.ref b]/\eF t H a d/\eF t H b e/\0 < n/\aP H/\Q (.bl (uJ n d e)) H
def acb (t:bR):bN:=fun vs H Q _=>∃ a b d e n,vs=[.int n,.ref a,.ref b]/\eF t H a d/\eF t H b e/\0 < n/\∀ I,ac H I->Q (.bl (uJ n d e)) I
def LM (t:bR):bN:=fun vs H Q _=>∃ c n ds,∃ i j:Nat,∃ d e,vs=[.ref c,.str d.name,.str e.name]/\fu t H c n ds/\0 < n/\ds[i]? = some d/\ds[j]? = some e/\aP H/\Q (.bl (mt n d e)) H
theorem ain:cv P base T 1 t.Ps t.Os Ai (Rx t):=by
 exists T.yI.ok QN,9
 obtain ⟨a,d,n,p,rfl,W,aT,q⟩:=h;refine ⟨_,(aR (b2 (i:=3) QN.aG (bD i9 (bD jR (U 2) (bG (U 1) rfl)) (U 0)))
   (a5 (cj (wq (hj jd aL (U 3) (cm _)) (tZ (hj jd (U 3) (bD i9 (bD jR (bG (U 1) rfl) (bG (U 1) rfl)) (U 0)) (cm _))))))),?_⟩
 nofun;refine ⟨_,W.sz T,_,rfl,aT,?_⟩;unfold j2 at q;by_cases c:0 < (p - d.start) % n
 .rw [if_pos (decide_eq_true c)];rw [decide_eq_true c,kG] at q;exact ⟨_,W.ri T,_,W.sz T,_,rfl,_,rfl,aT,q⟩
 .rw [if_neg (by simpa using c)];rw [decide_eq_false c,k2] at q;exact q
theorem OQ (x a b:Int):pE (.int x) [.int a,.int b]=decide (x=a\/x=b):=by
 unfold pE;simp only [ui,List.any_nil,jF,SE];rw [kD];simp only [v5,beq_iff_eq,decide_eq_true_eq];omega
theorem aa7:cv P base T 2 t.IQ t.Ge ye (ab7 t):=by
 refine cH.forget (sp:=acb t) ?_ fun vs H Q E h=>?_
 .have RC:cH P w K mg base dz 1 t.Ps t.Os Ai (Rx t):=ain T;exists T.Gg.ok V',9
  obtain ⟨a,b,d,e,n,rfl,iQ,o2,aT,q⟩:=h;refine ⟨_,(aR (dI (fj.pt (p8 (cP Dw (bG (U 2) rfl) (fg (ai (bG (U 1) rfl) (ai (bG (U 1) rfl) aE))) (by with_unfolding_all rfl)) (rS (cP Dw (bG (U 2) rfl) (fg (ai (bG (U 1) rfl) (ai (bG (U 1) rfl) aE))) (by with_unfolding_all rfl))))) (a5 (cj iJ)) eh)
   (a5 (cj (hj sS (cf RC ak T.J4 T.yI.bK T.Pa (ai (U 0) (ai (U 1) (ai (bG (U 2) rfl) aE)))) (cf RC ak T.J4 T.yI.bK T.Pa (ai (U 0) (ai (U 1) (ai (bG (U 2) rfl) aE)))) (cm _))))),?_⟩
  nofun;refine Fm (fun b I=>ac H I/\b=decide ((e.start=d.start\/e.start=d.fin)\/(e.fin=d.start\/e.fin=d.fin))) (fun Q aV=>?_) (fun I ⟨bQ,ae⟩=>?_) (fun I ⟨bQ,ae⟩=>?_)
  .nofun;refine ⟨_,o2.sz T,_,iQ.sz T,_,iQ.ri T,by decide,fun p av=>⟨_,.inl (aD.of db),rfl,rfl,?_⟩⟩;have s1:ac H (upd H p (.lst [.int d.start,.int d.fin])):=bp av;rw [OQ];by_cases bB:e.start=d.start\/e.start=d.fin
   .rw [if_pos (decide_eq_true bB)];exact aV _ _ ⟨s1,(decide_eq_true (.inl bB)).symm⟩
   .rw [if_neg (by simpa using bB)];refine ⟨_,(o2.same s1).ri T,_,(iQ.same s1).sz T,_,(iQ.same s1).ri T,by decide,fun d6 hc=>⟨_,.inl (aD.of db),rfl,rfl,?_⟩⟩;rw [OQ];refine aV _ _ ⟨s1.trans (bp hc),?_⟩;rw [kD,decide_eq_true_eq,decide_eq_true_eq];exact ⟨.inr,fun z=>z.resolve_left bB⟩
  .nofun;have g9:=of_decide_eq_true ae.symm;have:=q I bQ;unfold uJ at this;rw [if_pos g9] at this;exact this
  .nofun;have g9:=of_decide_eq_false ae.symm;refine ⟨_,(o2.same bQ).sz T,⟨a,d,n,_,rfl,iQ.same bQ,aT,?_⟩⟩;refine ⟨_,(o2.same bQ).ri T,⟨a,d,n,_,rfl,iQ.same bQ,aT,?_⟩⟩;refine ⟨rfl,?_⟩;have:=q I bQ;unfold uJ at this;rw [if_neg g9] at this;rw [show (!decide (V.bl (j2 n d.start d.fin e.start)=V.bl (j2 n d.start d.fin e.fin)))=(j2 n d.start d.fin e.start != j2 n d.start d.fin e.fin) by
    cases j2 n d.start d.fin e.start <;> cases j2 n d.start d.fin e.fin <;> rfl]
   exact this
 .obtain ⟨a,b,d,e,n,af,ao,a_,cL,bE,q⟩:=h;exact ⟨bE,a,b,d,e,n,af,ao,a_,cL,fun I bQ=>⟨bQ,q⟩⟩
theorem aip (n:Int) (d e:a0):mt n d e=(decide (d.fin=e.fin) || uJ n d e):=rfl
theorem Ql:cv P base T 3 t.yb t.Bt p4 (LM t):=by
 refine cG (qG T) fun jW=>cG (aa7 T) fun Vu=>?_;exists T.yx.ok EK,9
 obtain ⟨c,n,ds,i,j,d,e,rfl,C,aT,hd,he,bE,q⟩:=h;obtain ⟨_,ar,wl,aG,au,aI,bO⟩:=id C;refine ⟨_,(aR (b2 (i:=3) EK.aG (e4 (U 0) T.hU T.nK jW ak T.nR .nil cO (ai (U 1) aE)))
   (aR (b2 (i:=4) EK.aG (e4 (U 0) T.hU T.nK jW ak T.nR .nil cO (ai (U 2) aE)))
   (a5 (cj (K4 (hj eo (bG (U 3) rfl) (bG (U 4) rfl) (cm _)) (tZ (cf Vu ak T.ahI T.Gg.bK T.Ua (ai (bG (U 0) rfl) (ai (U 3) (ai (U 4) aE)))))))))),?_⟩
 rw [aip] at q;nofun;refine ⟨_,_,au,kb _ _ _ (by ac_nf),⟨c,n,ds,i,d,rfl,C,hd,fun a iQ=>?_⟩⟩;nofun;refine ⟨_,_,au,kb _ _ _ (by ac_nf),⟨c,n,ds,j,e,rfl,C,he,fun b o2=>?_⟩⟩;nofun;refine ⟨_,iQ.ri T,_,o2.ri T,rfl,?_⟩;nofun;by_cases bB:d.fin=e.fin
 .rw [if_pos (decide_eq_true bB)];rw [decide_eq_true bB,q7] at q;exact q
 .rw [if_neg (by simpa using bB)];rw [decide_eq_false bB,kX] at q;exact ⟨_,XD T au,⟨a,b,d,e,n,rfl,iQ,o2,aT,bE,q⟩⟩
def OD (t:bR):bN:=fun vs H Q _=>∃ c n ds,∃ i j:Nat,∃ d e,vs=[.ref c,.str d.name,.str e.name]/\fu t H c n ds/\ds[i]? = some d/\ds[j]? = some e/\Q (.int (if d.off - e.near > 0 then d.off - e.near else 0)) H
theorem ag7:cv P base T 3 t.By t.Af p4 (OD t):=by
 refine cG (qG T) fun jW=>?_;exists T.Jy.ok JF,9
 obtain ⟨c,n,ds,i,j,d,e,rfl,C,hd,he,q⟩:=h;obtain ⟨_,ar,wl,aG,au,aI,bO⟩:=id C;refine ⟨_,(aR (b2 (i:=3) JF.aG (e4 (U 0) T.hU T.nK jW ak T.nR .nil cO (ai (U 1) aE)))
   (aR (b2 (i:=4) JF.aG (e4 (U 0) T.hU T.nK jW ak T.nR .nil cO (ai (U 2) aE)))
   (a5 (cj (fq (JI rfl) rfl T.Bi yo (ai aL (ai (bD jR (bG (U 3) rfl) (bG (U 4) rfl)) aE))))))),?_⟩
 nofun;refine ⟨_,_,au,kb _ _ _ (by ac_nf),⟨c,n,ds,i,d,rfl,C,hd,fun a iQ=>?_⟩⟩;nofun;refine ⟨_,_,au,kb _ _ _ (by ac_nf),⟨c,n,ds,j,e,rfl,C,he,fun b o2=>?_⟩⟩;nofun;refine ⟨_,iQ.Oa T,_,o2.agK T,?_⟩;nofun;exact q
theorem jC {α:Type} {xs:List α} {i:Nat} {x:α} (h:xs[i]? = some x):xs.take (i + 1)=xs.take i ++ [x]:=by
 rw [ov,h];rfl
structure ST where
 lo:Int
 ah:Int
 mem:List Str
noncomputable def B' (r:ST) (m:Addr):f6:=.tup [.int r.lo,.int r.ah,.ref m]
structure ic (H:aq) (p:Addr) (qs ms:List Addr) (rows:List ST):Prop where
 at_:H p=some (.lst (qs.map V.ref))
 cy:qs.length=rows.length
 c1:ms.length=rows.length
 al:∀ (i:Nat) (q m:Addr) (r:ST),qs[i]? = some q->ms[i]? = some m->rows[i]? = some r->H q=some (B' r m)/\H m=some (.lst (aW r.mem))
theorem ic.same {p:Addr} {rows:List ST} (h:ic H p qs ms rows) (s:ac H I):ic I p qs ms rows:=
 ⟨s _ _ h.at_,h.cy,h.c1,fun i q m r a b c=>⟨s _ _ (h.al i q m r a b c).1,s _ _ (h.al i q m r a b c).2⟩⟩
structure lB (H:aq) (p:Addr) (ms:List Addr) (de:List (List Str)):Prop where
 at_:H p=some (.lst (ms.map V.ref))
 ln:ms.length=de.length
 al:∀ (i:Nat) (m:Addr) (x:List Str),ms[i]? = some m->de[i]? = some x->H m=some (.lst (aW x))
theorem lB.same {p:Addr} (h:lB H p ms de) (s:ac H I):lB I p ms de:=
 ⟨s _ _ h.at_,h.ln,fun i m x a b=>s _ _ (h.al i m x a b)⟩
noncomputable def lU (i:Nat) (kvs:List (Key × V)) (ms:List Str):List (Key × V):=ms.foldl (fun kvs x=>d3 kvs (bc x) (.int i)) kvs
noncomputable def gJ (de:List (List Str)):List (Key × V):=de.zipIdx.foldl (fun kvs e=>lU e.2 kvs e.1) []
theorem Uc (kvs:List (Key × V)) (k:Key) (v:V):(d3 kvs k v).length <= kvs.length + 1:=by
 unfold d3;split
 .rw [aU];omega
 .rw [c6];exact bW _
theorem Sr (i:Nat) (kvs:List (Key × V)) (ms:List Str) (x:Str):lU i kvs (ms ++ [x])=d3 (lU i kvs ms) (bc x) (.int i):=by
 unfold lU;rw [JA];rfl
theorem ZB (de:List (List Str)) (ms:List Str):gJ (de ++ [ms])=lU de.length (gJ de) ms:=by
 unfold gJ;rw [List.zipIdx_append,JA];simp
theorem FG (i:Nat) (x:Str):∀ (ms:List Str) (kvs:List (Key × V)),cu (lU i kvs ms) (bc x)=if x ∈ ms then some (.int i) else cu kvs (bc x)
 | [],kvs=>by simp [lU]
 | y :: ms,kvs=>by
  show cu (lU i (d3 kvs (bc y) (.int i)) ms) (bc x)=_;rw [FG i x ms,MZ];by_cases c:x ∈ ms
  .rw [if_pos c,if_pos (hL _ c)]
  .rw [if_neg c];by_cases d:x=y
   .subst d;rw [if_pos rfl,if_pos (l4 ..)]
   .rw [if_neg (fun e=>d (rK e)),if_neg (fun e=>by
     rcases fh.mp e with e | e
     .exact d e
     .exact c e)]
theorem H0 {de:List (List Str)} {i:Nat} {ms:List Str} (h:de[i]? = some ms):gJ (de.take (i + 1))=lU i (gJ (de.take i)) ms:=by
 rw [jC h,ZB,hq,ac' (nu (b6.mp h).1)]
theorem Rn {x:Str}:∀ (n:Nat) (de:List (List Str)),n <= de.length->((cu (gJ (de.take n)) (bc x)).isSome=true↔∃ ms ∈ de.take n,x ∈ ms)
 | 0,de,_=>by simp [gJ,cu]
 | n + 1,de,aT=>by
  have h:de[n]? = some de[n]:=a' (by omega);rw [H0 h,FG,jC h];have b9:=Rn (x:=x) n de (by omega);by_cases c:x ∈ de[n]
  .rw [if_pos c];exact ⟨fun _=>⟨_,iz _ (eC.mpr rfl),c⟩,fun _=>rfl⟩
  .rw [if_neg c,b9];constructor
   .rintro ⟨ms,af,ao⟩;exact ⟨ms,pg _ af,ao⟩
   .rintro ⟨ms,af,ao⟩;rcases f5.mp af with af | af
    .exact ⟨ms,af,ao⟩
    .rw [eC.mp af] at ao;exact absurd ao c
theorem y2 (p:Str->Bool):∀ xs:List Str,((xs.map fun x=>if p x=true then some (V.str x) else none).flatMap yM)=aW (xs.filter p)
 | []=>rfl
 | x :: xs=>by
  rw [eV,wY,y2 p xs];by_cases c:p x=true
  .rw [if_pos c,afy c];rfl
  .rw [if_neg c,aiu c];rfl
noncomputable def told (rows:List ST) (x:Str):Bool:=rows.any fun r=>r.mem.contains x
noncomputable def gE (ds:List a0) (rows:List ST):List Str:=(ds.map (·.name)).filter fun x=>!told rows x
theorem Nr (rows:List ST) (x:Str):(cu (gJ (rows.map (·.mem))) (bc x)).isSome=told rows x:=by
 rw [kD];have:=Rn (x:=x) (rows.map (·.mem)).length (rows.map (·.mem)) (bW _);rw [iq] at this;rw [this];unfold told;rw [p6];constructor
 .rintro ⟨ms,af,ao⟩;obtain ⟨r,ak,rfl⟩:=cp.mp af;exact ⟨r,ak,by simpa using ao⟩
 .rintro ⟨r,ak,h⟩;exact ⟨_,cp.mpr ⟨r,ak,rfl⟩,by simpa using h⟩
noncomputable def hZ (d:a0):Str:=if d.k=2 then aa "trams" else aa "others"
def XW (t:bR):bN:=fun vs H Q _=>∃ c n ds,∃ i:Nat,∃ d,vs=[.ref c,.str d.name]/\fu t H c n ds/\ds[i]? = some d/\d.k < 3/\Q (.str (hZ d)) H
def WZ:bN:=fun vs H Q _=>∃ p ms de,vs=[.ref p]/\lB H p ms de/\de.length <= 6/\(∀ x ∈ de,x.length <= 12)/\∀ h I,ac H I->(aP H->aP I)->H h=none->I h=some (.bw (gJ de))->Q (.ref h) I
def T_ (t:bR):bN:=fun vs H Q _=>∃ c n ds p qs ms rows,vs=[.ref c,.ref p]/\fu t H c n ds/\ic H p qs ms rows/\rows.length <= 6/\(∀ r ∈ rows,r.mem.length <= 12)/\∀ l I,ac H I->(aP H->aP I)->H l=none->I l=some (.lst (aW (gE ds rows)))->Q (.ref l) I
theorem Sy:cv P base T 3 t.im t.C8 zi (XW t):=by
 refine cG (qG T) fun jW=>?_;exists T.vn.ok agS,9
 obtain ⟨c,n,ds,i,d,rfl,C,hd,aB,q⟩:=h;obtain ⟨_,ar,wl,aG,au,_,_⟩:=id C;refine ⟨_,(a5 (cj (tE (cP eo (bG (e4 (U 0) T.hU T.nK jW ak T.nR .nil cO (ai (U 1) aE)) rfl) cD (cm _)) cD cD))),?_⟩;nofun;refine ⟨_,_,au,kb _ _ _ (by ac_nf),c,n,ds,i,d,rfl,C,hd,fun a W=>⟨a,rfl,_,W.ael T,rfl,?_⟩⟩;unfold hZ at q;have ae5:∀ k,k < 3->decide (V.str (dC k)=V.str (aa "tram"))=decide (k=2):=by ac_nf
 rw [ae5 d.k aB];by_cases bT:d.k=2
 .rw [if_pos (decide_eq_true bT)];rw [if_pos bT] at q;exact q
 .rw [if_neg (by simpa using bT)];rw [if_neg bT] at q;exact q
theorem Jd:cv P base T 1 t.DZ t.Gp ["members"] WZ:=by
 exists T.vo.ok ua,9
 obtain ⟨p,ms,de,rfl,M,l_,Aq,q⟩:=h;have bq:=g7 ak;refine ⟨_,(aR (b2 (i:=1) ua.aG zU)
   (aR (be fm rfl (xf rfl T.za (ai (U 0) aE)) (ly (K:=K) (n:=2) rfl rfl (lc (cz (i:=2) ua.aG) (lc (cz (i:=3) ua.aG) k4))) (a5 (be fm rfl (Gc (U 3)) (cz (i:=4) ua.aG) (a5 (tW bq (U 1) (U 4) (U 2) rfl)))))
   (a5 (cj (U 1))))),?_⟩
 nofun;intro h eM;have s0:ac H (upd H h (.bw [])):=bp eM;refine ⟨⟨_,aD.of (s0 _ _ M.at_)⟩,?_⟩;refine dP.enum (xs:=ms.map V.ref) (fun i σ I=>(∃ x y z,σ=[~~~p,~~~h,x,y,z])/\ac H I/\(aP H->aP I)/\I h=some (.bw (gJ (de.take i)))/\(gJ (de.take i)).length <= 12 * i) ?_ ?_ ?_ ?_
 .exact ⟨⟨_,_,_,rfl⟩,s0,fun n=>n.upd,by rw [o5];exact db,by rw [o5];simp [gJ]⟩
 .rintro i σ I ah ⟨_,s1,_⟩;exact aD.of (s1 _ _ M.at_)
 .rintro i v σ I iT aK ⟨⟨x,y,z,rfl⟩,s1,cw,af,Jn⟩ nc;obtain ⟨m,hm,rfl⟩:=cA aK;have xV:i < de.length:=by rw [<- M.ln];exact (b6.mp hm).1
  have va:de[i]? = some de[i]:=a' xV;have em:=M.al i m _ hm va;have iF:=Aq _ (cB va);have s2:ac I (upd I iT (.tup [.int i,.ref m])):=bp nc;refine Ao ?_;nofun;have Q0:=s2 _ _ (s1 _ _ em);have ao:=s2 _ _ af;have nb:aP H->aP (upd I iT (.tup [.int i,.ref m])):=fun n=>(cw n).upd
  have M3:=s1.trans s2;generalize upd I iT (.tup [.int i,.ref m])=eZ at Q0 ao nb M3 s2 ⊢;refine ⟨⟨_,aD.of Q0⟩,?_⟩;refine dP.list (xs:=aW de[i]) (fun j σ az=>(∃ z,σ=[~~~p,~~~h,some (.int (i:Nat)),~~~m,z])/\ac H az/\(aP H->aP az)/\az h=some (.bw (lU i (gJ (de.take i)) (de[i].take j)))/\(lU i (gJ (de.take i)) (de[i].take j)).length <= 12 * i + j) ?_ ?_ ?_ ?_
  .exact ⟨⟨_,rfl⟩,M3,nb,by rw [o5];exact ao,by rw [o5];exact Jn⟩
  .rintro j σ az aO ⟨_,s3,_⟩;exact aD.of (s3 _ _ em)
  .rintro j v σ az aK bh;ac_rfl
   obtain ⟨⟨z,rfl⟩,s3,dK,a_,Kk⟩:=bh;subst aJ;unfold aW at aK;obtain ⟨x,ag,rfl⟩:=cA aK;have aO:j < de[i].length:=(b6.mp ag).1;have cY:=Uc (lU i (gJ (de.take i)) (de[i].take j)) (bc x) (.int i);nofun;refine ⟨_,kv.k (k:=bc x) a_ (hp (show _ <= 1000 by omega) (by decide)),⟨_,rfl⟩,s3.fC eM,fun n=>(dK n).upd,?_,?_⟩
   .rw [db,jC ag,Sr]
   .rw [jC ag,Sr];omega
  .rintro σ az bh;ac_rfl
   obtain ⟨⟨z,rfl⟩,s3,dK,a_,Kk⟩:=bh;subst aJ;rw [fo,iq,<- H0 va] at a_ Kk;exact ⟨⟨_,_,_,rfl⟩,s3,dK,a_,by omega⟩
 .rintro σ I bh;ac_rfl
  obtain ⟨⟨x,y,z,rfl⟩,s1,cw,af,_⟩:=bh;subst aJ;rw [aU,M.ln,iq] at af;nofun;exact q h I s1 cw eM af
theorem Ru:cv P base T 2 t.HX t.Fs j7 (T_ t):=by
 refine cG (Jd T) fun wG=>cG (Bz T) fun rb=>?_;exists T.zo.ok Qv,9
 obtain ⟨c,n,ds,p,qs,ms,rows,rfl,C,R,fp,tf,q⟩:=h;have bq:=g7 ak;obtain ⟨⟨_,gx⟩,ar,wl,aG,au,_,_⟩:=id C;refine ⟨_,(aR (pA (i:=2) Qv.aG rfl (mM rfl) (cf wG ak T.CR T.vo.bK T.cr (ai (hE rfl (Gc (U 1)) (gQ (sc:=bz zk) rfl (by ac_nf)) (N:=iu) (sel:=[none,none,none]) (gF (M:=EM) (by ac_nf)) (fy.of (fun _ _ _ _=>(ly (K:=K) (n:=3) rfl rfl (lc (cz (i:=0) (er (N:=iu) (by ac_nf) rfl)) (lc (cz (i:=1) (er (N:=iu) (by ac_nf) rfl)) (lc (cz (i:=2) (er (N:=iu) (by ac_nf) rfl)) k4))))) (fun _ _ _ _=>⟨_,h4,by walk_at "B"⟩) (fun _ _ _ _=>⟨_,(U 2),by walk_at "B"⟩))) aE)))
   (a5 (cj (hE rfl (Gc (jj (U 0) T.hU T.yN rb ak T.A2 .nil cO)) (gQ (sc:=bz zk) rfl (by ac_nf)) (N:=["name","told"]) (sel:=[none,some 2]) (gF (M:=EM) (by ac_nf)) (fy.of (fun _ _ _ _=>(cz (i:=0) (er (N:=["name","told"]) (by ac_nf) rfl))) (fun _ _ _ _=>⟨_,(uZ (QB (Pu bq (U 0) (U 1)))),by walk_at "B"⟩) (fun _ _ _ _=>⟨_,(U 0),by walk_at "B"⟩)))))),?_⟩
 simp only [dN];nofun;have iL:(qs.map V.ref).length=rows.length:=by rw [aU,R.cy]
 refine ⟨⟨_,aD.of R.at_⟩,?_⟩;refine da.lg (xs:=qs.map V.ref) (zs:=ms.map V.ref) (aD.of R.at_) (by rw [iL];exact c4 fp (by decide)) (by rw [iL,aU,R.c1]) (fun j v z N aK aQ bu=>?_) (fun pm qP=>?_)
 .obtain ⟨jK,eG,rfl⟩:=cA aK;obtain ⟨D',kg,rfl⟩:=cA aQ;have aO:j < rows.length:=by rw [<- R.cy];exact (b6.mp eG).1
  have e:=(R.al j jK D' _ eG kg (a' aO)).1;nofun;exact ⟨_,cM.of e,rfl,_,_,rfl,_,_,rfl,_,_,rfl,rfl,Sub.t4,bu⟩
 .have sp:ac H (upd H pm (.lst (ms.map V.ref))):=bp qP;have np:aP H->aP (upd H pm (.lst (ms.map V.ref))):=fun n=>n.upd
  have cF:(upd H pm (.lst (ms.map V.ref))) pm=some (.lst (ms.map V.ref)):=db;generalize upd H pm (.lst (ms.map V.ref))=eZ at sp np cF ⊢;refine ⟨pm,ms,rows.map (·.mem),rfl,⟨cF,by rw [R.c1,aU],fun i m x hm ag=>?_⟩,by rw [aU];exact fp,fun x ag=>?_,fun h H1 s1 cw eM af=>?_⟩
  .obtain ⟨r,eP,rfl⟩:=cA ag;have gM:qs[i]? = some (qs[i]'(by rw [R.cy];exact (b6.mp eP).1)):=a' _;exact sp _ _ (R.al i _ m r gM hm eP).2
  .obtain ⟨r,eP,rfl⟩:=cp.mp ag;exact tf r eP
  .have m1:=sp.trans s1;have wQ:=C.same m1;refine ⟨_,_,m1 _ _ au,kb _ _ _ (by ac_nf),c,n,ds,rfl,wQ,fun d7 jJ=>⟨d7,rfl,⟨_,aD.of db⟩,?_⟩⟩;have sB:=m1.trans (bp (o:=.lst (aW (ds.map (·.name)))) jJ);have ao:=(bp (o:=.lst (aW (ds.map (·.name)))) jJ) _ _ af;have km:aP H->aP (upd H1 d7 (.lst (aW (ds.map (·.name))))):=fun n=>(cw (np n)).upd
   have pC:(upd H1 d7 (.lst (aW (ds.map (·.name))))) d7=some (.lst (aW (ds.map (·.name)))):=db;generalize upd H1 d7 (.lst (aW (ds.map (·.name))))=ky at sB ao km pC ⊢;refine da.u1 (xs:=aW (ds.map (·.name))) (ss:=(ds.map (·.name)).map fun x=>if (!told rows x)=true then some (V.str x) else none) (aD.of pC) (by rw [fo,aU];exact c4 gx (by decide)) (by rw [fo,aU]) (fun i v o ys N aK aS bu=>?_) (fun l aM=>?_)
   .unfold aW at aK;obtain ⟨x,ag,rfl⟩:=cA aK;obtain ⟨fO,ey,rfl⟩:=cA aS;rw [ag] at ey;cases ey;have bg:gb ky h (.str x) (cu (gJ (rows.map (·.mem))) (bc x)):=gb.k (k:=bc x) ao;have cS:=Nr rows x;nofun;refine ⟨Sub.name,_,bg,?_⟩;rw [cS];by_cases b_:(!told rows x)=true
    .rw [if_pos b_];rw [if_pos b_] at bu;exact bu
    .rw [if_neg b_];rw [if_neg b_] at bu;simpa using bu
   .rw [y2];exact q l _ (sB.trans (bp aM)) (fun n=>(km n).upd) (sB.free aM) db
noncomputable def ud (ds:List a0) (left:List Str) (f:Str):List Str:=left.filter fun x=>decide ((h6 ds x).map hZ=(h6 ds f).map hZ)
noncomputable def dL (alike:List Str):List Str->Nat->List Str->Except Nat (List Str)
 | [],_,ms=>.ok ms
 | x :: r,j,ms=>if x ∈ alike/\x ∉ ms then dL alike r (j + 1) (ms ++ [x]) else .error j
noncomputable def lp (ds:List a0) (left ws:List Str):Except Nat (List Str):=if aC ws 3 ∈ left then dL (ud ds left (aC ws 3)) (ws.drop 4) 4 [aC ws 3] else .error 3
noncomputable def pp (ds:List a0) (rows:List ST) (ws:List Str):Except Nat ST:=if aC ws 0 ∈ [aa "stage"] then
 (kd (aC ws 1) 1 60).elim (.error 1) fun lo=>(kd (aC ws 2) lo 60).elim (.error 2) fun ah=>match lp ds (gE ds rows) ws with
  | .error k=>.error k
  | .ok ms=>.ok ⟨lo,ah,ms⟩ else .error 0
theorem KF:∀ {r:List Str} {j:Nat} {ms oD:List Str},dL alike r j ms=.ok oD->ms.Nodup->oD.Nodup/\(∃ more,oD=ms ++ more)/\∀ x ∈ oD,x ∈ ms\/x ∈ alike
 | [],j,ms,oD,h,aG=>by
  have h:pF ms=pF (ε:=Nat) oD:=h;cases h;exact ⟨aG,⟨[],by simp⟩,fun x ag=>.inl ag⟩
 | y :: r,j,ms,oD,h,aG=>by
  unfold dL at h;split at h
  .rename_i c;obtain ⟨af,⟨more,ao⟩,a_⟩:=KF h (CN.mpr ⟨aG,by simp,fun a aX b ae e=>by
    rw [eC.mp ae] at e;rw [e] at aX;exact c.2 aX⟩)
   refine ⟨af,⟨y :: more,by rw [ao,o8];rfl⟩,fun x ag=>?_⟩;rcases a_ x ag with z | z
   .rcases f5.mp z with z | z
    .exact .inl z
    .rw [eC.mp z];exact .inr c.1
   .exact .inr z
  .cases h
def ZM (t:bR):bN:=fun vs H Q _=>∃ q row ws c n ds l left ms,vs=[.ref q,.ref c,.ref l]/\c7 t H q row ws 3/\fu t H c n ds/\(∀ d ∈ ds,d.k < 3/\d.name ≠ aa "")/\H l=some (.lst (aW left))/\left.length <= 12/\(∀ x ∈ left,∃ d ∈ ds,d.name=x)/\aP H/\lp ds left ws=.ok ms /\
 ∀ m I,cU q H I->aP I->(∃ u,I q=some u)->I m=some (.lst (aW ms))->H m=none->Q (.ref m) I
def RD (t:bR):bN:=fun vs H Q _=>∃ q row ws c n ds p qs ms rows s,vs=[.ref q,.ref c,.ref p]/\c7 t H q row ws 0/\fu t H c n ds/\(∀ d ∈ ds,d.k < 3/\d.name ≠ aa "")/\ic H p qs ms rows/\rows.length <= 6/\(∀ r ∈ rows,r.mem.length <= 12)/\aP H/\pp ds rows ws=.ok s /\
 ∀ x m I,cU q H I->aP I->I x=some (B' s m)->I m=some (.lst (aW s.mem))->H x=none->H m=none->Q (.ref x) I
theorem iN {ds:List a0} (aG:(ds.map (·.name)).Nodup) {i:Nat} {d:a0} (h:ds[i]? = some d):h6 ds d.name=some d:=by
 unfold h6;cases e:ds.find? fun x=>decide (x.name=d.name) with
 | none=>
  have:=Xg.mp e d (cB h);simp at this
 | some x=>
  have af:x.name=d.name:=by simpa using List.find?_some e
  obtain ⟨j,aO⟩:=jv (List.mem_of_find?_eq_some e);have:=r_ aG (b6.mp aO).1 (b6.mp h).1 (by rw [l1 aO,l1 h,af]);subst this;rw [aO] at h;exact h
theorem fu.vq {t:bR} {k:Nat} (h:fu t H c n ds) (s:cU q H I) (R:c7 t H q row ws k):fu t I c n ds:=by
 obtain ⟨h0,g5,wl,aG,au,⟨as,dk,dZ,al⟩,bO⟩:=h;obtain ⟨_,Ae,a9,f1,f2⟩:=id R;refine ⟨h0,g5,wl,aG,s _ _ (fun z=>?_) au,⟨as,s _ _ (b8 dk f1 (by intro z;cases z)) dk,dZ,fun i b d ae hd=>?_⟩,s _ _ (b8 bO f1 (by intro z;cases z)) bO⟩
 .subst z;rw [au] at f1;have e:=dh f1;injection e with _ _ eD;unfold nF lM at eD;injection eD with gh _;injection gh with fi _;exact absurd fi (by ac_nf)
 .have W:=al i b d ae hd;have aT:=Q7 W R;exact ⟨W.1,W.2.imp fun ar e=>s _ _ aT e⟩
theorem afG (h:j < ws.length):ws.drop j=aC ws j :: ws.drop (j + 1):=by
 rw [q8 h];unfold aC;rw [iV,a' h];rfl
theorem ic.vq {t:bR} {q p:Addr} {rows:List ST} {k:Nat} (h:ic H p qs ms rows) (s:cU q H I) (R:c7 t H q row ws k):ic I p qs ms rows:=by
 obtain ⟨_,Ae,a9,f1,f2⟩:=id R;refine ⟨s _ _ (b8 h.at_ f1 (by intro z;cases z)) h.at_,h.cy,h.c1,fun i q m r a b c=>?_⟩;obtain ⟨au,aI⟩:=h.al i q m r a b c;exact ⟨s _ _ (b8 au f1 (by intro z;cases z)) au,s _ _ (b8 aI f1 (by intro z;cases z)) aI⟩
theorem ad1:cv P base T 4 t.JB t.CF CG (ZM t):=by
 refine cG (Ac T) fun pn=>cG (Qz T) fun B3=>cG (Sy T) fun xt=>?_;exists T.EJ.ok x5,9
 obtain ⟨q,row,ws,c,n,ds,l,left,Og,rfl,R,C,aB,aM,zO,L7,bE,cK,kn⟩:=h;refine ⟨_,(aR (pA (i:=3) x5.aG rfl (mM rfl) (e4 (U 0) T.fF T.vE pn ak T.wU .nil cO (ai (U 2) aE)))
   (aR (pA (i:=4) x5.aG rfl (mM rfl) (fg (ai (U 3) aE)))
   (aR (CY (i:=5) x5.aG rfl (oQ rfl) rfl (Gc (U 2)) (gQ (sc:=bz yS) rfl (by ac_nf)) (N:=["name","crossing","first"]) (sel:=[none,some 1,some 3]) (gF (M:=Di) (by ac_nf)) (fy.of (fun _ _ _ _=>(cz (i:=0) (er (N:=["name","crossing","first"]) (by ac_nf) rfl))) (fun _ _ _ _=>⟨_,(uZ (cP eo (cf xt ak T.Eh T.vn.bK T.EO (ai (U 1) (ai (U 0) aE))) (cf xt ak T.Eh T.vn.bK T.EO (ai (U 1) (ai (U 2) aE))) (cm _))),by walk_at "B"⟩) (fun _ _ _ _=>⟨_,(U 0),by walk_at "B"⟩)) rfl)
   (aR (U5 fm (ki (jj (U 0) T.fF T.Ow B3 ak T.RU .nil cO)) (a5 (en (gk iM kO kT ks (U 4) (ai (e4 (U 0) T.fF T.vE pn ak T.wU .nil cO (ai (hE rfl (Gc (U 5)) (gQ (sc:=bz yS) rfl (by ac_nf)) (N:=["name","members"]) (sel:=[none,some 4]) (gF (M:=Di) (by ac_nf)) (fy.of (fun _ _ _ _=>(cz (i:=0) (er (N:=["name","members"]) (by ac_nf) rfl))) (fun _ _ _ _=>⟨_,(uZ (cP x9 (U 0) (U 1) (by with_unfolding_all rfl))),by walk_at "B"⟩) (fun _ _ _ _=>⟨_,(U 0),by walk_at "B"⟩))) aE)) aE)))))
   (a5 (cj (U 4))))))),?_⟩
 obtain ⟨aQ,ar,a9,au,aI⟩:=id R;unfold lp at cK;split at cK
 case isFalse=>cases cK
 rename_i gw;obtain ⟨jY,q',oq⟩:=L7 _ gw;have Wl:4 <= ws.length:=Hb (k:=3) (by rw [<- oq];exact (aB jY q').2);nofun;refine ⟨_,_,au,c7.no _ _ _ (by ac_nf),⟨q,row,ws,3,_,l,left,rfl,R,wF (by omega),aD.of aM,gw,fun H1 s1 cw jL=>?_⟩⟩;have jE:=cw bE;have wQ:=C.vq s1 R;have Jn:H1 l=some (.lst (aW left)):=s1 _ _ (b8 aM au (by intro z;cases z)) aM;generalize hf:aC ws 3=f0 at cK gw oq ⊢;obtain ⟨z1,JO⟩:=jv q';nofun;refine ⟨by decide,fun f9 l_=>?_⟩;obtain ⟨Ig,KR,L4,f1,f2⟩:=id jL;have LR:H f9=none:=by
  cases e:H f9 with
  | none=>rfl
  | some u=>
   by_cases z:f9=q
   .rw [z,f1] at l_;cases l_
   .rw [s1 _ _ z e] at l_;cases l_
 have sB:ac H1 (upd H1 f9 (.lst [V.str f0])):=bp l_;have Fc:(upd H1 f9 (.lst [V.str f0])) f9=some (.lst [V.str f0]):=db;have km:aP (upd H1 f9 (.lst [V.str f0])):=jE.upd;generalize upd H1 f9 (.lst [V.str f0])=ky at sB Fc km ⊢;have K':=wQ.same sB;have J5:=sB _ _ Jn;have fv:=C.1.1;refine ⟨⟨_,aD.of J5⟩,?_⟩;refine da.u1 (xs:=aW left) (ss:=left.map fun x=>if decide ((h6 ds x).map hZ=(h6 ds f0).map hZ)=true then some (V.str x) else none) (aD.of J5) (by rw [fo];exact c4 zO (by decide)) (by rw [fo,aU]) (fun i v o ys N aK aS bu=>?_) (fun al r3=>?_)
 .unfold aW at aK;obtain ⟨x,ag,rfl⟩:=cA aK;obtain ⟨fO,ey,rfl⟩:=cA aS;rw [ag] at ey;cases ey;obtain ⟨dv,yL,rfl⟩:=L7 x (cB ag);obtain ⟨j,aO⟩:=jv yL;rw [<- oq,iN fv aO,iN fv JO] at bu;nofun;refine ⟨Sub.name,c,n,ds,j,dv,rfl,K',aO,(aB dv yL).1,c,n,ds,z1,jY,by rw [oq],K',JO,(aB jY q').1,rfl,?_⟩;by_cases b_:hZ dv=hZ jY
  .simp [b_] at bu ⊢;exact bu
  .simp [b_] at bu ⊢;exact bu
 rw [y2];rw [show left.filter (fun x=>decide ((h6 ds x).map hZ=(h6 ds f0).map hZ))=ud ds left f0 from rfl];have n9:(ud ds left f0).length <= 12:=by
  unfold ud;exact c4 (Aj ..) zO
 generalize ud ds left f0=alike at cK n9 ⊢;have jP:ac ky (upd ky al (.lst (aW alike))):=bp r3;have Kr:(upd ky al (.lst (aW alike))) al=some (.lst (aW alike)):=db;have Sw:aP (upd ky al (.lst (aW alike))):=km.upd;have abS:al ≠ f9:=fun z=>by rw [z,Fc] at r3;cases r3
 generalize upd ky al (.lst (aW alike))=I3 at jP Kr Sw ⊢;have aeH:cU q H I3:=s1.trans (cU.of (sB.trans jP));refine agO (fun σ I=>∃ ms:List Str,σ=[~~~q,~~~c,~~~l,some (.str f0),~~~f9,~~~al]/\cU q H I/\aP I/\c7 t I q row ws (3 + ms.length)/\I f9=some (.lst (aW ms))/\I al=some (.lst (aW alike))/\3 + ms.length <= ws.length/\dL alike (ws.drop (3 + ms.length)) (3 + ms.length) ms=.ok Og) (fun σ I=>match I f9 with | some (.lst xs)=>ws.length - xs.length | _=>0) ?_ ?_
 .exact ⟨[f0],rfl,aeH,Sw,jL.same (sB.trans jP),jP _ _ Fc,Kr,Wl,cK⟩
 rintro σ I bh;ac_rfl
 obtain ⟨ms,rfl,e',cV,eN,jl,a2,UY,fK⟩:=bh;obtain ⟨Kw,rp,IB,g1,g2⟩:=id eN;have M8:f9 ≠ q:=b8 jl g1 (by intro z;cases z);have aaE:al ≠ q:=b8 a2 g1 (by intro z;cases z);subst aJ;refine ⟨decide (3 + ms.length < ws.length),fun hS aV=>?_,fun je=>?_,fun je=>?_⟩
 .nofun;exact ⟨_,_,g1,c7.no _ _ _ (by ac_nf),⟨q,row,ws,_,rfl,eN,_,rfl,aV⟩⟩
 .have je:=of_decide_eq_true je;rw [afG je] at fK;unfold dL at fK;nofun;refine ⟨.inl ⟨_,aD.of jl⟩,?_⟩;refine ⟨_,_,g1,c7.no _ _ _ (by ac_nf),⟨_,aD.of a2⟩,?_⟩;refine da.u1 (xs:=aW alike) (ss:=alike.map fun x=>if (!decide (x ∈ ms))=true then some (V.str x) else none) (aD.of a2) (by rw [fo];exact c4 n9 (by decide)) (by rw [fo,aU]) (fun i v o ys N aK aS bu=>?_) (fun cl lh=>?_)
  .unfold aW at aK;obtain ⟨x,ag,rfl⟩:=cA aK;obtain ⟨fO,ey,rfl⟩:=cA aS;rw [ag] at ey;cases ey;nofun;refine ⟨Sub.name,_,.inl (aD.of jl),rfl,Aw ms,?_⟩;rw [Bb];by_cases b_:x ∈ ms
   .simp [b_] at bu ⊢;exact bu
   .simp [b_] at bu ⊢;exact bu
  rw [y2];have q1:ac I (upd I cl (.lst (aW (alike.filter fun x=>!decide (x ∈ ms))))):=bp lh;have ON:(upd I cl (.lst (aW (alike.filter fun x=>!decide (x ∈ ms))))) cl=some (.lst (aW (alike.filter fun x=>!decide (x ∈ ms)))):=db;have Md:aP (upd I cl (.lst (aW (alike.filter fun x=>!decide (x ∈ ms))))):=cV.upd;generalize upd I cl (.lst (aW (alike.filter fun x=>!decide (x ∈ ms))))=Qq at q1 ON Md ⊢;split at fK
  case isFalse=>cases fK
  rename_i aw;refine ⟨q,row,ws,3 + ms.length,_,cl,_,rfl,eN.same q1,wF je,aD.of ON,lT.mpr ⟨aw.1,by simpa using aw.2⟩,fun az s2 dK lO=>?_⟩
  .have sY:az f9=some (.lst (aW ms)):=s2 _ _ M8 (q1 _ _ jl);have eR:az al=some (.lst (aW alike)):=s2 _ _ aaE (q1 _ _ a2);obtain ⟨zh,GA,Q',cb,dQ⟩:=id lO;have rj:Q' ≠ f9:=fun z=>by
    rw [z,sY] at dQ;have e:=dh dQ;injection e with e;have:=congrArg pT e;rw [fo,fo] at this;omega
   refine ⟨_,sY,hp (show (aW ms).length <= 1000 by rw [fo];have:=zh.1;omega) (by decide),fun b u ae e=>?_,(dK Md).upd,⟨ms ++ [aC ws (3 + ms.length)],⟨zh,GA,Q',?_,?_⟩,?_,?_,?_,?_⟩,?_⟩
   .rw [aF (dB e LR)];exact s2 _ _ ae (q1 _ _ (e' _ _ ae e))
   .rw [aF (eg M8),c6];exact cb
   .rw [aF rj];exact dQ
   .rw [db];unfold aW;rw [fz];rfl
   .rw [aF abS];exact eR
   .rw [c6];show 3 + (ms.length + 1) <= _;omega
   .rw [c6];exact fK
   .rw [db,jl];show ws.length - (aW ms ++ [V.str (aC ws (3 + ms.length))]).length < ws.length - (aW ms).length;rw [c6,fo];show ws.length - (ms.length + 1) < _;omega
 .have je:=of_decide_eq_false je;rw [List.drop_of_length_le (by omega)] at fK;replace fK:(pF ms:Except Nat (List Str))=.ok Og:=fK;cases fK;nofun;exact kn f9 I e' cV ⟨_,g1⟩ jl LR
theorem YY:cv P base T 6 t.yv t.zE w6 (RD t):=by
 refine cG (Ac T) fun pn=>cG (xJ T) fun mB=>cG (ad1 T) fun ae_=>cG (Ru T) fun Dk=>?_;exists T.FL.ok I5,9
 obtain ⟨q,row,ws,c,n,ds,p,qs,ms,rows,k3,rfl,R,C,aB,hK,fp,tf,bE,cK,kn⟩:=h;refine ⟨_,(aR (en (e4 (U 0) T.fF T.vE pn ak T.wU .nil cO (ai (fg (ai cD aE)) aE)))
   (aR (b2 (i:=3) I5.aG (e4 (U 0) T.fF T.p7 mB ak T.pL .nil cO (ai aL (ai (lz rfl T.Sl T.N5) aE))))
   (aR (b2 (i:=4) I5.aG (e4 (U 0) T.fF T.p7 mB ak T.pL .nil cO (ai (U 3) (ai (lz rfl T.Sl T.N5) aE))))
   (a5 (cj (pz (ai (U 3) (ai (U 4) (ai (cf ae_ ak T.ab5 T.EJ.bK T.ZY (ai (U 0) (ai (U 1) (ai (cf Dk ak T.RS T.zo.bK T.QW (ai (U 1) (ai (U 2) aE))) aE)))) aE))))))))),?_⟩
 obtain ⟨_,ar,a9,au,aI⟩:=id R;unfold pp at cK;split at cK
 case isFalse=>cases cK
 rename_i gw;have cy:1 <= ws.length:=Hb (k:=0) (by rw [eC.mp gw];ac_nf);cases yV:kd (aC ws 1) 1 60 with
 | none=>rw [yV] at cK;cases cK
 | some lo=>
 have nX:iy (aC ws 1) 1 60=.int lo:=by rw [C6,yV];rfl
 rw [yV] at cK;replace cK:((kd (aC ws 2) lo 60).elim (.error 2) fun ah=>match lp ds (gE ds rows) ws with | .error k=>.error k | .ok ms=>.ok ⟨lo,ah,ms⟩:Except Nat ST)=.ok k3:=cK;cases Jg:kd (aC ws 2) lo 60 with
 | none=>rw [Jg] at cK;cases cK
 | some ah=>
 have F_:iy (aC ws 2) lo 60=.int ah:=by rw [C6,Jg];rfl
 rw [Jg] at cK;replace cK:(match lp ds (gE ds rows) ws with | .error k=>.error k | .ok ms=>.ok (⟨lo,ah,ms⟩:ST):Except Nat ST)=.ok k3:=cK;cases hm:lp ds (gE ds rows) ws with
 | error k=>rw [hm] at cK;cases cK
 | ok ag8=>
 rw [hm] at cK;cases cK;have c1:=(GH nX).1;nofun;refine ⟨_,_,au,c7.no _ _ _ (by ac_nf),by decide,fun nO hs=>?_⟩;have s0:ac H (upd H nO (.lst [V.str (aa "stage")])):=bp hs;refine ⟨q,row,ws,0,_,nO,[aa "stage"],rfl,R.same s0,wF cy,aD.of db,gw,fun H1 s1 cw jL=>?_⟩;obtain ⟨_,KR,L4,f1,f2⟩:=id jL;have jE:=cw bE.upd;have cT:cU q H H1:=(cU.of s0).trans s1;nofun;refine ⟨_,_,f1,c7.no _ _ _ (by ac_nf),⟨q,row,ws,1,_,1,60,lo,rfl,jL,wF c1,nX,jE,fun az s2 cV eN=>?_⟩⟩;have pJ:=cV jE;have e':cU q H az:=cT.trans s2;obtain ⟨_,rp,IB,g1,g2⟩:=id eN;nofun;refine ⟨_,_,g1,c7.no _ _ _ (by ac_nf),⟨q,row,ws,2,_,lo,60,ah,rfl,eN,wF (GH F_).1,F_,pJ,fun bk s3 dK lO=>?_⟩⟩;have Yd:=(GH F_).1;have Gl:=dK pJ;have fV:cU q H bk:=e'.trans s3;have se:=C.vq fV R;have YX:=hK.vq fV R;nofun;refine ⟨c,n,ds,p,qs,ms,rows,rfl,se,YX,fp,tf,fun l cJ s4 dR aM zw=>?_⟩;have dD:cU q H cJ:=fV.trans (cU.of s4);have Ex:=dR Gl;have rh:(gE ds rows).length <= 12:=by
  unfold gE;exact c4 (Aj ..) (by rw [aU];exact C.1.2)
 refine ⟨q,row,ws,c,n,ds,l,gE ds rows,ag8,rfl,lO.same s4,se.same s4,aB,zw,rh,fun x ag=>?_,Ex,hm,fun m dH s5 H6 Uu TG Il=>?_⟩
 .obtain ⟨d,hd,e⟩:=cp.mp (lT.mp ag).1;exact ⟨d,hd,e⟩
 obtain ⟨_,_,_,aaS,_⟩:=lO.same s4;nofun;refine ⟨by decide,fun x ag=>?_⟩;have back:∀ {y:Addr} {G:aq},cU q H G->G y=none->(∃ u,G q=some u)->H y=none:=fun {y G} jZ a7 ⟨u,bq⟩=>by
  cases e:H y with
  | none=>rfl
  | some v=>
   by_cases c:y=q
   .subst c;rw [bq] at a7;cases a7
   .rw [jZ _ _ c e] at a7;cases a7
 exact kn x m _ (dD.trans (s5.trans (cU.of (bp ag)))) H6.upd db ((bp ag) _ _ TG) (back (dD.trans s5) ag Uu) (back dD Il ⟨_,aaS⟩)
theorem OI [DecidableEq α]:∀ {l l':List α},l.Nodup->(∀ x ∈ l,x ∈ l')->l.length <= l'.length
 | [],_,_,_=>fk _
 | a :: l,l',h,ax=>by
  have aX:=ax a (l4 ..);have ao:=rr.mp h;have:=OI (l':=l'.erase a) ao.2 (fun x ag=>(List.mem_erase_of_ne (fun e=>ao.1 (by rw [<- e];exact ag))).mpr (ax x (hL _ ag)));rw [List.length_erase_of_mem aX] at this;have av:=WH aX;rw [hQ];omega
noncomputable def et (rows:List ST) (x:Str):Option Nat:=match cu (gJ (rows.map (·.mem))) (bc x) with
 | some (.int k)=>some k.toNat
 | _=>none
theorem PS {x:Str}:∀ (n:Nat) (de:List (List Str)),n <= de.length->(∃ ms ∈ de.take n,x ∈ ms)->∃ (k:Nat) (ms:List Str),cu (gJ (de.take n)) (bc x)=some (.int (k:Int))/\de[k]? = some ms/\x ∈ ms
 | 0,de,_,h=>by
  obtain ⟨ms,af,_⟩:=h;simp at af
 | n + 1,de,aT,h=>by
  have bg:de[n]? = some de[n]:=a' (by omega);rw [H0 bg,FG];by_cases c:x ∈ de[n]
  .rw [if_pos c];exact ⟨n,_,rfl,bg,c⟩
  .rw [if_neg c];refine PS n de (by omega) ?_;obtain ⟨ms,af,ao⟩:=h;rw [jC bg] at af;rcases f5.mp af with af | af
   .exact ⟨ms,af,ao⟩
   .rw [eC.mp af] at ao;exact absurd ao c
theorem lG {rows:List ST} {x:Str} (h:told rows x=true):∃ (k:Nat) (r:ST),cu (gJ (rows.map (·.mem))) (bc x)=some (.int (k:Int))/\et rows x=some k/\rows[k]? = some r/\x ∈ r.mem:=by
 unfold told at h;obtain ⟨r,ak,ag⟩:=p6.mp h;have:=PS (x:=x) (rows.map (·.mem)).length (rows.map (·.mem)) (bW _) ⟨r.mem,by rw [iq];exact cp.mpr ⟨r,ak,rfl⟩,by simpa using ag⟩;rw [iq] at this;obtain ⟨k,ms,af,ao,a_⟩:=this;obtain ⟨dj,eP,rfl⟩:=cA ao;exact ⟨k,dj,af,by unfold et;rw [af];rfl,eP,a_⟩
noncomputable def wM (rows:List ST) (d:a0):Option (a0 × Nat):=(et rows d.name).bind fun k=>(rows[k]?).bind fun r=>if r.lo < d.least then some (d,k) else none
noncomputable def tT (ds:List a0) (rows:List ST):Option (a0 × Nat):=ds.findSome? (wM rows)
noncomputable def lC (n:Int) (ds:List a0) (x y:Str):Bool:=match h6 ds x,h6 ds y with
 | some d,some e=>mt n d e
 | _,_=>false
noncomputable def ni (n:Int) (ds:List a0) (k:Nat) (x y:Str):Option (Str × Str × Nat):=if x ≠ y/\lC n ds x y=true then some (x,y,k) else none
noncomputable def qW (n:Int) (ds:List a0) (e:ST × Nat):Option (Str × Str × Nat):=e.1.mem.findSome? fun x=>e.1.mem.findSome? fun y=>ni n ds e.2 x y
noncomputable def s_ (n:Int) (ds:List a0) (rows:List ST):Option (Str × Str × Nat):=rows.zipIdx.findSome? (qW n ds)
def wb (ds:List a0):Prop:=∀ d ∈ ds,Zw d.name/\d.k < 3/\(0 <= d.off/\d.off <= 1000)
structure oK (ds:List a0) (rows:List ST):Prop where
 ln:rows.length <= 6
 f9:∀ r ∈ rows,r.mem.length <= 12
 uo:∀ r ∈ rows,∀ x ∈ r.mem,∃ d ∈ ds,d.name=x
def tz (t:bR):bN:=fun vs H Q _=>∃ c n ds p qs ms rows,vs=[.ref c,.ref p]/\fu t H c n ds/\ic H p qs ms rows/\oK ds rows/\gE ds rows=[]/\∀ I,ac H I->(aP H->aP I)->Q .bU I
def NC (t:bR):bN:=fun vs H Q _=>∃ c n ds p qs ms rows,vs=[.ref c,.ref p]/\fu t H c n ds/\ic H p qs ms rows/\oK ds rows/\gE ds rows=[]/\tT ds rows=none/\∀ I,ac H I->(aP H->aP I)->Q .bU I
def Sz (t:bR):bN:=fun vs H Q _=>∃ c n ds p qs ms rows,vs=[.ref c,.ref p]/\fu t H c n ds/\0 < n/\ic H p qs ms rows/\oK ds rows/\aP H/\s_ n ds rows=none/\∀ I,ac H I->(aP H->aP I)->Q .bU I
def rl (l:List Int) (v:Int):Prop:=v ∈ l/\∀ k ∈ l,k <= v
noncomputable def oH (ds:List a0) (x:Str):Int:=((h6 ds x).map d0).getD 0
noncomputable def qa (ds:List a0) (x:Str):Int:=((h6 ds x).map dM).getD 0
noncomputable def oy (ds:List a0) (x y:Str):Int:=match h6 ds x,h6 ds y with
 | some d,some e=>if d.off - e.near > 0 then d.off - e.near else 0
 | _,_=>0
noncomputable def oI (n:Int) (ds:List a0) (s:List Str) (x:Str):List Int:=if x ∈ s then [] else (s.filter fun y=>lC n ds x y).map (oy ds x)
noncomputable def ie (n:Int) (ds:List a0) (f s:List Str):List Int:=[0] ++ f.map (oH ds) ++ s.map (qa ds) ++ (ds.map (·.name)).flatMap (oI n ds s)
theorem AF (h:nk.contains m=false):(n4 d).lookup m=none:=uk nk (NN _) h
theorem Ke (p:Str->Bool) (g:Str->Int):∀ xs:List Str,((xs.map fun x=>if p x=true then some (V.int (g x)) else none).flatMap yM)=((xs.filter p).map g).map V.int
 | []=>rfl
 | x :: xs=>by
  rw [eV,wY,Ke p g xs];by_cases c:p x=true
  .rw [if_pos c,afy c];rfl
  .rw [if_neg c,aiu c];rfl
theorem AH:∀ cc:List Int,cc ≠ []->∃ m,m ∈ cc/\∀ k ∈ cc,k <= m
 | [],h=>absurd rfl h
 | [x],_=>⟨x,by simp,fun k aB=>by rw [eC.mp aB];exact Zp _⟩
 | x :: y :: r,_=>by
  obtain ⟨m,hm,al⟩:=AH (y :: r) (by simp);by_cases c:x <= m
  .refine ⟨m,hL _ hm,fun k aB=>?_⟩;rcases fh.mp aB with rfl | aB
   .exact c
   .exact al k aB
  .refine ⟨x,by simp,fun k aB=>?_⟩;rcases fh.mp aB with rfl | aB
   .exact Zp _
   .exact T3 (al k aB) (by omega)
def UB (t:bR):bN:=fun vs H Q _=>∃ c n ds fZ aY f s,vs=[.ref c,.ref fZ,.ref aY]/\fu t H c n ds/\0 < n/\wb ds/\H fZ=some (.lst (aW f))/\H aY=some (.lst (aW s))/\(∀ x ∈ f,∃ d ∈ ds,d.name=x)/\(∀ x ∈ s,∃ d ∈ ds,d.name=x)/\f.length <= 12/\s.length <= 12/\aP H/\∀ v,rl (ie n ds f s) v->Q (.int v) H
def abI (t:bR):bN:=fun vs H Q _=>∃ c n ds fZ aY f s,vs=[.ref c,.ref fZ,.ref aY]/\fu t H c n ds/\0 < n/\wb ds/\H fZ=some (.lst (aW f))/\H aY=some (.lst (aW s))/\(∀ x ∈ f,∃ d ∈ ds,d.name=x)/\(∀ x ∈ s,∃ d ∈ ds,d.name=x)/\f.length <= 12/\s.length <= 12/\aP H/\∀ v I,ac H I->rl (ie n ds f s) v->Q (.int v) I
theorem XE:cv P base T 3 t.y3 t.AI j7 (tz t):=by
 refine cG (Ru T) fun Dk=>?_;exists T.DH.ok Se,9
 obtain ⟨c,n,ds,p,qs,ms,rows,rfl,C,R,J,eJ,q⟩:=h;refine ⟨_,(aR (b2 (i:=2) Se.aG (cf Dk ak T.RS T.zo.bK T.QW (ai (U 0) (ai (U 1) aE))))
   (a5 (dI (yq (U 2) (fun _=>rfl)) (a5 nG) eh))),?_⟩
 nofun;refine ⟨c,n,ds,p,qs,ms,rows,rfl,C,R,J.ln,J.f9,fun l H1 s1 cw aM cy=>?_⟩;dsimp only;rw [eJ] at cy;refine dy false (fun Q aV=>?_) (fun z=>nomatch z) (fun _=>?_)
 .exact ⟨_,rfl,_,.inl ⟨_,aD.of cy,rfl⟩,aV⟩
 .simp only [il];exact q H1 s1 cw
theorem Wf:cv P base T 3 t.ya t.yT j7 (NC t):=by
 refine cG (Jd T) fun wG=>cG (Bz T) fun rb=>cG (qG T) fun jW=>?_;exists T.CV.ok x4,9
 obtain ⟨c,n,ds,p,qs,ms,rows,rfl,C,R,J,TS,wK,q⟩:=h;have bq:=g7 ak;obtain ⟨⟨fv,gx⟩,ar,wl,aG,au,_,_⟩:=id C;refine ⟨_,(aR (b2 (i:=2) x4.aG (cf wG ak T.CR T.vo.bK T.cr (ai (hE rfl (Gc (U 1)) (gQ (sc:=bz Fo) rfl (by ac_nf)) (N:=iu) (sel:=[none,none,none]) (gF (M:=["crossing","rows","homes","name","number"]) (by ac_nf)) (fy.of (fun _ _ _ _=>(ly (K:=K) (n:=3) rfl rfl (lc (cz (i:=0) (er (N:=iu) (by ac_nf) rfl)) (lc (cz (i:=1) (er (N:=iu) (by ac_nf) rfl)) (lc (cz (i:=2) (er (N:=iu) (by ac_nf) rfl)) k4))))) (fun _ _ _ _=>⟨_,h4,by walk_at "B"⟩) (fun _ _ _ _=>⟨_,(U 2),by walk_at "B"⟩))) aE)))
   (a5 (be fm rfl (Gc (jj (U 0) T.hU T.yN rb ak T.A2 .nil cO)) (cz (i:=3) x4.aG) (aR (b2 (i:=4) x4.aG (kJ bq (U 2) (U 3) (fun _ _=>rfl)))
   (a5 (dI (cP jd (bX eK (bX dE (U 1) (U 4)) aL) (bG (e4 (U 0) T.hU T.nK jW ak T.nR .nil cO (ai (U 3) aE)) rfl) (cm _)) (a5 nG) eh)))))),?_⟩
 nofun;have iL:(qs.map V.ref).length=rows.length:=by rw [aU,R.cy]
 refine ⟨⟨_,aD.of R.at_⟩,?_⟩;refine da.lg (xs:=qs.map V.ref) (zs:=ms.map V.ref) (aD.of R.at_) (by rw [iL];exact c4 J.ln (by decide)) (by rw [iL,aU,R.c1]) (fun j v z N aK aQ bu=>?_) (fun pm qP=>?_)
 .obtain ⟨jK,eG,rfl⟩:=cA aK;obtain ⟨D',kg,rfl⟩:=cA aQ;have aO:j < rows.length:=by rw [<- R.cy];exact (b6.mp eG).1
  have e:=(R.al j jK D' _ eG kg (a' aO)).1;nofun;exact ⟨_,cM.of e,rfl,_,_,rfl,_,_,rfl,_,_,rfl,rfl,Sub.t4,bu⟩
 .have sp:ac H (upd H pm (.lst (ms.map V.ref))):=bp qP;have np:aP H->aP (upd H pm (.lst (ms.map V.ref))):=fun n=>n.upd
  have cF:(upd H pm (.lst (ms.map V.ref))) pm=some (.lst (ms.map V.ref)):=db;generalize upd H pm (.lst (ms.map V.ref))=eZ at sp np cF ⊢;refine ⟨pm,ms,rows.map (·.mem),rfl,⟨cF,by rw [R.c1,aU],fun i m x hm ag=>?_⟩,by rw [aU];exact J.ln,fun x ag=>?_,fun h H1 s1 cw eM af=>?_⟩
  .obtain ⟨r,eP,rfl⟩:=cA ag;have gM:qs[i]? = some (qs[i]'(by rw [R.cy];exact (b6.mp eP).1)):=a' _;exact sp _ _ (R.al i _ m r gM hm eP).2
  .obtain ⟨r,eP,rfl⟩:=cp.mp ag;exact J.f9 r eP
  .have m1:=sp.trans s1;have wQ:=C.same m1;refine ⟨_,_,m1 _ _ au,kb _ _ _ (by ac_nf),c,n,ds,rfl,wQ,fun d7 jJ=>⟨d7,rfl,⟨_,aD.of db⟩,?_⟩⟩;have sB:=m1.trans (bp (o:=.lst (aW (ds.map (·.name)))) jJ);have ao:=(bp (o:=.lst (aW (ds.map (·.name)))) jJ) _ _ af;have km:aP H->aP (upd H1 d7 (.lst (aW (ds.map (·.name))))):=fun n=>(cw (np n)).upd
   have pC:(upd H1 d7 (.lst (aW (ds.map (·.name))))) d7=some (.lst (aW (ds.map (·.name)))):=db;generalize upd H1 d7 (.lst (aW (ds.map (·.name))))=ky at sB ao km pC ⊢;refine dP.list (xs:=aW (ds.map (·.name))) (fun i σ I=>(∃ x y,σ=[~~~c,~~~p,~~~h,x,y])/\I=ky/\tT ds rows=(ds.drop i).findSome? (wM rows)) ?_ ?_ ?_ ?_
   .exact ⟨⟨_,_,rfl⟩,rfl,rfl⟩
   .rintro i σ I ah ⟨_,rfl,_⟩;exact aD.of pC
   .rintro i v σ I aK bh;ac_rfl
    obtain ⟨⟨x,y,rfl⟩,rfl,d1⟩:=bh;subst aJ;unfold aW at aK;obtain ⟨nm,kU,rfl⟩:=cA aK;obtain ⟨d,hd,rfl⟩:=cA kU;obtain ⟨ah,qF⟩:=b6.mp hd;have yX:=cB hd;have cS:told rows d.name=true:=by
     have:=NF.mp TS d.name (cp.mpr ⟨d,yX,rfl⟩);simpa using this
    obtain ⟨k,r,aeS,Ik,ix,AS⟩:=lG cS;have tA:k < rows.length:=(b6.mp ix).1;have adh:wM rows d=if r.lo < d.least then some (d,k) else none:=by
     unfold wM;rw [Ik,uN,ix,uN]
    rw [q8 ah,Jw,qF,adh] at d1;have bg:gb I h (.str d.name) (some (.int (k:Int))):=by rw [<- aeS];exact gb.k (k:=bc d.name) ao
    have NB:qs[k]? = some (qs[k]'(by rw [R.cy];exact tA)):=a' _;have afZ:ms[k]? = some (ms[k]'(by rw [R.c1];exact tA)):=a' _;have Zq:=sB _ _ (R.al k _ _ r NB afZ ix).1;simp only [gd,dN,jI,jX];exists (fun aA az=>az=I/\aA=[~~~c,~~~p,~~~h,some (.str d.name),some (.int (k:Int))]),2
    .nofun;exact ⟨_,bg,bV _ _ ⟨rfl,rfl⟩⟩
    rintro cC az ⟨rfl,rfl⟩;subst aJ;dsimp only;refine dy (decide (r.lo < d.least)) (fun Q aV=>?_) (fun ae=>?_) (fun ae=>?_)
    .nofun;exact ⟨_,aD.of (sB _ _ R.at_),_,cg (by rw [dm,NB];rfl),_,rfl,_,cM.of Zq,_,cg (j:=0) rfl,_,_,sB _ _ au,kb _ _ _ (by ac_nf),c,n,ds,i,d,rfl,C.same sB,hd,fun a W=>⟨a,rfl,_,W.W3 T,_,rfl,_,rfl,aV⟩⟩
    .have ae:=of_decide_eq_true ae;rw [if_pos ae] at d1;replace d1:tT ds rows=some (d,k):=d1;rw [d1] at wK;cases wK
    .have ae:=of_decide_eq_false ae;rw [if_neg ae] at d1;simp only [il];exact ⟨⟨_,_,rfl⟩,trivial,d1⟩
   .rintro σ I bh;ac_rfl
    obtain ⟨⟨x,y,rfl⟩,rfl,d1⟩:=bh;subst aJ;rw [fo,aU,uE] at d1;exact q _ sB km
theorem aeJ:cv P base T 4 t.BG t.z7 j7 (Sz t):=by
 refine cG (Ql T) fun IF=>?_;exists T.Gm.ok w2,9
 obtain ⟨c,n,ds,p,qs,ms,rows,rfl,C,aT,R,J,bE,wK,q⟩:=h;obtain ⟨⟨fv,gx⟩,ar,wl,aG,au,_,_⟩:=id C;refine ⟨_,(a5 (be fm rfl (xf rfl T.za (ai (U 1) aE)) (ly (K:=K) (n:=2) rfl rfl (lc (cz (i:=2) w2.aG) (lc (cz (i:=3) w2.aG) k4))) (a5 (be fm rfl (Gc (bX eK (U 3) aL)) (cz (i:=4) w2.aG) (a5 (be fm rfl (Gc (bX eK (U 3) aL)) (cz (i:=5) w2.aG) (a5 (dI (fj.pt (iD (cP sS (U 4) (U 5) (cm _)) (jA (ki (cf IF ak T.NS T.yx.bK T.P4 (ai (U 0) (ai (U 4) (ai (U 5) aE)))))))) (a5 nG) eh)))))))),?_⟩;nofun;have Ol:∀ {x:Str},(∃ d ∈ ds,d.name=x)->∃ (i:Nat) (d:a0),ds[i]? = some d/\d.name=x/\h6 ds x=some d:=fun ⟨d,hd,e⟩=>by
  obtain ⟨i,ah⟩:=jv hd;exact ⟨i,d,ah,e,by rw [<- e];exact iN fv ah⟩
 refine ⟨⟨_,aD.of R.at_⟩,?_⟩;refine dP.enum (xs:=qs.map V.ref) (fun i σ I=>(∃ x y z u,σ=[~~~c,~~~p,x,y,z,u])/\ac H I/\aP I/\s_ n ds rows=((rows.drop i).zipIdx i).findSome? (qW n ds)) ?_ ?_ ?_ ?_
 .exact ⟨⟨_,_,_,_,rfl⟩,ac.refl _,bE,rfl⟩
 .rintro i σ I ah ⟨_,bQ,_⟩;exact aD.of (bQ _ _ R.at_)
 .rintro i v σ I iT aK ⟨⟨x,y,z,u,rfl⟩,bQ,cw,d1⟩ nc;obtain ⟨pR,gM,rfl⟩:=cA aK;have ah:i < rows.length:=by rw [<- R.cy];exact (b6.mp gM).1
  have iZ:rows[i]? = some rows[i]:=a' ah;have qc:ms[i]? = some (ms[i]'(by rw [R.c1];exact ah)):=a' _;obtain ⟨DL,em⟩:=R.al i pR _ _ gM qc iZ;generalize ms[i]'(by rw [R.c1];exact ah)=m at qc DL em;have tf:=cB iZ;have gw:=J.uo _ tf;have l_:=J.f9 _ tf;rw [q8 ah,List.zipIdx_cons,Jw] at d1;generalize aj7:rows[i]=r at DL em gw l_ d1;have s2:ac I (upd I iT (.tup [.int i,.ref pR])):=bp nc;have sB:=bQ.trans s2;have km:aP (upd I iT (.tup [.int i,.ref pR])):=cw.upd;refine Ao ?_;generalize upd I iT (.tup [.int i,.ref pR])=ky at s2 sB km ⊢;have Ob:=sB _ _ DL;have BB:=sB _ _ em;nofun;refine ⟨_,cM.of Ob,_,cg (j:=2) rfl,m,rfl,⟨_,aD.of BB⟩,?_⟩;generalize akH:((rows.drop (i + 1)).zipIdx (i + 1)).findSome? (qW n ds)=kP at d1;refine dP.list (xs:=aW r.mem) (fun j σ az=>(∃ z u,σ=[~~~c,~~~p,some (.int (i:Int)),~~~pR,z,u])/\az=ky/\qW n ds (r,i)=(r.mem.drop j).findSome? (fun x=>r.mem.findSome? fun y=>ni n ds i x y)) ?_ ?_ ?_ ?_
  .exact ⟨⟨_,_,rfl⟩,rfl,rfl⟩
  .rintro j σ az aO ⟨_,rfl,_⟩;exact aD.of BB
  .rintro j v σ az aK bh;ac_rfl
   obtain ⟨⟨z,u,rfl⟩,rfl,gZ⟩:=bh;subst aJ;unfold aW at aK;obtain ⟨cT,RI,rfl⟩:=cA aK;obtain ⟨aO,aeE⟩:=b6.mp RI;rw [q8 aO,Jw,aeE] at gZ;obtain ⟨i1,dv,yL,Dd,uR⟩:=Ol (gw cT (cB RI));generalize aiS:(r.mem.drop (j + 1)).findSome? (fun x=>r.mem.findSome? fun y=>ni n ds i x y)=ald at gZ;nofun;refine ⟨_,cM.of Ob,_,cg (j:=2) rfl,m,rfl,⟨_,aD.of BB⟩,?_⟩;refine dP.list (xs:=aW r.mem) (fun l σ bk=>(∃ u,σ=[~~~c,~~~p,some (.int (i:Int)),~~~pR,some (.str cT),u])/\bk=az/\(r.mem.findSome? fun y=>ni n ds i cT y)=(r.mem.drop l).findSome? (fun y=>ni n ds i cT y)) ?_ ?_ ?_ ?_
   .exact ⟨⟨_,rfl⟩,rfl,rfl⟩
   .rintro l σ bk aM ⟨_,rfl,_⟩;exact aD.of BB
   .rintro l v σ bk aK bh;ac_rfl
    obtain ⟨⟨u,rfl⟩,rfl,eJ⟩:=bh;subst aJ;unfold aW at aK;obtain ⟨e',wW,rfl⟩:=cA aK;obtain ⟨aM,iF⟩:=b6.mp wW;rw [q8 aM,Jw,iF] at eJ;obtain ⟨i2,ew,hd2,p',S3⟩:=Ol (gw e' (cB wW));have lb:lC n ds cT e'=mt n dv ew:=by unfold lC;rw [uR,S3]
    have JE:ni n ds i cT e'=if cT ≠ e'/\mt n dv ew=true then some (cT,e',i) else none:=by unfold ni;rw [lb]
    rw [JE] at eJ;simp only [gd,jI,jX];refine dy (decide (cT ≠ e') && mt n dv ew) (fun Q aV=>?_) (fun ae=>?_) (fun ae=>?_)
    .nofun;by_cases b_:cT=e'
     .rw [if_neg (by simp [b_])];rw [decide_eq_false (fun z=>z b_),k2] at aV;exact aV
     .rw [if_pos (by simpa using b_)];rw [decide_eq_true b_,kG] at aV;exact ⟨c,n,ds,i1,i2,dv,ew,by rw [Dd,p'],C.same sB,aT,yL,hd2,km,_,rfl,aV⟩
    .rw [hy,decide_eq_true_eq] at ae;rw [if_pos ae] at eJ;replace eJ:(r.mem.findSome? fun y=>ni n ds i cT y)=some (cT,e',i):=eJ;rw [eJ] at gZ;replace gZ:qW n ds (r,i)=some (cT,e',i):=gZ;rw [gZ] at d1;replace d1:s_ n ds rows=some (cT,e',i):=d1;rw [d1] at wK;cases wK
    .have ae:¬ (cT ≠ e'/\mt n dv ew=true):=fun z=>by
      rw [decide_eq_true z.1,z.2] at ae;exact nomatch ae
     rw [if_neg ae] at eJ;simp only [il];exact ⟨⟨_,rfl⟩,trivial,eJ⟩
   .rintro σ bk bh;ac_rfl
    obtain ⟨⟨u,rfl⟩,rfl,eJ⟩:=bh;subst aJ;rw [fo,uE] at eJ;replace eJ:(r.mem.findSome? fun y=>ni n ds i cT y)=none:=eJ;rw [eJ] at gZ;exact ⟨⟨_,_,rfl⟩,rfl,gZ⟩
  .rintro σ az bh;ac_rfl
   obtain ⟨⟨z,u,rfl⟩,rfl,gZ⟩:=bh;subst aJ;rw [fo,uE] at gZ;replace gZ:qW n ds (r,i)=none:=gZ;rw [gZ] at d1;exact ⟨⟨_,_,_,_,rfl⟩,sB,km,d1⟩
 .rintro σ I bh;ac_rfl
  obtain ⟨⟨x,y,z,u,rfl⟩,bQ,cw,d1⟩:=bh;subst aJ;rw [aU,R.cy,uE] at d1;exact q _ bQ (fun _=>cw)
theorem ZU:cv P base T 4 t.IU t.Eo GJ (UB t):=by
 refine cH.forget (sp:=abI t) ?_ fun vs H Q E h=>?_
 .have IF:cH P w K mg base dz 3 t.yb t.Bt p4 (LM t):=Ql T;have acY:cH P w K mg base dz 3 t.By t.Af p4 (OD t):=ag7 T;have rb:cH P w K mg base dz 3 t.uD t.AR ["self"] (Oo t):=(Bz T).mono (by decide);have jW:cH P w K mg base dz 3 t.we t.zZ jf (QV t):=(qG T).mono (by decide);have B8:n6 P w K mg base dz 3 (sI t) "ready" ["self"] (tx t):=xl (PK T) (by decide);have F2:n6 P w K mg base dz 3 (sI t) "fade" ["self"] (tl t):=xl (MY T) (by decide);exists T.HZ.ok Pi,9
  obtain ⟨c,n,ds,fZ,aY,f,s,rfl,C,aT,bJ,hf,ax,fin,sin,ku,gs,bE,q⟩:=h;obtain ⟨⟨fv,gx⟩,ar,wl,aG,au,_,_⟩:=id C;refine ⟨_,(aR (b2 (i:=3) Pi.aG (fg (ai aL aE)))
   (aR (en (gk iM Ea MJ Jm (U 3) (ai (hE rfl (Gc (U 1)) (gQ (sc:=bz wJ) rfl (by ac_nf)) (N:=yG) (sel:=[none,some 0]) (gF (M:=zL) (by ac_nf)) (fy.of (fun _ _ _ _=>(cz (i:=0) (er (N:=yG) (by ac_nf) rfl))) (fun _ _ _ _=>⟨_,h4,by walk_at "B"⟩) (fun _ _ _ _=>⟨_,(AY (e4 (U 1) T.hU T.nK jW ak T.nR .nil cO (ai (U 0) aE)) F2 ak cO),by walk_at "B"⟩))) aE)))
   (aR (en (gk iM Ea MJ Jm (U 3) (ai (hE rfl (Gc (U 2)) (gQ (sc:=bz wJ) rfl (by ac_nf)) (N:=yG) (sel:=[none,some 0]) (gF (M:=zL) (by ac_nf)) (fy.of (fun _ _ _ _=>(cz (i:=0) (er (N:=yG) (by ac_nf) rfl))) (fun _ _ _ _=>⟨_,h4,by walk_at "B"⟩) (fun _ _ _ _=>⟨_,(AY (e4 (U 1) T.hU T.nK jW ak T.nR .nil cO (ai (U 0) aE)) B8 ak cO),by walk_at "B"⟩))) aE)))
   (aR (be fm rfl (Gc (jj (U 0) T.hU T.yN rb ak T.A2 .nil cO)) (EG (i:=4) Pi.aG rfl (mM rfl)) (a5 (dI (cP x9 (U 4) (U 2) (by with_unfolding_all rfl)) (a5 (en (gk iM Ea MJ Jm (U 3) (ai (hE rfl (Gc (U 2)) (gQ (sc:=bz wJ) rfl (by ac_nf)) (N:=["other","crossing","one"]) (sel:=[none,some 0,some 4]) (gF (M:=zL) (by ac_nf)) (fy.of (fun _ _ _ _=>(cz (i:=0) (er (N:=["other","crossing","one"]) (by ac_nf) rfl))) (fun _ _ _ _=>⟨_,(uZ (ki (cf IF ak T.NS T.yx.bK T.P4 (ai (U 1) (ai (U 2) (ai (U 0) aE)))))),by walk_at "B"⟩) (fun _ _ _ _=>⟨_,(cf acY ak T.aif T.Jy.bK T.Wo (ai (U 1) (ai (U 2) (ai (U 0) aE)))),by walk_at "B"⟩))) aE)))) eh)))
   (a5 (cj (fq (M5 rfl) rfl T.Bi yo (ai (U 3) aE)))))))),?_⟩
  refine cZ (fun aA I=>ac H I/\aP I/\∃ dS,H dS=none/\I dS=some (.lst ([(0:Int)].map V.int))/\aA=[~~~c,~~~fZ,~~~aY,~~~dS,none]) (fun b3 bJ=>?_) fun cN aJ=>?_
  .nofun;exact ⟨by decide,fun dS mf=>bJ _ _ ⟨bp mf,bE.upd,dS,mf,db,rfl⟩⟩
  rintro gg H1 ⟨s1,cw,dS,mf,dk,rfl⟩;subst aJ;refine cZ (fun aA I=>ac H I/\aP I/\I dS=some (.lst (([0] ++ f.map (oH ds)).map V.int))/\aA=[~~~c,~~~fZ,~~~aY,~~~dS,none]) (fun b3 bV=>?_) fun cN aJ=>?_
  .nofun;refine ⟨.inl ⟨_,aD.of dk⟩,⟨_,aD.of (s1 _ _ hf)⟩,?_⟩;refine da.lg (xs:=aW f) (zs:=(f.map (oH ds)).map V.int) (aD.of (s1 _ _ hf)) (by rw [fo];exact c4 ku (by decide)) (by rw [fo,aU,aU]) (fun j v z N aK aQ bu=>?_) (fun pl cY=>?_)
   .unfold aW at aK;obtain ⟨x,ag,rfl⟩:=cA aK;obtain ⟨y,a7,rfl⟩:=cA aQ;obtain ⟨fO,ey,rfl⟩:=cA a7;rw [ag] at ey;cases ey;obtain ⟨d,hd,rfl⟩:=fin x (cB ag);obtain ⟨i,ah⟩:=jv hd;have Gi:oH ds d.name=d0 d:=by unfold oH;rw [iN fv ah];rfl
    rw [Gi] at bu;nofun;refine ⟨Sub.name,_,_,s1 _ _ au,kb _ _ _ (by ac_nf),c,n,ds,i,d,rfl,C.same s1,ah,fun a W=>?_⟩;obtain ⟨th,NW,pY⟩:=id W;exact ⟨a,rfl,_,_,_,pY,⟨_,th,rfl⟩,AF (by ac_nf),a,d,rfl,W,rfl,bu⟩
   .refine ⟨pl,rfl,_,(bp cY) _ _ dk,_,db,?_,bV _ _ ⟨(s1.trans (bp cY)).fC mf,(cw.upd).upd,by rw [db,fz],rfl⟩⟩;rw [aU,aU,aU];exact c4 (show _ <= 13 by show 1 + f.length <= 13;omega) (by decide)
  rintro cC az ⟨s2,cV,dZ,rfl⟩;subst aJ;refine cZ (fun aA I=>ac H I/\aP I/\I dS=some (.lst (([0] ++ f.map (oH ds) ++ s.map (qa ds)).map V.int))/\aA=[~~~c,~~~fZ,~~~aY,~~~dS,none]) (fun b3 bV=>?_) fun cN aJ=>?_
  .nofun;refine ⟨.inl ⟨_,aD.of dZ⟩,⟨_,aD.of (s2 _ _ ax)⟩,?_⟩;refine da.lg (xs:=aW s) (zs:=(s.map (qa ds)).map V.int) (aD.of (s2 _ _ ax)) (by rw [fo];exact c4 gs (by decide)) (by rw [fo,aU,aU]) (fun j v z N aK aQ bu=>?_) (fun pl cY=>?_)
   .unfold aW at aK;obtain ⟨x,ag,rfl⟩:=cA aK;obtain ⟨y,a7,rfl⟩:=cA aQ;obtain ⟨fO,ey,rfl⟩:=cA a7;rw [ag] at ey;cases ey;obtain ⟨d,hd,rfl⟩:=sin x (cB ag);obtain ⟨i,ah⟩:=jv hd;have Gi:qa ds d.name=dM d:=by unfold qa;rw [iN fv ah];rfl
    rw [Gi] at bu;nofun;refine ⟨Sub.name,_,_,s2 _ _ au,kb _ _ _ (by ac_nf),c,n,ds,i,d,rfl,C.same s2,ah,fun a W=>?_⟩;obtain ⟨th,NW,pY⟩:=id W;exact ⟨a,rfl,_,_,_,pY,⟨_,th,rfl⟩,AF (by ac_nf),a,d,rfl,W,rfl,bu⟩
   .refine ⟨pl,rfl,_,(bp cY) _ _ dZ,_,db,?_,bV _ _ ⟨(s2.trans (bp cY)).fC mf,(cV.upd).upd,by rw [db,<- fz],rfl⟩⟩;rw [aU,aU,aU,c6,aU];exact c4 (show _ <= 25 by show 1 + f.length + s.length <= 25;omega) (by decide)
  rintro gc bk ⟨s3,dK,hn,rfl⟩;subst aJ;refine cZ (fun aA I=>ac H I/\aP I/\I dS=some (.lst ((ie n ds f s).map V.int))/\∃ dD,aA=[~~~c,~~~fZ,~~~aY,~~~dS,dD]) (fun b3 bV=>?_) fun cN aJ=>?_
  .nofun;have se:=C.same s3;refine ⟨_,_,s3 _ _ au,kb _ _ _ (by ac_nf),c,n,ds,rfl,se,fun d7 jJ=>⟨d7,rfl,⟨_,aD.of db⟩,?_⟩⟩;have sB:=s3.trans (bp (o:=.lst (aW (ds.map (·.name)))) jJ);have km:aP (upd bk d7 (.lst (aW (ds.map (·.name))))):=dK.upd;have pC:(upd bk d7 (.lst (aW (ds.map (·.name))))) d7=some (.lst (aW (ds.map (·.name)))):=db;have Nh:=(bp (o:=.lst (aW (ds.map (·.name)))) jJ) _ _ hn;have afP:d7 ≠ dS:=fun z=>by rw [z,hn] at jJ;cases jJ
   generalize upd bk d7 (.lst (aW (ds.map (·.name))))=ky at sB km pC Nh ⊢;refine dP.list (xs:=aW (ds.map (·.name))) (fun i σ I=>(∃ x,σ=[~~~c,~~~fZ,~~~aY,~~~dS,x])/\ac H I/\aP I/\I d7=some (.lst (aW (ds.map (·.name))))/\I dS=some (.lst (([(0:Int)] ++ f.map (oH ds) ++ s.map (qa ds) ++ ((ds.map fun d:a0=>d.name).take i).flatMap (oI n ds s)).map V.int))/\(((ds.map fun d:a0=>d.name).take i).flatMap (oI n ds s)).length <= 12 * i) ?_ ?_ ?_ ?_
   .exact ⟨⟨_,rfl⟩,sB,km,pC,by rw [o5,U4,z3];exact Nh,by simp⟩
   .rintro i σ I ah bh;ac_rfl
    obtain ⟨_,_,_,e,_⟩:=bh;subst aJ;exact aD.of e
   .rintro i v σ I aK bh;ac_rfl
    obtain ⟨⟨dD,rfl⟩,bQ,dR,N8,hl,zw⟩:=bh;subst aJ;unfold aW at aK;obtain ⟨nm,kU,rfl⟩:=cA aK;have Z9:=kU;obtain ⟨d,hd,rfl⟩:=cA Z9;have aji:i < 12:=by have:=(b6.mp hd).1;omega
    have n2:=iN fv hd;simp only [gd,jI,jX];refine dy (!decide (d.name ∈ s)) (fun Q aV=>?_) (fun ae=>?_) (fun ae=>?_)
    .nofun;refine ⟨_,.inl (aD.of (bQ _ _ ax)),rfl,Aw s,?_⟩;rw [Bb];exact aV
    .have ae:d.name ∉ s:=by simpa using ae
     have rU:oI n ds s d.name=(s.filter fun y=>lC n ds d.name y).map (oy ds d.name):=by unfold oI;rw [if_neg ae]
     nofun;refine ⟨.inl ⟨_,aD.of hl⟩,⟨_,aD.of (bQ _ _ ax)⟩,?_⟩;refine da.u1 (xs:=aW s) (ss:=s.map fun y=>if lC n ds d.name y=true then some (V.int (oy ds d.name y)) else none) (aD.of (bQ _ _ ax)) (by rw [fo];exact c4 gs (by decide)) (by rw [fo,aU]) (fun l v o ys N aK aS bu=>?_) (fun pl cY=>?_)
     .unfold aW at aK;obtain ⟨e',wW,rfl⟩:=cA aK;obtain ⟨fO,ey,rfl⟩:=cA aS;rw [wW] at ey;cases ey;obtain ⟨e,he,rfl⟩:=sin e' (cB wW);obtain ⟨j,aO⟩:=jv he;have vK:=iN fv aO;have zJ:lC n ds d.name e.name=mt n d e:=by unfold lC;rw [n2,vK]
      have T7:oy ds d.name e.name=if d.off - e.near > 0 then d.off - e.near else 0:=by unfold oy;rw [n2,vK]
      rw [zJ,T7] at bu;nofun;refine ⟨Sub.name,c,n,ds,i,j,d,e,rfl,C.same bQ,aT,hd,aO,dR,_,rfl,?_⟩;cases lb:mt n d e with
      | true=>
       rw [if_pos rfl];rw [lb,if_pos rfl] at bu;exact ⟨c,n,ds,i,j,d,e,rfl,C.same bQ,hd,aO,bu⟩
      | false=>
       rw [if_neg (by decide)];rw [lb,if_neg (by decide)] at bu;simpa using bu
     .rw [Ke (fun y=>lC n ds d.name y) (oy ds d.name),<- rU];have lh:(oI n ds s d.name).length <= 12:=by rw [rU,aU];exact c4 (Aj ..) gs
      refine ⟨pl,rfl,_,(bp cY) _ _ hl,_,db,?_,⟨_,rfl⟩,(bQ.trans (bp cY)).fC mf,(dR.upd).upd,by rw [aF afP];exact (bp cY) _ _ N8,?_,?_⟩
      .rw [aU,aU,c6,c6,c6,aU,aU];exact c4 (show _ <= 500 by show 1 + f.length + s.length + _ + _ <= 500;omega) (by decide)
      .rw [db,jC kU,yQ,<- fz];simp
      .rw [jC kU,yQ,c6,wY,U4,z3];omega
    .have ae:d.name ∈ s:=by simpa using ae
     have rU:oI n ds s d.name=[]:=by unfold oI;rw [if_pos ae]
     simp only [il];refine ⟨⟨_,rfl⟩,bQ,dR,N8,?_,?_⟩
     .rw [jC kU,yQ,wY,rU];simpa using hl
     .rw [jC kU,yQ,c6,wY,rU];show _ + 0 <= _;omega
   .rintro σ I bh;ac_rfl
    obtain ⟨⟨dD,rfl⟩,bQ,dR,_,hl,_⟩:=bh;subst aJ;rw [fo,iq] at hl;exact bV _ _ ⟨bQ,dR,hl,_,rfl⟩
  rintro lq cJ ⟨s4,dR,hl,dD,rfl⟩;subst aJ;nofun;obtain ⟨nV,af,ao⟩:=AH (ie n ds f s) (by unfold ie;simp);exact ⟨_,aD.of hl,nV,af,ao,q nV cJ s4 ⟨af,ao⟩⟩
 .obtain ⟨c,n,ds,fZ,aY,f,s,rfl,C,aT,bJ,hf,ax,fin,sin,ku,gs,bE,q⟩:=h;exact ⟨bE,c,n,ds,fZ,aY,f,s,rfl,C,aT,bJ,hf,ax,fin,sin,ku,gs,bE,fun v I bQ aK=>⟨bQ,q v aK⟩⟩
noncomputable abbrev ob:List Str:=[aa "crossing",aa "many",aa "leasts",aa "mosts",aa "members",aa "sorts",aa "homes",aa "changes"]
noncomputable def kA (c:Addr) (k:Nat) (le mo c8 c5 aS ch:Addr):List (Str × V):=[(aa "crossing",V.ref c),(aa "many",V.int k),(aa "leasts",V.ref le),(aa "mosts",V.ref mo),(aa "members",V.ref c8),(aa "sorts",V.ref c5),(aa "homes",V.ref aS),(aa "changes",V.ref ch)]
theorem pS (c:Addr) (k:Nat) (le mo c8 c5 aS ch:Addr):(kA c k le mo c8 c5 aS ch).map (·.1)=ob:=rfl
noncomputable def dx (ds:List a0) (r:ST):Str:=((r.mem.head?.bind (h6 ds)).map hZ).getD (aa "")
noncomputable def stK (i j:Nat):List Key:=[o' (i:Int),o' (j:Int)]
def No (n:Int) (ds:List a0) (rows:List ST) (i j:Nat) (kvs:List (List Key × V)):Prop:=kvs.length <= 6 * i + j/\∀ (a b:Nat) (r s:ST),rows[a]? = some r->rows[b]? = some s->a ≠ b->a < i\/(a=i/\b < j)->∃ v,cu kvs (stK a b)=some (.int v)/\rl (ie n ds r.mem s.mem) v
section
variable (P:Program) (w:World)
def hh (t:bR) (H:aq) (a c:Addr) (n:Int) (ds:List a0) (rows:List ST):Prop:=∃ ar le mo c8 c5 aS ch ms kvs,H a=some (.ins t.e5 ar (kA c rows.length le mo c8 c5 aS ch))/\fu t H c n ds/\H le=some (.lst (rows.map fun r=>V.int r.lo))/\H mo=some (.lst (rows.map fun r=>V.int r.ah))/\lB H c8 ms (rows.map (·.mem))/\H c5=some (.lst (aW (rows.map (dx ds))))/\H aS=some (.bw (gJ (rows.map (·.mem))))/\ib P w H ch kvs/\No n ds rows rows.length 0 kvs
def Nv (t:bR):bN:=fun vs H Q _=>∃ a ar c n ds p qs ms rows,vs=[.ref a,.ref c,.ref p]/\H a=some (.ins t.e5 ar [])/\fu t H c n ds/\0 < n/\wb ds/\ic H p qs ms rows/\oK ds rows/\(∀ r ∈ rows,r.mem ≠ [])/\aP H /\
 ∀ I,cU a H I->aP I->hh P w t I a c n ds rows->Q .bU I
end
theorem agy (h:stK a b=stK i j):a=i/\b=j:=by
 unfold stK at h;simp at h;omega
theorem No.nil (n:Int) (ds:List a0) (rows:List ST):No n ds rows 0 0 []:=⟨fk _,fun a b r s _ _ _ h=>by omega⟩
theorem No.skip {rows:List ST} (h:No n ds rows i i kvs):No n ds rows i (i + 1) kvs:=⟨by have:=h.1;omega,fun a b r s ak ax mO aw=>h.2 a b r s ak ax mO (by omega)⟩
theorem No.next {rows:List ST} (aM:rows.length <= 6) (h:No n ds rows i rows.length kvs):No n ds rows (i + 1) 0 kvs:=⟨by have:=h.1;omega,fun a b r s ak ax mO aw=>h.2 a b r s ak ax mO (by
 have:=(b6.mp ax).1
 omega)⟩
theorem af6 (kvs:List (List Key × V)) (k:List Key) (v:V):(d3 kvs k v).length <= kvs.length + 1:=by
 unfold d3;split
 .rw [aU];omega
 .rw [c6];exact bW _
theorem No.put {rows:List ST} (h:No n ds rows i j kvs) (ak:rows[i]? = some r) (ax:rows[j]? = some s) (aK:rl (ie n ds r.mem s.mem) v):No n ds rows i (j + 1) (d3 kvs (stK i j) (.int v)):=by
 refine ⟨by have:=h.1;have:=af6 kvs (stK i j) (.int v);omega,fun a b dj aj eP nI mO aw=>?_⟩;rw [MZ];by_cases c:stK a b=stK i j
 .rw [if_pos c];obtain ⟨rfl,rfl⟩:=agy c;rw [ak] at eP;rw [ax] at nI;cases eP;cases nI;exact ⟨v,rfl,aK⟩
 .rw [if_neg c];exact h.2 a b dj aj eP nI mO (by
   rcases aw with z | ⟨ff,eT⟩
   .exact .inl z
   .by_cases z:b=j
    .exact absurd (by rw [ff,z]) c
    .exact .inr ⟨ff,by omega⟩)
theorem ic.s' {a p C ar:Addr} {rows:List ST} (h:ic H p qs ms rows) (s:cU a H I) (aX:H a=some (.ins C ar [])):ic I p qs ms rows:=by
 refine ⟨s _ _ (b8 h.at_ aX (by intro z;cases z)) h.at_,h.cy,h.c1,fun i q m r x y z=>?_⟩;obtain ⟨au,aI⟩:=h.al i q m r x y z;exact ⟨s _ _ (b8 au aX (by intro z;cases z)) au,s _ _ (b8 aI aX (by intro z;cases z)) aI⟩
theorem Dl {H:aq} {p b C D ar j0:Addr} {x:Str × V} {aH:List (Str × V)} (av:H p=some (.ins C ar [])) (ae:H b=some (.ins D j0 (x :: aH))):b ≠ p:=fun z=>by
 subst z;rw [av] at ae;cases ae
theorem Xh {t:bR} {H I:aq} {p a C ar:Addr} {d:a0} (av:H p=some (.ins C ar [])) (jZ:cU p H I) (h:eF t H a d):eF t I a d:=by
 obtain ⟨af,j0,e⟩:=h;exact ⟨af,j0,jZ _ _ (Dl av e) e⟩
theorem H3 {t:bR} {H I:aq} {p c C ar:Addr} {n:Int} {ds:List a0} (av:H p=some (.ins C ar [])) (jZ:cU p H I) (h:fu t H c n ds):fu t I c n ds:=by
 obtain ⟨h0,j0,wl,aG,au,⟨as,dk,dZ,hn⟩,bO⟩:=h;exact ⟨h0,j0,wl,aG,jZ _ _ (Dl av au) au,⟨as,jZ _ _ (b8 dk av (by intro z;cases z)) dk,dZ,fun i a d af ao=>Xh av jZ (hn i a d af ao)⟩,jZ _ _ (b8 bO av (by intro z;cases z)) bO⟩
theorem lB.upd {b p:Addr} (h:lB H p ms de) (ae:H b=some u) (bq:∀ xs,u ≠ .lst xs):lB (upd H b o) p ms de:=by
 refine ⟨by rw [aF (b8 h.at_ ae (fun z=>bq _ z.symm))];exact h.at_,h.ln,fun i m x a c=>?_⟩;have e:=h.al i m x a c;rw [aF (b8 e ae (fun z=>bq _ z.symm))];exact e
section
variable {w:World} {K:ba} {mg:Str->Option Value} {t:bR} {H:aq} {a c ar le mo c8 c5 aS ch:Addr} {k:Nat}
theorem B1 (T:Txt w K mg t) (e:H a=some (.ins t.e5 ar (kA c k le mo c8 c5 aS ch))):fE K H a (aa "many") (.int k):=⟨_,ar,_,e,T.jn,T.OS,gf ob 1 (pS ..) (by ac_nf) rfl⟩
theorem ET (T:Txt w K mg t) (e:H a=some (.ins t.e5 ar (kA c k le mo c8 c5 aS ch))):fE K H a (aa "members") (.ref c8):=⟨_,ar,_,e,T.jn,T.F',gf ob 4 (pS ..) (by ac_nf) rfl⟩
theorem Qe (T:Txt w K mg t) (e:H a=some (.ins t.e5 ar (kA c k le mo c8 c5 aS ch))):fE K H a (aa "changes") (.ref ch):=⟨_,ar,_,e,T.jn,T.QR,gf ob 7 (pS ..) (by ac_nf) rfl⟩
end
theorem abH:cv P base T 5 t.vt t.xZ Ap (Nv P w t):=by
 refine cG (Sy T) fun xt=>cG (Jd T) fun wG=>cG (ZU T) fun ac8=>?_;exists T.MN.ok FO,9
 obtain ⟨a,ar,c,n,ds,p,qs,ms,rows,rfl,aX,C,aT,bJ,R,J,b4,bE,q⟩:=h;have bq:=g7 ak;have fv:=C.1.1;have iL:(qs.map V.ref).length=rows.length:=by rw [aU,R.cy]
 have gO:(qs.map V.ref).length <= sizeLine:=by rw [iL];exact c4 J.ln (by decide)
 refine ⟨_,(aR (eS (U 0) (U 1) rfl)
   (aR (eS (U 0) (fq g0 rfl T.gU gK (ai (U 2) aE)) rfl)
   (aR (eS (U 0) (hE rfl (Gc (U 2)) (gQ (sc:=bz sg) rfl (by ac_nf)) (N:=iu) (sel:=[none,none,none]) (gF (M:=vB) (by ac_nf)) (fy.of (fun _ _ _ _=>(ly (K:=K) (n:=3) rfl rfl (lc (cz (i:=0) (er (N:=iu) (by ac_nf) rfl)) (lc (cz (i:=1) (er (N:=iu) (by ac_nf) rfl)) (lc (cz (i:=2) (er (N:=iu) (by ac_nf) rfl)) k4))))) (fun _ _ _ _=>⟨_,h4,by walk_at "B"⟩) (fun _ _ _ _=>⟨_,(U 0),by walk_at "B"⟩))) rfl)
   (aR (eS (U 0) (hE rfl (Gc (U 2)) (gQ (sc:=bz sg) rfl (by ac_nf)) (N:=iu) (sel:=[none,none,none]) (gF (M:=vB) (by ac_nf)) (fy.of (fun _ _ _ _=>(ly (K:=K) (n:=3) rfl rfl (lc (cz (i:=0) (er (N:=iu) (by ac_nf) rfl)) (lc (cz (i:=1) (er (N:=iu) (by ac_nf) rfl)) (lc (cz (i:=2) (er (N:=iu) (by ac_nf) rfl)) k4))))) (fun _ _ _ _=>⟨_,h4,by walk_at "B"⟩) (fun _ _ _ _=>⟨_,(U 1),by walk_at "B"⟩))) rfl)
   (aR (eS (U 0) (hE rfl (Gc (U 2)) (gQ (sc:=bz sg) rfl (by ac_nf)) (N:=iu) (sel:=[none,none,none]) (gF (M:=vB) (by ac_nf)) (fy.of (fun _ _ _ _=>(ly (K:=K) (n:=3) rfl rfl (lc (cz (i:=0) (er (N:=iu) (by ac_nf) rfl)) (lc (cz (i:=1) (er (N:=iu) (by ac_nf) rfl)) (lc (cz (i:=2) (er (N:=iu) (by ac_nf) rfl)) k4))))) (fun _ _ _ _=>⟨_,h4,by walk_at "B"⟩) (fun _ _ _ _=>⟨_,(U 2),by walk_at "B"⟩))) rfl)
   (aR (eS (U 0) (hE rfl (Gc (U 2)) (gQ (sc:=bz sg) rfl (by ac_nf)) (N:=BE) (sel:=[none,none,none,some 1]) (gF (M:=vB) (by ac_nf)) (fy.of (fun _ _ _ _=>(ly (K:=K) (n:=3) rfl rfl (lc (cz (i:=0) (er (N:=BE) (by ac_nf) rfl)) (lc (cz (i:=1) (er (N:=BE) (by ac_nf) rfl)) (lc (cz (i:=2) (er (N:=BE) (by ac_nf) rfl)) k4))))) (fun _ _ _ _=>⟨_,h4,by walk_at "B"⟩) (fun _ _ _ _=>⟨_,(cf xt ak T.Eh T.vn.bK T.EO (ai (U 3) (ai (bX dE (U 2) aL) aE))),by walk_at "B"⟩))) rfl)
   (aR (eS (U 0) (cf wG ak T.CR T.vo.bK T.cr (ai (bG (U 0) rfl) aE)) rfl)
   (aR (eS (U 0) acG rfl)
   (a5 (be fm rfl (l8 rfl T.lJ (ai (bG (U 0) rfl) aE)) (cz (i:=3) FO.aG) (a5 (be fm rfl (l8 rfl T.lJ (ai (bG (U 0) rfl) aE)) (cz (i:=4) FO.aG) (a5 (dI (cP sS (U 3) (U 4) (cm _)) (a5 (YM bq (bG (U 0) rfl) (pz (ai (U 3) (ai (U 4) aE))) (cf ac8 ak T.afg T.HZ.bK T.ahs (ai (U 1) (ai (bX dE (bG (U 0) rfl) (U 3)) (ai (bX dE (bG (U 0) rfl) (U 4)) aE)))) rfl)) eh)))))))))))))),?_⟩
 refine cZ (fun aA I=>cU a H I/\aP I/\I a=some (.ins t.e5 ar [(aa "crossing",V.ref c)])/\aA=[~~~a,~~~c,~~~p,none,none]) (fun b3 bV=>?_) fun cN aJ=>?_
 .nofun;exact ⟨_,_,_,aX,T.jn,T.Ou,by decide,bV _ _ ⟨fun b u ae e=>by rw [aF ae];exact e,bE.upd,db,rfl⟩⟩
 rintro gg H1 ⟨cT,cw,a1,rfl⟩;have jL:=R.s' cT aX;subst aJ;refine cZ (fun aA I=>cU a H I/\aP I/\I a=some (.ins t.e5 ar [(aa "crossing",V.ref c),(aa "many",V.int (rows.length:Int))])/\aA=[~~~a,~~~c,~~~p,none,none]) (fun b3 bV=>?_) fun cN aJ=>?_
 .nofun;refine ⟨_,.inl (aD.of jL.at_),_,_,_,a1,T.jn,T.OS,(show (1:Nat) < 1000 by decide),?_⟩;rw [iL,show c2 (aa "many") (V.int (rows.length:Int)) [(aa "crossing",V.ref c)]=[(aa "crossing",V.ref c),(aa "many",V.int (rows.length:Int))] from f3 [aa "crossing"] rfl (by ac_nf)];exact bV _ _ ⟨fun b u ae e=>by rw [aF ae];exact cT _ _ ae e,cw.upd,db,rfl⟩
 rintro cC az ⟨e',cV,a2,rfl⟩;have eN:=R.s' e' aX;subst aJ;refine cZ (fun aA I=>cU a H I/\aP I/\∃ le,I a=some (.ins t.e5 ar [(aa "crossing",V.ref c),(aa "many",V.int (rows.length:Int)),(aa "leasts",V.ref le)])/\I le=some (.lst (rows.map fun r=>V.int r.lo))/\aA=[~~~a,~~~c,~~~p,none,none]) (fun b3 bV=>?_) fun cN aJ=>?_
 .nofun;refine ⟨⟨_,aD.of eN.at_⟩,?_⟩;refine da.lg (xs:=qs.map V.ref) (zs:=rows.map fun r=>V.int r.lo) (aD.of eN.at_) gO (by rw [iL,aU]) (fun j v z N aK aQ bu=>?_) (fun pl cY=>?_)
  .obtain ⟨jK,eG,rfl⟩:=cA aK;have aO:j < rows.length:=by rw [<- R.cy];exact (b6.mp eG).1
   have kg:ms[j]? = some (ms[j]'(by rw [R.c1];exact aO)):=a' _;have hi:rows[j]? = some rows[j]:=a' aO;obtain ⟨e,em⟩:=eN.al j jK _ _ eG kg hi;obtain ⟨r,eP,rfl⟩:=cA aQ;rw [hi] at eP;cases eP;nofun;exact ⟨_,cM.of e,rfl,_,_,rfl,_,_,rfl,_,_,rfl,rfl,Sub.t4,bu⟩
  .have n8:pl ≠ a:=fun z=>by rw [z,a2] at cY;cases cY
   refine ⟨_,_,_,(bp cY) _ _ a2,T.jn,T.LX,(show (2:Nat) < 1000 by decide),?_⟩;rw [show c2 (aa "leasts") (V.ref pl) [(aa "crossing",V.ref c),(aa "many",V.int (rows.length:Int))]=[(aa "crossing",V.ref c),(aa "many",V.int (rows.length:Int)),(aa "leasts",V.ref pl)] from f3 [aa "crossing",aa "many"] rfl (by ac_nf)];exact bV _ _ ⟨fun b u ae e=>by rw [aF ae];exact (bp cY) _ _ (e' _ _ ae e),(cV.upd).upd,pl,db,by rw [aF n8];exact db,rfl⟩
 rintro gc bk ⟨fV,dK,le,eR,dY,rfl⟩;have hle:le ≠ a:=b8 dY eR (by intro z;cases z);have lO:=R.s' fV aX;subst aJ;refine cZ (fun aA I=>cU a H I/\aP I/\∃ mo,I a=some (.ins t.e5 ar [(aa "crossing",V.ref c),(aa "many",V.int (rows.length:Int)),(aa "leasts",V.ref le),(aa "mosts",V.ref mo)])/\I le=some (.lst (rows.map fun r=>V.int r.lo))/\I mo=some (.lst (rows.map fun r=>V.int r.ah))/\aA=[~~~a,~~~c,~~~p,none,none]) (fun b3 bV=>?_) fun cN aJ=>?_
 .nofun;refine ⟨⟨_,aD.of lO.at_⟩,?_⟩;refine da.lg (xs:=qs.map V.ref) (zs:=rows.map fun r=>V.int r.ah) (aD.of lO.at_) gO (by rw [iL,aU]) (fun j v z N aK aQ bu=>?_) (fun pl cY=>?_)
  .obtain ⟨jK,eG,rfl⟩:=cA aK;have aO:j < rows.length:=by rw [<- R.cy];exact (b6.mp eG).1
   have kg:ms[j]? = some (ms[j]'(by rw [R.c1];exact aO)):=a' _;have hi:rows[j]? = some rows[j]:=a' aO;obtain ⟨e,em⟩:=lO.al j jK _ _ eG kg hi;obtain ⟨r,eP,rfl⟩:=cA aQ;rw [hi] at eP;cases eP;nofun;exact ⟨_,cM.of e,rfl,_,_,rfl,_,_,rfl,_,_,rfl,rfl,Sub.t4,bu⟩
  .have n8:pl ≠ a:=fun z=>by rw [z,eR] at cY;cases cY
   refine ⟨_,_,_,(bp cY) _ _ eR,T.jn,T.lm,(show (3:Nat) < 1000 by decide),?_⟩;rw [show c2 (aa "mosts") (V.ref pl) [(aa "crossing",V.ref c),(aa "many",V.int (rows.length:Int)),(aa "leasts",V.ref le)]=[(aa "crossing",V.ref c),(aa "many",V.int (rows.length:Int)),(aa "leasts",V.ref le),(aa "mosts",V.ref pl)] from f3 [aa "crossing",aa "many",aa "leasts"] rfl (by ac_nf)];exact bV _ _ ⟨fun b u ae e=>by rw [aF ae];exact (bp cY) _ _ (fV _ _ ae e),(dK.upd).upd,pl,db,by rw [aF hle];exact (bp cY) _ _ dY,by rw [aF n8];exact db,rfl⟩
 rintro lq cJ ⟨dD,dR,mo,oZ,f4,s8,rfl⟩;have rF:mo ≠ a:=b8 s8 oZ (by intro z;cases z);have lI:=R.s' dD aX;subst aJ;refine cZ (fun aA I=>cU a H I/\aP I/\∃ c8,I a=some (.ins t.e5 ar [(aa "crossing",V.ref c),(aa "many",V.int (rows.length:Int)),(aa "leasts",V.ref le),(aa "mosts",V.ref mo),(aa "members",V.ref c8)])/\I le=some (.lst (rows.map fun r=>V.int r.lo))/\I mo=some (.lst (rows.map fun r=>V.int r.ah))/\I c8=some (.lst (ms.map V.ref))/\aA=[~~~a,~~~c,~~~p,none,none]) (fun b3 bV=>?_) fun cN aJ=>?_
 .nofun;refine ⟨⟨_,aD.of lI.at_⟩,?_⟩;refine da.lg (xs:=qs.map V.ref) (zs:=ms.map V.ref) (aD.of lI.at_) gO (by rw [iL,aU,R.c1]) (fun j v z N aK aQ bu=>?_) (fun pl cY=>?_)
  .obtain ⟨jK,eG,rfl⟩:=cA aK;have aO:j < rows.length:=by rw [<- R.cy];exact (b6.mp eG).1
   have kg:ms[j]? = some (ms[j]'(by rw [R.c1];exact aO)):=a' _;have hi:rows[j]? = some rows[j]:=a' aO;obtain ⟨e,em⟩:=lI.al j jK _ _ eG kg hi;obtain ⟨c3,qL,rfl⟩:=cA aQ;rw [kg] at qL;cases qL;nofun;exact ⟨_,cM.of e,rfl,_,_,rfl,_,_,rfl,_,_,rfl,rfl,Sub.t4,bu⟩
  .have n8:pl ≠ a:=fun z=>by rw [z,oZ] at cY;cases cY
   refine ⟨_,_,_,(bp cY) _ _ oZ,T.jn,T.F',(show (4:Nat) < 1000 by decide),?_⟩;rw [show c2 (aa "members") (V.ref pl) [(aa "crossing",V.ref c),(aa "many",V.int (rows.length:Int)),(aa "leasts",V.ref le),(aa "mosts",V.ref mo)]=[(aa "crossing",V.ref c),(aa "many",V.int (rows.length:Int)),(aa "leasts",V.ref le),(aa "mosts",V.ref mo),(aa "members",V.ref pl)] from f3 [aa "crossing",aa "many",aa "leasts",aa "mosts"] rfl (by ac_nf)];exact bV _ _ ⟨fun b u ae e=>by rw [aF ae];exact (bp cY) _ _ (dD _ _ ae e),(dR.upd).upd,pl,db,by rw [aF hle];exact (bp cY) _ _ f4,by rw [aF rF];exact (bp cY) _ _ s8,by rw [aF n8];exact db,rfl⟩
 rintro rt dH ⟨eE,iB,c8,uH,ea,OK,ej,rfl⟩;have qn:c8 ≠ a:=b8 ej uH (by intro z;cases z);have F5:=H3 aX eE C;have qj:=R.s' eE aX;subst aJ;refine cZ (fun aA I=>cU a H I/\aP I/\∃ c5,I a=some (.ins t.e5 ar [(aa "crossing",V.ref c),(aa "many",V.int (rows.length:Int)),(aa "leasts",V.ref le),(aa "mosts",V.ref mo),(aa "members",V.ref c8),(aa "sorts",V.ref c5)])/\I le=some (.lst (rows.map fun r=>V.int r.lo))/\I mo=some (.lst (rows.map fun r=>V.int r.ah))/\I c8=some (.lst (ms.map V.ref))/\I c5=some (.lst (aW (rows.map (dx ds))))/\aA=[~~~a,~~~c,~~~p,none,none]) (fun b3 bV=>?_) fun cN aJ=>?_
 .nofun;refine ⟨⟨_,aD.of qj.at_⟩,?_⟩;refine da.lg (xs:=qs.map V.ref) (zs:=aW (rows.map (dx ds))) (aD.of qj.at_) gO (by rw [iL,fo,aU]) (fun j v z N aK aQ bu=>?_) (fun pl cY=>?_)
  .obtain ⟨jK,eG,rfl⟩:=cA aK;have aO:j < rows.length:=by rw [<- R.cy];exact (b6.mp eG).1
   have kg:ms[j]? = some (ms[j]'(by rw [R.c1];exact aO)):=a' _;have hi:rows[j]? = some rows[j]:=a' aO;obtain ⟨e,em⟩:=qj.al j jK _ _ eG kg hi;unfold aW at aQ;obtain ⟨y,a7,rfl⟩:=cA aQ;obtain ⟨r,eP,rfl⟩:=cA a7;rw [hi] at eP;cases eP;obtain ⟨nm,ajB,jT⟩:=sx (b4 _ (cB hi));obtain ⟨d,hd,qf⟩:=J.uo _ (cB hi) nm (by rw [jT];exact l4 ..);obtain ⟨i,ah⟩:=jv hd;have af_:dx ds rows[j]=hZ d:=by
    unfold dx;rw [jT];show ((h6 ds nm).map hZ).getD _=_;rw [<- qf,iN fv ah];rfl
   rw [af_] at bu;rw [jT] at em;nofun;exact ⟨_,cM.of e,rfl,_,_,rfl,_,_,rfl,_,_,rfl,rfl,Sub.t4,_,rfl,_,aD.of em,_,cg (j:=0) rfl,c,n,ds,i,d,by rw [qf],F5,ah,(bJ d hd).2.1,bu⟩
  .have n8:pl ≠ a:=fun z=>by rw [z,uH] at cY;cases cY
   refine ⟨_,_,_,(bp cY) _ _ uH,T.jn,T.SI,(show (5:Nat) < 1000 by decide),?_⟩;rw [show c2 (aa "sorts") (V.ref pl) [(aa "crossing",V.ref c),(aa "many",V.int (rows.length:Int)),(aa "leasts",V.ref le),(aa "mosts",V.ref mo),(aa "members",V.ref c8)]=[(aa "crossing",V.ref c),(aa "many",V.int (rows.length:Int)),(aa "leasts",V.ref le),(aa "mosts",V.ref mo),(aa "members",V.ref c8),(aa "sorts",V.ref pl)] from f3 [aa "crossing",aa "many",aa "leasts",aa "mosts",aa "members"] rfl (by ac_nf)];exact bV _ _ ⟨fun b u ae e=>by rw [aF ae];exact (bp cY) _ _ (eE _ _ ae e),(iB.upd).upd,pl,db,by rw [aF hle];exact (bp cY) _ _ ea,by rw [aF rF];exact (bp cY) _ _ OK,by rw [aF qn];exact (bp cY) _ _ ej,by rw [aF n8];exact db,rfl⟩
 rintro lW hH ⟨eB,kh,c5,p_,mm,L1,ia,Mb,rfl⟩;have pN:c5 ≠ a:=b8 Mb p_ (by intro z;cases z);have Ay:=R.s' eB aX;have Rf:lB hH c8 ms (rows.map (·.mem)):=⟨ia,by rw [R.c1,aU],fun i m x hm ag=>by
  obtain ⟨r,eP,rfl⟩:=cA ag;have gM:qs[i]? = some (qs[i]'(by rw [R.cy];exact (b6.mp eP).1)):=a' _;exact (Ay.al i _ m r gM hm eP).2⟩
 subst aJ;refine cZ (fun aA I=>cU a H I/\aP I/\∃ aS,I a=some (.ins t.e5 ar [(aa "crossing",V.ref c),(aa "many",V.int (rows.length:Int)),(aa "leasts",V.ref le),(aa "mosts",V.ref mo),(aa "members",V.ref c8),(aa "sorts",V.ref c5),(aa "homes",V.ref aS)])/\I le=some (.lst (rows.map fun r=>V.int r.lo))/\I mo=some (.lst (rows.map fun r=>V.int r.ah))/\lB I c8 ms (rows.map (·.mem))/\I c5=some (.lst (aW (rows.map (dx ds))))/\I aS=some (.bw (gJ (rows.map (·.mem))))/\aA=[~~~a,~~~c,~~~p,none,none]) (fun b3 bV=>?_) fun cN aJ=>?_
 .nofun;refine ⟨_,⟨_,ar,_,p_,T.jn,T.F',gf [aa "crossing",aa "many",aa "leasts",aa "mosts",aa "members",aa "sorts"] 4 rfl (by ac_nf) rfl⟩,c8,ms,rows.map (·.mem),rfl,Rf,by rw [aU];exact J.ln,fun x ag=>?_,fun h H1 s1 afj eM af=>?_⟩
  .obtain ⟨r,eP,rfl⟩:=cp.mp ag;exact J.f9 r eP
  .have Ir:h ≠ a:=b8 af (s1 _ _ p_) (by intro z;cases z);refine ⟨_,_,_,s1 _ _ p_,T.jn,T.N3,(show (6:Nat) < 1000 by decide),?_⟩;rw [show c2 (aa "homes") (V.ref h) [(aa "crossing",V.ref c),(aa "many",V.int (rows.length:Int)),(aa "leasts",V.ref le),(aa "mosts",V.ref mo),(aa "members",V.ref c8),(aa "sorts",V.ref c5)]=[(aa "crossing",V.ref c),(aa "many",V.int (rows.length:Int)),(aa "leasts",V.ref le),(aa "mosts",V.ref mo),(aa "members",V.ref c8),(aa "sorts",V.ref c5),(aa "homes",V.ref h)] from f3 [aa "crossing",aa "many",aa "leasts",aa "mosts",aa "members",aa "sorts"] rfl (by ac_nf)];exact bV _ _ ⟨fun b u ae e=>by rw [aF ae];exact s1 _ _ (eB _ _ ae e),(afj kh).upd,h,db,by rw [aF hle];exact s1 _ _ mm,by rw [aF rF];exact s1 _ _ L1,(Rf.same s1).upd (s1 _ _ p_) (by intro xs z;cases z),by rw [aF pN];exact s1 _ _ Mb,by rw [aF Ir];exact af,rfl⟩
 rintro ji ft ⟨dU,j9,aS,oN,ll,DQ,zX,MD,Co,rfl⟩;subst aJ;refine cZ (fun aA I=>cU a H I/\aP I/\∃ ch,H ch=none/\I a=some (.ins t.e5 ar (kA c rows.length le mo c8 c5 aS ch))/\I le=some (.lst (rows.map fun r=>V.int r.lo))/\I mo=some (.lst (rows.map fun r=>V.int r.ah))/\lB I c8 ms (rows.map (·.mem))/\I c5=some (.lst (aW (rows.map (dx ds))))/\I aS=some (.bw (gJ (rows.map (·.mem))))/\ib P w I ch []/\(ch ≠ a/\ch ≠ le/\ch ≠ mo/\ch ≠ c8/\ch ≠ c5/\ch ≠ aS/\ch ∉ ms)/\aA=[~~~a,~~~c,~~~p,none,none]) (fun b3 bV=>?_) fun cN aJ=>?_
 .nofun;intro ch o hg Uy;have vj:ch ≠ a:=fun z=>by rw [z,oN] at hg;cases hg
  have aeW:H ch=none:=by
   cases e:H ch with
   | none=>rfl
   | some u=>rw [dU _ _ vj e] at hg;cases hg
  have r7:∀ {b:Addr} {u:f6},ft b=some u->ch ≠ b:=fun e z=>by rw [<- z,hg] at e;cases e
  have afJ:ch ∉ ms:=fun z=>by
   obtain ⟨i,ah⟩:=jv z;have ha:i < (rows.map (·.mem)).length:=by rw [<- zX.ln];exact (b6.mp ah).1
   exact r7 (zX.al i ch _ ah (a' ha)) rfl
  have jP:ac ft (upd ft ch (.ext (nJ ch o))):=bp hg;refine ⟨_,_,_,jP _ _ oN,T.jn,T.QR,(show (7:Nat) < 1000 by decide),?_⟩;rw [show c2 (aa "changes") (V.ref ch) [(aa "crossing",V.ref c),(aa "many",V.int (rows.length:Int)),(aa "leasts",V.ref le),(aa "mosts",V.ref mo),(aa "members",V.ref c8),(aa "sorts",V.ref c5),(aa "homes",V.ref aS)]=kA c rows.length le mo c8 c5 aS ch from f3 [aa "crossing",aa "many",aa "leasts",aa "mosts",aa "members",aa "sorts",aa "homes"] rfl (by ac_nf)];have Ir:aS ≠ a:=b8 Co oN (by intro z;cases z);exact bV _ _ ⟨fun b u ae e=>by rw [aF ae];exact jP _ _ (dU _ _ ae e),(j9.upd).upd,ch,aeW,db,by rw [aF hle];exact jP _ _ ll,by rw [aF rF];exact jP _ _ DQ,(zX.same jP).upd (jP _ _ oN) (by intro xs z;cases z),by rw [aF pN];exact jP _ _ MD,by rw [aF Ir];exact jP _ _ Co,X' Uy (eg vj) (fun xs z=>by rw [jP _ _ oN] at z;cases z),⟨vj,r7 ll,r7 DQ,r7 zX.at_,r7 MD,r7 Co,afJ⟩,rfl⟩
 rintro sP iG ⟨dn,nD,ch,hg,r8,f8,afv,Up,Um,Vo,VW,n0,rfl⟩;subst aJ;nofun;have fp:=J.ln;refine ⟨_,B1 T r8,_,rfl,by omega,by omega,?_⟩;rw [nd];refine dP.range (fun i σ I=>(∃ x y,σ=[~~~a,~~~c,~~~p,x,y])/\cU a H I/\aP I/\I a=some (.ins t.e5 ar (kA c rows.length le mo c8 c5 aS ch))/\I le=some (.lst (rows.map fun r=>V.int r.lo))/\I mo=some (.lst (rows.map fun r=>V.int r.ah))/\lB I c8 ms (rows.map (·.mem))/\I c5=some (.lst (aW (rows.map (dx ds))))/\I aS=some (.bw (gJ (rows.map (·.mem))))/\∃ kvs,ib P w I ch kvs/\No n ds rows i 0 kvs) ⟨⟨_,_,rfl⟩,dn,nD,r8,f8,afv,Up,Um,Vo,[],VW,No.nil n ds rows⟩ ?_ ?_
 .rintro i σ I ah bh;ac_rfl
  obtain ⟨⟨x,y,rfl⟩,mF,ve,zV,Dn,D7,uW,Gk,CT,kvs,C4,Ek⟩:=bh;have iZ:rows[i]? = some rows[i]:=a' ah;have qc:ms[i]? = some (ms[i]'(by rw [R.c1];exact ah)):=a' _;subst aJ;nofun;refine ⟨_,B1 T zV,_,rfl,by omega,by omega,?_⟩;rw [nd];refine dP.range (fun j σ az=>(∃ y,σ=[~~~a,~~~c,~~~p,some (.int (i:Int)),y])/\cU a H az/\aP az/\az a=some (.ins t.e5 ar (kA c rows.length le mo c8 c5 aS ch))/\az le=some (.lst (rows.map fun r=>V.int r.lo))/\az mo=some (.lst (rows.map fun r=>V.int r.ah))/\lB az c8 ms (rows.map (·.mem))/\az c5=some (.lst (aW (rows.map (dx ds))))/\az aS=some (.bw (gJ (rows.map (·.mem))))/\∃ kvs,ib P w az ch kvs/\No n ds rows i j kvs) ⟨⟨_,rfl⟩,mF,ve,zV,Dn,D7,uW,Gk,CT,kvs,C4,Ek⟩ ?_ ?_
  .rintro j σ az aO bh;ac_rfl
   obtain ⟨⟨y,rfl⟩,iv,um,rE,tB,yP,ng,w_,zr,kvs,xW,wX⟩:=bh;have hi:rows[j]? = some rows[j]:=a' aO;have kg:ms[j]? = some (ms[j]'(by rw [R.c1];exact aO)):=a' _;have UP:=ng.al i _ _ qc (by rw [dm,iZ];rfl);have af':=ng.al j _ _ kg (by rw [dm,hi];rfl);have r5:=cg (xs:=ms.map V.ref) (j:=i) (by rw [dm,qc];rfl);have Gv:=cg (xs:=ms.map V.ref) (j:=j) (by rw [dm,kg];rfl);subst aJ;simp only [gd,jI,jX,oj];by_cases hA:i=j
   .refine dy false (fun Q aV=>?_) (fun z=>nomatch z) (fun _=>?_)
    .nofun;rw [decide_eq_true (by omega)];exact aV
    .simp only [il];subst hA;exact ⟨⟨_,rfl⟩,iv,um,rE,tB,yP,ng,w_,zr,kvs,xW,wX.skip⟩
   .refine dy true (fun Q aV=>?_) (fun _=>?_) (fun z=>nomatch z)
    .nofun;rw [decide_eq_false (by omega)];exact aV
    .nofun;obtain ⟨vj,adn,Y5,UJ,Vw,T',ad8⟩:=n0;refine ⟨_,ET T rE,_,rfl,_,aD.of ng.at_,_,r5,_,ET T rE,_,rfl,_,aD.of ng.at_,_,Gv,c,n,ds,_,_,_,_,rfl,H3 aX iv C,aT,bJ,UP,af',J.uo _ (cB iZ),J.uo _ (cB hi),J.f9 _ (cB iZ),J.f9 _ (cB hi),um,fun v aK=>?_⟩;refine ⟨_,Qe T rE,by decide,fun iT nc=>⟨ch,rfl,kvs,Hp xW (bp nc),stK i j,(show upd az iT (.tup [V.int (i:Int),V.int (j:Int)]) iT=some (f6.tup [V.int (i:Int),V.int (j:Int)]) from db),hp (show kvs.length <= 100 by have:=wX.1;omega) (by decide),fun o Ci=>?_⟩⟩;have qd:ac az (upd az iT (.tup [V.int (i:Int),V.int (j:Int)])):=bp nc;refine ⟨⟨_,rfl⟩,fun b u ae e=>by rw [aF (dB e hg)];exact qd _ _ (iv _ _ ae e),(um.upd).upd,by rw [aF (eg vj)];exact qd _ _ rE,by rw [aF (eg adn)];exact qd _ _ tB,by rw [aF (eg Y5)];exact qd _ _ yP,⟨by rw [aF (eg UJ)];exact qd _ _ ng.at_,ng.ln,fun k m x hm ag=>by rw [aF (fun z=>ad8 (by rw [<- z];exact cB hm))];exact qd _ _ (ng.al k m x hm ag)⟩,by rw [aF (eg Vw)];exact qd _ _ w_,by rw [aF (eg T')];exact qd _ _ zr,_,Ci,wX.put iZ hi aK⟩
  .rintro σ az bh;ac_rfl
   obtain ⟨⟨y,rfl⟩,iv,um,rE,tB,yP,ng,w_,zr,kvs,xW,wX⟩:=bh;subst aJ;exact ⟨⟨_,_,rfl⟩,iv,um,rE,tB,yP,ng,w_,zr,kvs,xW,wX.next fp⟩
 .rintro σ I bh;ac_rfl
  obtain ⟨⟨x,y,rfl⟩,mF,ve,zV,Dn,D7,uW,Gk,CT,kvs,C4,Ek⟩:=bh;subst aJ;exact q _ mF ve ⟨ar,le,mo,c8,c5,aS,ch,ms,kvs,zV,H3 aX mF C,Dn,D7,uW,Gk,CT,C4,Ek⟩
noncomputable def qZ (ds:List a0):List (List Str)->Nat->List ST->Except (Nat × Nat) (List ST)
 | [],_,rows=>.ok rows
 | ws :: r,i,rows=>if rows.length=6 then .error (i,0) else match pp ds rows ws with
  | .error k=>.error (i,k)
  | .ok s=>qZ ds r (i + 1) (rows ++ [s])
def VO (P:Program) (w:World) (t:bR):bN:=fun vs H Q _=>∃ c n ds x rows,vs=[.ref c,.str x]/\fu t H c n ds/\0 < n/\wb ds/\(∀ d ∈ ds,d.name ≠ aa "")/\x.length <= 20000/\(gX x).length <= 100/\(∀ r ∈ gX x,r ≠ []/\r.length <= 1000/\∀ y ∈ r,y.length <= 1000)/\aP H /\
 qZ ds (gX x) 0 []=.ok rows/\gE ds rows=[]/\tT ds rows=none/\s_ n ds rows=none/\∀ a I,ac H I->aP I->hh P w t I a c n ds rows->Q (.ref a) I
theorem Y3 {left ws ms:List Str} (h:lp ds left ws=.ok ms):ms ≠ []/\ms.Nodup/\∀ x ∈ ms,x ∈ left:=by
 unfold lp at h;split at h
 .rename_i gw;obtain ⟨af,⟨more,ao⟩,a_⟩:=KF h (by simp);refine ⟨by rw [ao];simp,af,fun x ag=>?_⟩;rcases a_ x ag with z | z
  .rw [eC.mp z];exact gw
  .exact (lT.mp z).1
 .cases h
theorem Nj {rows:List ST} (h:pp ds rows ws=.ok s):s.mem ≠ []/\s.mem.Nodup/\∀ x ∈ s.mem,x ∈ gE ds rows:=by
 unfold pp at h;split at h
 .cases au:kd (aC ws 1) 1 60 with
  | none=>rw [au] at h;cases h
  | some lo=>
   rw [au] at h;replace h:((kd (aC ws 2) lo 60).elim (.error 2) fun ah=>match lp ds (gE ds rows) ws with | .error k=>.error k | .ok ms=>.ok (⟨lo,ah,ms⟩:ST))=pF s:=h;cases aI:kd (aC ws 2) lo 60 with
   | none=>rw [aI] at h;cases h
   | some ah=>
    rw [aI] at h;replace h:(match lp ds (gE ds rows) ws with | .error k=>.error k | .ok ms=>.ok (⟨lo,ah,ms⟩:ST))=pF s:=h;cases bO:lp ds (gE ds rows) ws with
    | error k=>rw [bO] at h;cases h
    | ok ms=>
     rw [bO] at h;replace h:pF (⟨lo,ah,ms⟩:ST)=pF (ε:=Nat) s:=h;cases h;exact Y3 bO
 .cases h
theorem oK.snoc {rows:List ST} (J:oK ds rows) (aM:ds.length <= 12) (ia:rows.length ≠ 6) (h:pp ds rows ws=.ok s):oK ds (rows ++ [s])/\s.mem.length <= 12:=by
 obtain ⟨af,ao,a_⟩:=Nj h;have K9:s.mem.length <= 12:=by
  have:=OI ao a_;have cL:(gE ds rows).length <= ds.length:=by
   unfold gE;exact c4 (Aj ..) (by rw [aU];exact bW _)
  omega
 refine ⟨⟨?_,fun r ak=>?_,fun r ak x ag=>?_⟩,K9⟩
 .have:=J.ln;rw [c6];show rows.length + 1 <= 6;omega
 .rcases f5.mp ak with z | z
  .exact J.f9 r z
  .rw [eC.mp z];exact K9
 .rcases f5.mp ak with z | z
  .exact J.uo r z x ag
  .rw [eC.mp z] at ag;obtain ⟨d,hd,e⟩:=cp.mp (lT.mp (a_ x ag)).1;exact ⟨d,hd,e⟩
theorem R' {xs:List Str} {qs:List Addr} (h:xs ≠ []):aW xs ≠ qs.map V.ref:=fun e=>by
 obtain ⟨y,r,rfl⟩:=sx h;cases qs with
 | nil=>cases e
 | cons a b=>injection e with au _;cases au
theorem ic.snoc {p x m:Addr} {rows:List ST} (R:ic H p qs ms rows) (ag:H x=some (B' s m)) (hm:H m=some (.lst (aW s.mem))) (b4:∀ r ∈ rows,r.mem ≠ []) (ax:s.mem ≠ []):ic (upd H p (.lst (qs.map V.ref ++ [V.ref x]))) p (qs ++ [x]) (ms ++ [m]) (rows ++ [s]):=by
 have kt:∀ {b:Addr} {xs:List V},H b=some (.tup xs)->upd H p (.lst (qs.map V.ref ++ [V.ref x])) b=some (.tup xs):=fun e=>by rw [aF (b8 e R.at_ (by intro z;cases z))];exact e
 have L0:∀ {b:Addr} {xs:List Str},H b=some (.lst (aW xs))->xs ≠ []->upd H p (.lst (qs.map V.ref ++ [V.ref x])) b=some (.lst (aW xs)):=fun e h=>by
  rw [aF (b8 e R.at_ (fun z=>by injection z with z;exact R' h z))];exact e
 refine ⟨by rw [db,fz];rfl,by rw [c6,c6,R.cy];rfl,by rw [c6,c6,R.c1];rfl,fun i q c3 r a b c=>?_⟩;have cy:=R.cy;have c1:=R.c1;rcases lN c with ⟨bB,bT⟩ | ⟨bB,rfl⟩
 .rcases lN a with ⟨_,a2⟩ | ⟨a1,_⟩
  .rcases lN b with ⟨_,ec⟩ | ⟨e_,_⟩
   .obtain ⟨au,aI⟩:=R.al i q c3 r a2 ec bT;exact ⟨kt au,L0 aI (b4 r (cB bT))⟩
   .omega
  .omega
 .rcases lN a with ⟨a1,_⟩ | ⟨_,rfl⟩
  .omega
  .rcases lN b with ⟨e_,_⟩ | ⟨_,rfl⟩
   .omega
   .exact ⟨kt ag,L0 hm ax⟩
theorem adV:cv P base T 7 t.u4 t.uf vM (VO P w t):=by
 have E4:cH P w K mg base dz 6 t.vQ t.uX ["text"] (Ho t):=(Lq T).mono (by decide);have WC:cH P w K mg base dz 6 t.yv t.zE w6 (RD t):=YY T;have aeq:cH P w K mg base dz 6 t.y3 t.AI j7 (tz t):=(XE T).mono (by decide);have VS:cH P w K mg base dz 6 t.ya t.yT j7 (NC t):=(Wf T).mono (by decide);have afq:cH P w K mg base dz 6 t.BG t.z7 j7 (Sz t):=(aeJ T).mono (by decide);have TB:cH P w K mg base dz 5 t.vt t.xZ Ap (Nv P w t):=abH T;exists T.ul.ok FC,9
 obtain ⟨c,n,ds,x,yy,rfl,C,aT,bJ,b4,iF,fp,n9,bE,T9,hle,d1,dg,kn⟩:=h;have xg:∀ d ∈ ds,d.k < 3/\d.name ≠ aa "" := fun d hd=>⟨(bJ d hd).2.1,b4 d hd⟩
 refine ⟨_,(aR (b2 (i:=2) FC.aG (fg aE))
   (aR (be fm rfl (Gc (cf E4 ak T.Po T.Bl.bK T.Nc (ai (U 1) aE))) (cz (i:=3) FC.aG) (aR (dI (cP eo (fq g0 rfl T.gU gK (ai (U 2) aE)) (lz rfl T.Yy T.aaK) (cm _)) (a5 nG) eh)
   (a5 (en (gk iM kO kT ks (U 2) (ai (cf WC ak T.ait T.FL.bK T.aed (ai (U 3) (ai (U 0) (ai (U 2) aE)))) aE))))))
   (aR (en (cf aeq ak T.afB T.DH.bK T.UD (ai (U 0) (ai (U 2) aE))))
   (aR (en (cf VS ak T.Xo T.CV.bK T.Uk (ai (U 0) (ai (U 2) aE))))
   (aR (en (cf afq ak T.agW T.Gm.bK T.Xw (ai (U 0) (ai (U 2) aE))))
   (a5 (cj (ry T.aaY TB ak rfl T.abw T.aah .nil cO (ai (U 0) (ai (U 2) aE)))))))))),?_⟩
 refine cZ (fun aA I=>ac H I/\aP I/\∃ ck,H ck=none/\I ck=some (.lst [])/\aA=[~~~c,some (.str x),~~~ck,none]) (fun b3 bV=>?_) fun cN aJ=>?_
 .nofun;exact ⟨fk _,fun ck fp=>bV _ _ ⟨bp fp,bE.upd,ck,fp,db,rfl⟩⟩
 rintro gg H1 ⟨s1,cw,ck,Be,dk,rfl⟩;subst aJ;simp only [dN];refine qm (fun aA I=>ac H I/\aP I/\(∃ qs ms rows,ic I ck qs ms rows/\oK ds rows/\(∀ r ∈ rows,r.mem ≠ [])/\rows=yy)/\∃ fV,aA=[~~~c,some (.str x),~~~ck,fV]) (fun b3 bV lr _ _=>?_) ?_
 .nofun;refine ⟨x,rfl,iF,fun r ak=>(n9 r ak).2,cw,fun p az uu pJ RR=>?_⟩;obtain ⟨kF,av,hs,gO,rI⟩:=RR;refine ⟨p,rfl,⟨_,aD.of av⟩,?_⟩;have abM:p ≠ ck:=fun z=>by rw [z,dk] at hs;cases hs
  refine dP.list (xs:=kF.map V.ref) (fun i σ I=>(∃ y,σ=[~~~c,some (.str x),~~~ck,y])/\aP I/\ac H I/\I p=some (.lst (kF.map V.ref)) /\
   (∃ qs ms rows,ic I ck qs ms rows/\oK ds rows/\(∀ r ∈ rows,r.mem ≠ [])/\qZ ds ((gX x).drop i) i rows=.ok yy) /\
   ∀ (j:Nat) (q:Addr) (r:List Str),i <= j->kF[j]? = some q->(gX x)[j]? = some r->c7 t I q ((j:Nat):Int) r 0/\H q=none) ?_ ?_ ?_ ?_
  .refine ⟨⟨_,rfl⟩,pJ,s1.trans uu,av,⟨[],[],[],⟨uu _ _ dk,rfl,rfl,fun i q m r h=>by simp at h⟩,⟨fk _,fun r h=>by simp at h,fun r h=>by simp at h⟩,fun r h=>by simp at h,T9⟩,fun j q r _ af ao=>?_⟩;obtain ⟨nT,eG⟩:=rI j q r af ao;exact ⟨nT,s1.free eG⟩
  .rintro i σ I ah bh;ac_rfl
   obtain ⟨_,_,_,h,_⟩:=bh;subst aJ;exact aD.of h
  .rintro i v σ I aK bh;ac_rfl
   obtain ⟨⟨y,rfl⟩,m3,n',vJ,⟨qs,ms,rows,qu,gy,qn,d9⟩,Rs⟩:=bh;obtain ⟨q,aN,rfl⟩:=cA aK;obtain ⟨ah,_⟩:=b6.mp aN;have k8:i < (gX x).length:=by omega
   have ak:(gX x)[i]? = some (gX x)[i]:=a' k8;obtain ⟨mP,iL⟩:=Rs i q _ (bW _) aN ak;obtain ⟨_,Ae,akN,gM,zj⟩:=id mP;subst aJ;rw [q8 k8] at d9;unfold qZ at d9;simp only [gd,dN,jI,jX];refine CH (fun aA bk=>bk=I/\rows.length ≠ 6/\aA=[~~~c,some (.str x),~~~ck,~~~q]) (fun ajG Ci=>?_) fun cN aJ=>?_
   .refine dy (decide (rows.length=6)) (fun hS aV=>?_) (fun ae=>?_) (fun ae=>?_)
    .nofun;refine ⟨_,.inl (aD.of qu.at_),?_⟩;rw [aU,qu.cy];rw [show decide ((rows.length:Int)=6)=decide (rows.length=6) from decide_eq_decide.mpr (by omega)];exact aV
    .have ae:=of_decide_eq_true ae;rw [if_pos ae] at d9;cases d9
    .simp only [il];exact Ci _ _ ⟨rfl,of_decide_eq_false ae,rfl⟩
   rintro gc bk ⟨rfl,ia,rfl⟩;subst aJ;rw [if_neg ia] at d9;cases n3:pp ds rows (gX x)[i] with
   | error k=>rw [n3] at d9;cases d9
   | ok s=>
    rw [n3] at d9;replace d9:qZ ds ((gX x).drop (i + 1)) (i + 1) (rows ++ [s])=.ok yy:=d9;nofun;refine ⟨.inl ⟨_,aD.of qu.at_⟩,q,_,(gX x)[i],c,n,ds,ck,qs,ms,rows,s,rfl,mP,C.same n',xg,qu,gy.ln,gy.f9,m3,n3,?_⟩;intro fO m cJ s4 Ex uG Il ajh aiN;have Ko:=(Nj n3).1;have lI:=qu.vq s4 mP;have ad9:ac H cJ:=uY n' s4 iL;have WQ:=gy.snoc C.1.2 ia n3;have zw:=gy.ln;refine ⟨_,lI.at_,hp (show (qs.map V.ref).length <= 6 by rw [aU,lI.cy];exact zw) (by decide),⟨_,rfl⟩,Ex.upd,ad9.fC Be,by rw [aF abM];exact s4 _ _ (b8 vJ gM (by intro z;cases z)) vJ,⟨qs ++ [fO],ms ++ [m],rows ++ [s],lI.snoc uG Il qn Ko,WQ.1,fun r eP=>?_,d9⟩,fun j ef r aO af ao=>?_⟩
    .rcases f5.mp eP with z | z
     .exact qn r z
     .rw [eC.mp z];exact Ko
    .obtain ⟨nT,eG⟩:=Rs j ef r (by omega) af ao;have qj:=nT.uT s4 (FM nT mP (by omega)) mP.ins;refine ⟨?_,eG⟩;obtain ⟨aQ,g5,a9,au,aI⟩:=qj;exact ⟨aQ,g5,a9,by rw [aF (b8 au lI.at_ (by intro z;cases z))];exact au,by rw [aF (b8 aI lI.at_ (fun z=>by injection z with z;exact R' (n9 r (cB ao)).1 z))];exact aI⟩
  .rintro σ I bh;ac_rfl
   obtain ⟨⟨y,rfl⟩,m3,n',vJ,⟨qs,ms,rows,qu,gy,qn,d9⟩,Rs⟩:=bh;subst aJ;rw [aU,gO,uE] at d9;replace d9:(pF rows:Except (Nat × Nat) (List ST))=.ok yy:=d9;exact bV _ _ ⟨n',m3,⟨qs,ms,rows,qu,gy,qn,Except.ok.inj d9⟩,_,rfl⟩
 rintro cC az bh;ac_rfl
 obtain ⟨s2,cV,⟨qs,ms,rows,eN,bP,qn,fK⟩,fV,rfl⟩:=bh;subst aJ;subst fK;have SQ:=C.same s2;nofun;refine ⟨c,n,ds,ck,qs,ms,rows,rfl,SQ,eN,bP,hle,fun bk s3 adX=>?_⟩;have dK:=adX cV;have Vy:=s2.trans s3;refine ⟨c,n,ds,ck,qs,ms,rows,rfl,SQ.same s3,eN.same s3,bP,hle,d1,fun cJ s4 aez=>?_⟩;have dR:=aez dK;have KN:=Vy.trans s4;refine ⟨c,n,ds,ck,qs,ms,rows,rfl,C.same KN,aT,(eN.same s3).same s4,bP,dR,dg,fun dH s5 afK a ar aX vz alw=>?_⟩;have iB:=afK dR;have Ce:=KN.trans s5;have sc:ac dH (upd (upd dH ar (.own a)) a (.ins t.e5 ar [])):=((ac.refl dH).fC vz).fC aX;refine ⟨a,ar,c,n,ds,ck,qs,ms,rows,rfl,db,(C.same Ce).same sc,aT,bJ,(((eN.same s3).same s4).same s5).same sc,bP,qn,(iB.upd).upd,fun hH gV kh el=>⟨rfl,?_⟩⟩;exact kn a hH (uY (Ce.trans sc) gV (Ce.free aX)) kh el
def abx (P:Program) (w:World) (t:bR):bN:=fun vs H Q _=>∃ a c n ds rows,∃ i j:Nat,∃ r s,vs=[.ref a,.int i,.int j]/\hh P w t H a c n ds rows/\rows[i]? = some r/\rows[j]? = some s/\i ≠ j/\aP H/\∀ v,rl (ie n ds r.mem s.mem) v->Q (.int v) H
def Zr (P:Program) (w:World) (t:bR):bN:=fun vs H Q _=>∃ a c n ds rows,∃ i j:Nat,∃ r s,vs=[.ref a,.int i,.int j]/\hh P w t H a c n ds rows/\rows[i]? = some r/\rows[j]? = some s/\i ≠ j/\∀ v I,ac H I->rl (ie n ds r.mem s.mem) v->Q (.int v) I
theorem OH:cv P base T 1 t.Jj t.FJ BP (abx P w t):=by
 refine cH.forget (sp:=Zr P w t) ?_ fun vs H Q E h=>?_
 .exists T.xi.ok abz,9
  obtain ⟨a,c,n,ds,rows,i,j,r,aj,rfl,⟨ar,le,mo,c8,c5,aS,ch,ms,kvs,au,_,_,_,_,_,_,adF,ad5⟩,ah,aO,hA,q⟩:=h;have bq:=g7 ak;obtain ⟨v,aK,Aq⟩:=ad5.2 i j r aj ah aO hA (.inl (b6.mp ah).1);refine ⟨_,(a5 (cj (ach bq (bG (U 0) rfl) (pz (ai (U 1) (ai (U 2) aE))) (fun _ _=>rfl)))),?_⟩;nofun;exact ⟨_,Qe T au,by decide,fun p av=>⟨ch,rfl,kvs,Hp adF (bp av),stK i j,db,_,aK,q v _ (bp av) Aq⟩⟩
 .obtain ⟨a,c,n,ds,rows,i,j,r,aj,rfl,el,ah,aO,hA,bE,q⟩:=h;exact ⟨bE,a,c,n,ds,rows,i,j,r,aj,rfl,el,ah,aO,hA,fun v I bQ aK=>⟨bQ,q v aK⟩⟩
noncomputable abbrev la:List Str:=[aa "stages",aa "showing",aa "lasted",aa "left",aa "sought",aa "gone",aa "waiting",aa "picked"]
noncomputable def fb (aY:Addr) (b0:V) (cQ lf bf ct:Int) (aC aZ:Addr):List (Str × V):=[(aa "stages",V.ref aY),(aa "showing",b0),(aa "lasted",V.int cQ),(aa "left",V.int lf),(aa "sought",V.int bf),(aa "gone",V.int ct),(aa "waiting",V.ref aC),(aa "picked",V.ref aZ)]
theorem iw (aY:Addr) (b0:V) (cQ lf bf ct:Int) (aC aZ:Addr):(fb aY b0 cQ lf bf ct aC aZ).map (·.1)=la:=rfl
theorem MI (aY:Addr) (b0:V) (cQ lf bf ct:Int) (aC aZ:Addr) (v:V):c2 (aa "showing") v (fb aY b0 cQ lf bf ct aC aZ)=fb aY v cQ lf bf ct aC aZ:=by
 unfold fb;simp only [c2];rw [if_neg (by ac_nf)];rfl
theorem RK (aY:Addr) (b0:V) (cQ lf bf ct:Int) (aC aZ:Addr) (v:Int):c2 (aa "lasted") (.int v) (fb aY b0 cQ lf bf ct aC aZ)=fb aY b0 v lf bf ct aC aZ:=by
 unfold fb;simp only [c2];rw [if_neg (by ac_nf),if_neg (by ac_nf)];rfl
theorem aen (aY:Addr) (b0:V) (cQ lf bf ct:Int) (aC aZ:Addr) (v:Int):c2 (aa "left") (.int v) (fb aY b0 cQ lf bf ct aC aZ)=fb aY b0 cQ v bf ct aC aZ:=by
 unfold fb;simp only [c2];rw [if_neg (by ac_nf),if_neg (by ac_nf),if_neg (by ac_nf)];rfl
theorem aaJ (aY:Addr) (b0:V) (cQ lf bf ct:Int) (aC aZ:Addr) (v:Int):c2 (aa "sought") (.int v) (fb aY b0 cQ lf bf ct aC aZ)=fb aY b0 cQ lf v ct aC aZ:=by
 unfold fb;simp only [c2];rw [if_neg (by ac_nf),if_neg (by ac_nf),if_neg (by ac_nf),if_neg (by ac_nf)];rfl
theorem JU (aY:Addr) (b0:V) (cQ lf bf ct:Int) (aC aZ:Addr) (v:Int):c2 (aa "gone") (.int v) (fb aY b0 cQ lf bf ct aC aZ)=fb aY b0 cQ lf bf v aC aZ:=by
 unfold fb;simp only [c2];rw [if_neg (by ac_nf),if_neg (by ac_nf),if_neg (by ac_nf),if_neg (by ac_nf),if_neg (by ac_nf)];rfl
section
variable {w:World} {K:ba} {mg:Str->Option Value} {t:bR} {H:aq} {a c ar le mo c8 c5 aS ch:Addr} {k:Nat}
theorem Do (T:Txt w K mg t) (e:H a=some (.ins t.e5 ar (kA c k le mo c8 c5 aS ch))):fE K H a (aa "crossing") (.ref c):=⟨_,ar,_,e,T.jn,T.Ou,gf ob 0 (pS ..) (by ac_nf) rfl⟩
theorem sa (T:Txt w K mg t) (e:H a=some (.ins t.e5 ar (kA c k le mo c8 c5 aS ch))):fE K H a (aa "sorts") (.ref c5):=⟨_,ar,_,e,T.jn,T.SI,gf ob 5 (pS ..) (by ac_nf) rfl⟩
theorem yf (T:Txt w K mg t) (e:H a=some (.ins t.e5 ar (kA c k le mo c8 c5 aS ch))):fE K H a (aa "homes") (.ref aS):=⟨_,ar,_,e,T.jn,T.N3,gf ob 6 (pS ..) (by ac_nf) rfl⟩
end
theorem mr (aY:Addr) (b0:V) (cQ lf bf ct:Int) (aC aZ:Addr) (h:la.contains m=false):(fb aY b0 cQ lf bf ct aC aZ).lookup m=none:=uk la (iw ..) h
section
variable {w:World} {K:ba} {mg:Str->Option Value} {t:bR} {H:aq} {k aY ar aC aZ:Addr} {b0:V} {cQ lf bf ct:Int}
theorem i0 (T:Txt w K mg t) (e:H k=some (.ins t.c_ ar (fb aY b0 cQ lf bf ct aC aZ))):fE K H k (aa "stages") (.ref aY):=⟨_,ar,_,e,T.eU,T.Kf,gf la 0 (iw ..) (by ac_nf) rfl⟩
theorem pj (T:Txt w K mg t) (e:H k=some (.ins t.c_ ar (fb aY b0 cQ lf bf ct aC aZ))):fE K H k (aa "showing") b0:=⟨_,ar,_,e,T.eU,T.y7,gf la 1 (iw ..) (by ac_nf) rfl⟩
theorem vY (T:Txt w K mg t) (e:H k=some (.ins t.c_ ar (fb aY b0 cQ lf bf ct aC aZ))):fE K H k (aa "waiting") (.ref aC):=⟨_,ar,_,e,T.eU,T.So,gf la 6 (iw ..) (by ac_nf) rfl⟩
theorem Jp (T:Txt w K mg t) (e:H k=some (.ins t.c_ ar (fb aY b0 cQ lf bf ct aC aZ))):fE K H k (aa "picked") (.ref aZ):=⟨_,ar,_,e,T.eU,T.P2,gf la 7 (iw ..) (by ac_nf) rfl⟩
theorem Ki (T:Txt w K mg t) (e:H k=some (.ins t.c_ ar (fb aY b0 cQ lf bf ct aC aZ))):fE K H k (aa "lasted") (.int cQ):=⟨_,ar,_,e,T.eU,T.zM,gf la 2 (iw ..) (by ac_nf) rfl⟩
theorem Dc (T:Txt w K mg t) (e:H k=some (.ins t.c_ ar (fb aY b0 cQ lf bf ct aC aZ))):fE K H k (aa "left") (.int lf):=⟨_,ar,_,e,T.eU,T.CP,gf la 3 (iw ..) (by ac_nf) rfl⟩
theorem wu (T:Txt w K mg t) (e:H k=some (.ins t.c_ ar (fb aY b0 cQ lf bf ct aC aZ))):fE K H k (aa "sought") (.int bf):=⟨_,ar,_,e,T.eU,T.Jq,gf la 4 (iw ..) (by ac_nf) rfl⟩
theorem Jh (T:Txt w K mg t) (e:H k=some (.ins t.c_ ar (fb aY b0 cQ lf bf ct aC aZ))):fE K H k (aa "gone") (.int ct):=⟨_,ar,_,e,T.eU,T.AG,gf la 5 (iw ..) (by ac_nf) rfl⟩
end
section
variable {w:World} {K:ba} {mg:Str->Option Value} {t:bR} {H:aq} {a c ar le mo c8 c5 aS ch:Addr} {k:Nat}
theorem afk (T:Txt w K mg t) (e:H a=some (.ins t.e5 ar (kA c k le mo c8 c5 aS ch))):fE K H a (aa "leasts") (.ref le):=⟨_,ar,_,e,T.jn,T.LX,gf ob 2 (pS ..) (by ac_nf) rfl⟩
theorem ah7 (T:Txt w K mg t) (e:H a=some (.ins t.e5 ar (kA c k le mo c8 c5 aS ch))):fE K H a (aa "mosts") (.ref mo):=⟨_,ar,_,e,T.jn,T.lm,gf ob 3 (pS ..) (by ac_nf) rfl⟩
end
theorem hh.same {w:World} {t:bR} {rows:List ST} (h:hh P w t H a c n ds rows) (s:ac H I):hh P w t I a c n ds rows:=by
 obtain ⟨ar,le,mo,c8,c5,aS,ch,ms,kvs,au,aI,bO,eD,gh,fi,h9,lP,lu⟩:=h;exact ⟨ar,le,mo,c8,c5,aS,ch,ms,kvs,s _ _ au,aI.same s,s _ _ bO,s _ _ eD,gh.same s,s _ _ fi,s _ _ h9,Hp lP s,lu⟩
noncomputable abbrev eu:Str:=aa "trams"
noncomputable abbrev kp:Str:=aa "others"
structure dG where
 b0:Option Nat
 cQ:Int
 lf:Nat
 bf:Nat
 ct:Int
 wt:List Str
 pt:Int
 po:Int
noncomputable def ou:Option Nat->V
 | none=>.bU
 | some i=>.int (i:Nat)
noncomputable def fT (xs:List Str):List (Key × V):=xs.map fun x=>(bc x,V.bl true)
noncomputable def kR (a b:Int):List (Key × V):=[(bc eu,.int a),(bc kp,.int b)]
def eQ (t:bR) (H:aq) (k aY aC aZ:Addr) (s:dG):Prop:=aC ≠ aZ/\∃ ar,H k=some (.ins t.c_ ar (fb aY (ou s.b0) s.cQ s.lf s.bf s.ct aC aZ))/\H aC=some (.bw (fT s.wt))/\H aZ=some (.bw (kR s.pt s.po))
theorem eQ.same {t:bR} {k aY aC aZ:Addr} (h:eQ t H k aY aC aZ s) (e:ac H I):eQ t I k aY aC aZ s:=by
 obtain ⟨h0,ar,af,ao,a_⟩:=h;exact ⟨h0,ar,e _ _ af,e _ _ ao,e _ _ a_⟩
def gG (k aC aZ:Addr) (H I:aq):Prop:=∀ b u,b ≠ k->b ≠ aC->b ≠ aZ->H b=some u->I b=some u
theorem gG.trans {k aC aZ:Addr} (a:gG k aC aZ H H1) (b:gG k aC aZ H1 az):gG k aC aZ H az:=fun c u x y z e=>b c u x y z (a c u x y z e)
theorem gG.of {k aC aZ:Addr} (a:ac H H1):gG k aC aZ H H1:=fun c u _ _ _ e=>a c u e
theorem gG.wN {k aC aZ:Addr} (a:gG k aC aZ H H1) (s:ac cn H) (af:cn k=none) (ao:cn aC=none) (a_:cn aZ=none):ac cn H1:=fun c u e=>a c u (dB e af) (dB e ao) (dB e a_) (s c u e)
theorem ZJ:i3 [] [(bc eu,V.int (-1)),(bc kp,V.int (-1))]=kR (-1) (-1):=by
 have h:(bc eu:Key) ≠ bc kp:=fun z=>absurd (rK z) (by ac_nf)
 simp [i3,d3,kR,h]
theorem Sf (h:s=eu\/s=kp):d3 (kR a b) (bc s) (.int v)=kR (if s=eu then v else a) (if s=eu then b else v):=by
 have af:eu ≠ kp:=by ac_nf
 rcases h with rfl | rfl
 .simp [d3,kR,af,af.symm]
 .simp [d3,kR,af,af.symm]
theorem aeF (h:s=eu\/s=kp):cu (kR a b) (bc s)=some (.int (if s=eu then a else b)):=by
 have af:eu ≠ kp:=by ac_nf
 rcases h with rfl | rfl
 .simp [cu,kR,af,af.symm]
 .simp [cu,kR,af,af.symm]
theorem aaG (xs:List Str) (x:Str):(cu (fT xs) (bc x)).isSome=decide (x ∈ xs):=by
 rw [kD,decide_eq_true_eq]
 induction xs with
 | nil=>simp [fT,cu]
 | cons y ys b9=>
  by_cases c:y=x
  .simp [fT,cu,c]
  .have c':x ≠ y:=fun z=>c z.symm
   simp only [fT,cu,eV,rR] at b9 ⊢;simp [c,c'] at b9 ⊢
   try exact b9
noncomputable def Su (ds:List a0) (r:ST):dG:=⟨some 0,1,0,0,0,[],if dx ds r=eu then 0 else -1,if dx ds r=eu then -1 else 0⟩
noncomputable def q_ (rows:List ST) (i:Nat) (x:Str):Str:=if et rows x=some i then aa "free" else aa "stop"
section
variable (P:Program) (w:World)
def NI (t:bR):bN:=fun vs H Q _=>∃ k ar aY c n ds rows r,vs=[.ref k,.ref aY]/\H k=some (.ins t.c_ ar [])/\hh P w t H aY c n ds rows/\rows[0]? = some r/\(dx ds r=eu\/dx ds r=kp)/\aP H/\∀ aC aZ I,cU k H I->aP I->H aC=none->H aZ=none->eQ t I k aY aC aZ (Su ds r)->Q .bU I
def aee (t:bR):bN:=fun vs H Q _=>∃ k aY aC aZ s,∃ i:Nat,∃ c n ds rows,∃ d:a0,vs=[.ref k,.str d.name]/\eQ t H k aY aC aZ s/\s.b0=some i/\hh P w t H aY c n ds rows/\told rows d.name=true/\Q (.str (q_ rows i d.name)) H
end
theorem acE:cv P base T 1 t.vL t.Bp vi (NI P w t):=by
 exists T.N9.ok Wa,9
 obtain ⟨k,ar,aY,c,n,ds,rows,r,rfl,aB,el,h0,pN,bE,q⟩:=h;obtain ⟨j0,le,mo,c8,c5,aS,ch,ms,kvs,au,C,bO,eD,gh,fi,h9,lP,lu⟩:=el;have bq:=g7 ak;refine ⟨_,(aR (eS (U 0) (U 1) rfl)
   (aR (eS (U 0) aL rfl)
   (aR (eS (U 0) aL rfl)
   (aR (eS (U 0) aL rfl)
   (aR (eS (U 0) aL rfl)
   (aR (eS (U 0) aL rfl)
   (aR (eS (U 0) zU rfl)
   (aR (eS (U 0) (AZ (Uf cD (GE tC aL) (Uf cD (GE tC aL) Bv)) rfl rfl (by simp) (by decide)) rfl)
   (a5 (tW bq (bG (U 0) rfl) (bX dE (bG (U 1) rfl) aL) aL rfl)))))))))),?_⟩
 refine cZ (fun aA I=>cU k H I/\aP I/\I k=some (.ins t.c_ ar [(aa "stages",V.ref aY)])/\aA=[~~~k,~~~aY]) (fun b3 bV=>?_) fun cN aJ=>?_
 .nofun;refine ⟨_,_,_,aB,T.eU,T.Kf,(show (0:Nat) < 1000 by decide),?_⟩;rw [show c2 (aa "stages") (V.ref aY) ([]:List (Str × V))=[(aa "stages",V.ref aY)] from f3 [] rfl (by ac_nf)];exact bV _ _ ⟨fun b u ae e=>by rw [aF ae];exact e,bE.upd,db,rfl⟩
 rintro gg H1 ⟨cT,cw,a1,rfl⟩;subst aJ;refine cZ (fun aA I=>cU k H I/\aP I/\I k=some (.ins t.c_ ar [(aa "stages",V.ref aY),(aa "showing",V.int 0)])/\aA=[~~~k,~~~aY]) (fun b3 bV=>?_) fun cN aJ=>?_
 .nofun;refine ⟨_,_,_,a1,T.eU,T.y7,(show (1:Nat) < 1000 by decide),?_⟩;rw [show c2 (aa "showing") (V.int 0) ([(aa "stages",V.ref aY)]:List (Str × V))=[(aa "stages",V.ref aY),(aa "showing",V.int 0)] from f3 [aa "stages"] rfl (by ac_nf)];exact bV _ _ ⟨fun b u ae e=>by rw [aF ae];exact cT _ _ ae e,cw.upd,db,rfl⟩
 rintro cC az ⟨e',cV,a2,rfl⟩;subst aJ;refine cZ (fun aA I=>cU k H I/\aP I/\I k=some (.ins t.c_ ar [(aa "stages",V.ref aY),(aa "showing",V.int 0),(aa "lasted",V.int 1)])/\aA=[~~~k,~~~aY]) (fun b3 bV=>?_) fun cN aJ=>?_
 .nofun;refine ⟨_,_,_,a2,T.eU,T.zM,(show (2:Nat) < 1000 by decide),?_⟩;rw [show c2 (aa "lasted") (V.int 1) ([(aa "stages",V.ref aY),(aa "showing",V.int 0)]:List (Str × V))=[(aa "stages",V.ref aY),(aa "showing",V.int 0),(aa "lasted",V.int 1)] from f3 [aa "stages",aa "showing"] rfl (by ac_nf)];exact bV _ _ ⟨fun b u ae e=>by rw [aF ae];exact e' _ _ ae e,cV.upd,db,rfl⟩
 rintro gc bk ⟨fV,dK,eR,rfl⟩;subst aJ;refine cZ (fun aA I=>cU k H I/\aP I/\I k=some (.ins t.c_ ar [(aa "stages",V.ref aY),(aa "showing",V.int 0),(aa "lasted",V.int 1),(aa "left",V.int 0)])/\aA=[~~~k,~~~aY]) (fun b3 bV=>?_) fun cN aJ=>?_
 .nofun;refine ⟨_,_,_,eR,T.eU,T.CP,(show (3:Nat) < 1000 by decide),?_⟩;rw [show c2 (aa "left") (V.int 0) ([(aa "stages",V.ref aY),(aa "showing",V.int 0),(aa "lasted",V.int 1)]:List (Str × V))=[(aa "stages",V.ref aY),(aa "showing",V.int 0),(aa "lasted",V.int 1),(aa "left",V.int 0)] from f3 [aa "stages",aa "showing",aa "lasted"] rfl (by ac_nf)];exact bV _ _ ⟨fun b u ae e=>by rw [aF ae];exact fV _ _ ae e,dK.upd,db,rfl⟩
 rintro lq cJ ⟨dD,dR,oZ,rfl⟩;subst aJ;refine cZ (fun aA I=>cU k H I/\aP I/\I k=some (.ins t.c_ ar [(aa "stages",V.ref aY),(aa "showing",V.int 0),(aa "lasted",V.int 1),(aa "left",V.int 0),(aa "sought",V.int 0)])/\aA=[~~~k,~~~aY]) (fun b3 bV=>?_) fun cN aJ=>?_
 .nofun;refine ⟨_,_,_,oZ,T.eU,T.Jq,(show (4:Nat) < 1000 by decide),?_⟩;rw [show c2 (aa "sought") (V.int 0) ([(aa "stages",V.ref aY),(aa "showing",V.int 0),(aa "lasted",V.int 1),(aa "left",V.int 0)]:List (Str × V))=[(aa "stages",V.ref aY),(aa "showing",V.int 0),(aa "lasted",V.int 1),(aa "left",V.int 0),(aa "sought",V.int 0)] from f3 [aa "stages",aa "showing",aa "lasted",aa "left"] rfl (by ac_nf)];exact bV _ _ ⟨fun b u ae e=>by rw [aF ae];exact dD _ _ ae e,dR.upd,db,rfl⟩
 rintro rt dH ⟨eE,iB,uH,rfl⟩;subst aJ;refine cZ (fun aA I=>cU k H I/\aP I/\I k=some (.ins t.c_ ar [(aa "stages",V.ref aY),(aa "showing",V.int 0),(aa "lasted",V.int 1),(aa "left",V.int 0),(aa "sought",V.int 0),(aa "gone",V.int 0)])/\aA=[~~~k,~~~aY]) (fun b3 bV=>?_) fun cN aJ=>?_
 .nofun;refine ⟨_,_,_,uH,T.eU,T.AG,(show (5:Nat) < 1000 by decide),?_⟩;rw [show c2 (aa "gone") (V.int 0) ([(aa "stages",V.ref aY),(aa "showing",V.int 0),(aa "lasted",V.int 1),(aa "left",V.int 0),(aa "sought",V.int 0)]:List (Str × V))=[(aa "stages",V.ref aY),(aa "showing",V.int 0),(aa "lasted",V.int 1),(aa "left",V.int 0),(aa "sought",V.int 0),(aa "gone",V.int 0)] from f3 [aa "stages",aa "showing",aa "lasted",aa "left",aa "sought"] rfl (by ac_nf)];exact bV _ _ ⟨fun b u ae e=>by rw [aF ae];exact eE _ _ ae e,iB.upd,db,rfl⟩
 rintro lW hH ⟨eB,kh,p_,rfl⟩;subst aJ;refine cZ (fun aA I=>cU k H I/\aP I/\∃ aC,H aC=none/\I k=some (.ins t.c_ ar [(aa "stages",V.ref aY),(aa "showing",V.int 0),(aa "lasted",V.int 1),(aa "left",V.int 0),(aa "sought",V.int 0),(aa "gone",V.int 0),(aa "waiting",V.ref aC)])/\I aC=some (.bw [])/\aA=[~~~k,~~~aY]) (fun b3 bV=>?_) fun cN aJ=>?_
 .nofun;intro aC n2;have Nz:aC ≠ k:=fun z=>by rw [z,p_] at n2;cases n2
  have gA:H aC=none:=by
   cases e:H aC with
   | none=>rfl
   | some u=>have:=eB _ _ Nz e;rw [n2] at this;cases this
  refine ⟨_,_,_,(bp n2) _ _ p_,T.eU,T.So,(show (6:Nat) < 1000 by decide),?_⟩;rw [show c2 (aa "waiting") (V.ref aC) ([(aa "stages",V.ref aY),(aa "showing",V.int 0),(aa "lasted",V.int 1),(aa "left",V.int 0),(aa "sought",V.int 0),(aa "gone",V.int 0)]:List (Str × V))=[(aa "stages",V.ref aY),(aa "showing",V.int 0),(aa "lasted",V.int 1),(aa "left",V.int 0),(aa "sought",V.int 0),(aa "gone",V.int 0),(aa "waiting",V.ref aC)] from f3 [aa "stages",aa "showing",aa "lasted",aa "left",aa "sought",aa "gone"] rfl (by ac_nf)];exact bV _ _ ⟨fun b u ae e=>by rw [aF ae];exact (bp n2) _ _ (eB _ _ ae e),kh.upd.upd,aC,gA,db,by rw [aF Nz];exact db,rfl⟩
 rintro ji ft ⟨dU,j9,aC,gA,oN,IK,rfl⟩;subst aJ;refine cZ (fun aA I=>cU k H I/\aP I/\∃ aZ,I k=some (.ins t.c_ ar (fb aY (.int 0) 1 0 0 0 aC aZ))/\I aC=some (.bw [])/\I aZ=some (.bw (kR (-1) (-1)))/\aZ ≠ aC/\H aZ=none/\aA=[~~~k,~~~aY]) (fun b3 bV=>?_) fun cN aJ=>?_
 .nofun;simp only [qD];nofun;intro aZ l6;have tL:aZ ≠ k:=fun z=>by rw [z,oN] at l6;cases l6
  have iX:aZ ≠ aC:=fun z=>by rw [z,IK] at l6;cases l6
  have hs:H aZ=none:=by
   cases e:H aZ with
   | none=>rfl
   | some u=>have:=dU _ _ tL e;rw [l6] at this;cases this
  refine ⟨db,[(bc (aa "trams"),.int (-1)),(bc (aa "others"),.int (-1))],rfl,by show 2 <= 15;decide,_,_,_,(aF tL.symm).trans ((aF tL.symm).trans oN),T.eU,T.P2,(show (7:Nat) < 1000 by decide),?_⟩;rw [show c2 (aa "picked") (V.ref aZ) ([(aa "stages",V.ref aY),(aa "showing",V.int 0),(aa "lasted",V.int 1),(aa "left",V.int 0),(aa "sought",V.int 0),(aa "gone",V.int 0),(aa "waiting",V.ref aC)]:List (Str × V))=fb aY (.int 0) 1 0 0 0 aC aZ from f3 [aa "stages",aa "showing",aa "lasted",aa "left",aa "sought",aa "gone",aa "waiting"] rfl (by ac_nf)];refine bV _ _ ⟨fun b u ae e=>?_,j9.upd.upd.upd,aZ,db,?_,(aF tL).trans (db.trans (congrArg (fun x=>some (f6.bw x)) (ZJ))),iX,hs,rfl⟩
  .have:=dU _ _ ae e;rw [aF ae,aF (dB this l6),aF (dB this l6)];exact this
  .rw [aF (b8 IK oN (by intro z;cases z)),aF iX.symm,aF iX.symm];exact IK
 rintro sP iG ⟨dn,nD,aZ,r8,ahQ,Li,iX,l6,rfl⟩;subst aJ;nofun;refine ⟨_,Jp T r8,_,sa T (dn _ _ (Dl aB au) au),_,rfl,_,aD.of (dn _ _ (b8 fi aB (by intro z;cases z)) fi),_,cg (j:=0) (qr (by rw [dm,h0];rfl)),_,rfl,_,kv.k (k:=bc (dx ds r)) Li (hp (show (kR (-1) (-1)).length <= 2 from bW 2) (by decide)),q aC aZ _ (fun b u ae e=>?_) nD.upd gA l6 ⟨iX.symm,ar,?_,?_,?_⟩⟩
 .rw [aF (dB e l6)];exact dn _ _ ae e
 .rw [aF (b8 r8 Li (by intro z;cases z))];exact r8
 .rw [aF iX.symm];exact ahQ
 .rw [db,Sf pN];rfl
theorem aaC:cv P base T 1 t.yW t.Hn jf (aee P w t):=by
 exists T.NP.ok agh,9
 obtain ⟨k,aY,aC,aZ,aj,i,c,n,ds,rows,d,rfl,⟨_,ar,cb,dQ,eO⟩,fD,⟨j0,le,mo,c8,c5,aS,ch,ms,kvs,au,C,bO,eD,gh,fi,h9,lP,lu⟩,cS,q⟩:=h;have bq:=g7 ak;obtain ⟨j,r,aO,aB,ix,_⟩:=lG cS;refine ⟨_,(a5 (cj (tE (cP eo (kJ bq (bG (bG (U 0) rfl) rfl) (U 1) (fun _ _=>rfl)) (bG (U 0) rfl) (cm _)) cD cD))),?_⟩;rw [fD] at cb;nofun;have bg:=gb.k (k:=bc d.name) h9;rw [aO] at bg;refine ⟨_,i0 T cb,_,rfl,_,yf T au,_,rfl,_,bg,_,pj T cb,rfl,?_⟩;unfold q_ at q;rw [aB] at q;by_cases hm:j=i
 .rw [if_pos (by rw [hm])] at q;rw [hm,if_pos (show decide (V.int ((i:Nat):Int)=ou (some i))=true from decide_eq_true rfl)];exact q
 .rw [if_neg (fun z=>hm (dh z))] at q;rw [if_neg (show ¬ decide (V.int ((j:Nat):Int)=ou (some i))=true from fun z=>hm (by have z:=of_decide_eq_true z;injection z with z;omega))];exact q
noncomputable def fJ (n:Int) (ds:List a0) (rows:List ST) (i j:Nat):Int:=match rows[i]?,rows[j]? with
 | some r,some s=>((ie n ds r.mem s.mem).max?).getD 0
 | _,_=>0
theorem DF {rows:List ST} (ah:rows[i]? = some r) (aO:rows[j]? = some s) (h:rl (ie n ds r.mem s.mem) v):fJ n ds rows i j=v:=by
 unfold fJ;rw [ah,aO];show ((ie n ds r.mem s.mem).max?).getD 0=v;rw [(List.max?_eq_some_iff (xs:=ie n ds r.mem s.mem) (a:=v)).mpr ⟨h.1,h.2⟩];rfl
noncomputable def rn (n:Int) (ds:List a0) (rows:List ST) (s:dG) (d:a0):Str:=if et rows d.name=some s.lf/\s.ct < d0 d then aa "fade" else if et rows d.name=some s.bf/\fJ n ds rows s.lf s.bf - s.ct <= dM d then aa "ready" else aa "stop"
noncomputable def gR (n:Int) (ds:List a0) (rows:List ST) (s:dG) (d:a0):Str:=match s.b0 with
 | some i=>q_ rows i d.name
 | none=>rn n ds rows s d
section
variable (P:Program) (w:World)
def abF (t:bR):bN:=fun vs H Q _=>∃ k aY aC aZ s c n ds rows,∃ i:Nat,∃ d:a0,vs=[.ref k,.str d.name]/\eQ t H k aY aC aZ s/\hh P w t H aY c n ds rows/\told rows d.name=true/\ds[i]? = some d/\s.lf < rows.length/\s.bf < rows.length/\s.lf ≠ s.bf/\aP H/\Q (.str (rn n ds rows s d)) H
end
theorem afd:cv P base T 3 t.yd t.D5 jf (abF P w t):=by
 refine cG (qG T) fun jW=>cG (OH T) fun Cv=>?_;have B8:n6 P w K mg base dz 2 (sI t) "ready" ["self"] (tx t):=xl (PK T) (by decide);have F2:n6 P w K mg base dz 2 (sI t) "fade" ["self"] (tl t):=xl (MY T) (by decide);exists T.Mk.ok Re,9
 obtain ⟨k,aY,aC,aZ,aj,c,n,ds,rows,i,d,rfl,⟨_,ar,cb,dQ,eO⟩,el,cS,hd,rh,tG,b4,bE,q⟩:=h;obtain ⟨j0,le,mo,c8,c5,aS,ch,ms,kvs,au,C,bO,eD,gh,fi,h9,lP,lu⟩:=id el;have bq:=g7 ak;obtain ⟨⟨fv,gx⟩,Ry,wl,aG,bB,_,_⟩:=id C;obtain ⟨j,r,aO,aB,ix,_⟩:=lG cS;have bg:=gb.k (k:=bc d.name) h9;rw [aO] at bg;refine ⟨_,(aR (b2 (i:=2) Re.aG (e4 (bG (bG (U 0) rfl) rfl) T.hU T.nK jW ak T.nR .nil cO (ai (U 1) aE)))
   (aR (b2 (i:=3) Re.aG (kJ bq (bG (bG (U 0) rfl) rfl) (U 1) (fun _ _=>rfl)))
   (aR (dI (fj.pt (iD (cP eo (U 3) (bG (U 0) rfl) (cm _)) (jA (cP jd (bG (U 0) rfl) (AY (U 2) F2 ak cO) (cm _))))) (a5 (cj cD)) eh)
   (aR (dI (fj.pt (iD (cP eo (U 3) (bG (U 0) rfl) (cm _)) (jA (cP Kt (bD jR (cf Cv ak T.M7 T.xi.bK T.KL (ai (bG (U 0) rfl) (ai (bG (U 0) rfl) (ai (bG (U 0) rfl) aE)))) (bG (U 0) rfl)) (AY (U 2) B8 ak cO) (cm _))))) (a5 (cj cD)) eh)
   (a5 (cj cD)))))),?_⟩
 refine cZ (fun aA I=>I=H/\∃ a,eF t H a d/\aA=[~~~k,some (.str d.name),~~~a,none]) (fun b3 bV=>?_) fun cN aJ=>?_
 .nofun;exact ⟨_,i0 T cb,_,rfl,_,Do T au,_,rfl,_,_,bB,kb _ _ _ (by ac_nf),c,n,ds,i,d,rfl,C,hd,fun a W=>bV _ _ ⟨rfl,a,W,rfl⟩⟩
 rintro gg H1 ⟨rfl,a,W,rfl⟩;subst aJ;refine cZ (fun aA I=>I=H1/\aA=[~~~k,some (.str d.name),~~~a,some (.int (j:Nat))]) (fun b3 bV=>?_) fun cN aJ=>?_
 .nofun;exact ⟨_,i0 T cb,_,rfl,_,yf T au,_,rfl,_,bg,bV _ _ ⟨rfl,rfl⟩⟩
 rintro cC az ⟨rfl,rfl⟩;obtain ⟨th,NW,pY⟩:=id W;subst aJ;unfold rn at q;rw [aB] at q;simp only [dN];refine qm (fun aA I=>I=az/\¬ (some j=some aj.lf/\aj.ct < d0 d)/\aA=[~~~k,some (.str d.name),~~~a,some (.int (j:Nat))]) (fun b3 bV lr _ _=>?_) ?_
 .refine dy (decide (j=aj.lf) && decide (aj.ct < d0 d)) (fun hS aV=>?_) (fun ae=>?_) (fun ae=>?_)
  .nofun;refine ⟨_,Dc T cb,rfl,?_⟩;by_cases b_:j=aj.lf
   .rw [decide_eq_true b_,kG] at aV;rw [if_pos (show decide (V.int ((j:Nat):Int)=V.int ((aj.lf:Nat):Int))=true from decide_eq_true (by rw [b_]))];exact ⟨_,Jh T cb,_,_,_,pY,⟨_,th,rfl⟩,AF (by ac_nf),a,d,rfl,W,rfl,_,rfl,_,rfl,aV⟩
   .rw [decide_eq_false b_,k2] at aV;rw [if_neg (show ¬ decide (V.int ((j:Nat):Int)=V.int ((aj.lf:Nat):Int))=true from fun z=>b_ (by have z:=of_decide_eq_true z;injection z with z;omega))];exact aV
  .rw [hy,decide_eq_true_eq,decide_eq_true_eq] at ae;rw [if_pos ⟨by rw [ae.1],ae.2⟩] at q;nofun;rw [lr];exact q
  .simp only [il];refine bV _ _ ⟨rfl,fun z=>?_,rfl⟩;rw [decide_eq_true (dh z.1),decide_eq_true z.2] at ae;cases ae
 rintro gc bk ⟨rfl,Dd,rfl⟩;rw [if_neg Dd] at q;simp only [dN];refine qm (fun aA I=>I=bk/\¬ (some j=some aj.bf/\fJ n ds rows aj.lf aj.bf - aj.ct <= dM d)/\aA=[~~~k,some (.str d.name),~~~a,some (.int (j:Nat))]) (fun b3 bV lr _ _=>?_) ?_
 .refine dy (decide (j=aj.bf) && decide (fJ n ds rows aj.lf aj.bf - aj.ct <= dM d)) (fun hS aV=>?_) (fun ae=>?_) (fun ae=>?_)
  .nofun;refine ⟨_,wu T cb,rfl,?_⟩;by_cases b_:j=aj.bf
   .rw [decide_eq_true b_,kG] at aV;rw [if_pos (show decide (V.int ((j:Nat):Int)=V.int ((aj.bf:Nat):Int))=true from decide_eq_true (by rw [b_]))];refine ⟨_,i0 T cb,_,Dc T cb,_,wu T cb,aY,c,n,ds,rows,aj.lf,aj.bf,_,_,rfl,el,a' rh,a' tG,b4,bE,fun v aK=>⟨_,Jh T cb,_,rfl,_,rfl,_,_,_,pY,⟨_,th,rfl⟩,AF (by ac_nf),a,d,rfl,W,rfl,_,rfl,?_⟩⟩;rw [DF (a' rh) (a' tG) aK] at aV;exact aV
   .rw [decide_eq_false b_,k2] at aV;rw [if_neg (show ¬ decide (V.int ((j:Nat):Int)=V.int ((aj.bf:Nat):Int))=true from fun z=>b_ (by have z:=of_decide_eq_true z;injection z with z;omega))];exact aV
  .rw [hy,decide_eq_true_eq,decide_eq_true_eq] at ae;rw [if_pos ⟨by rw [ae.1],ae.2⟩] at q;nofun;rw [lr];exact q
  .simp only [il];refine bV _ _ ⟨rfl,fun z=>?_,rfl⟩;rw [decide_eq_true (dh z.1),decide_eq_true z.2] at ae;cases ae
 rintro lq cJ ⟨rfl,p',rfl⟩;rw [if_neg p'] at q;nofun;exact q
theorem ahp {ds:List a0} (h:(ds.map (·.name)).Nodup) {i j:Nat} {d e:a0} (ah:ds[i]? = some d) (aO:ds[j]? = some e) (z:d.name=e.name):i=j:=by
 obtain ⟨af,au⟩:=b6.mp ah;obtain ⟨ao,aI⟩:=b6.mp aO;have e:(ds.map (·.name))[i]'(by simpa using af)=(ds.map (·.name))[j]'(by simpa using ao):=by
  rw [H5,H5,au,aI];exact z
 exact (DE h).mp e
noncomputable def h3 (ds:List a0) (f:a0->Str):List (Key × V):=ds.map fun d=>(bc d.name,V.str (f d))
theorem ahX {ds:List a0} {f:a0->Str} (h:(ds.map (·.name)).Nodup) {i:Nat} {d:a0} (hd:ds[i]? = some d):d3 (h3 (ds.take i) f) (bc d.name) (.str (f d))=h3 (ds.take (i + 1)) f:=by
 unfold d3;have no:((h3 (ds.take i) f).any fun df=>decide (df.1=bc d.name))=false:=by
  rw [NG];intro p av;unfold h3 at av;obtain ⟨e,he,rfl⟩:=cp.mp av;obtain ⟨j,aO⟩:=jv he;have i6:=(b6.mp aO).1;rw [hq] at i6;rw [sq (by omega)] at aO;simp only [decide_eq_true_eq];intro z;have:=ahp h aO hd (rK z);omega
 rw [if_neg (by rw [no];exact fB),jC hd];unfold h3;rw [fz];rfl
theorem zu {ds:List a0} {f:a0->Str} (h:(ds.map (·.name)).Nodup) {i:Nat} {d:a0} (hd:ds[i]? = some d):cu (h3 ds f) (bc d.name)=some (.str (f d)):=by
 have:∀ (l:List a0),(l.map (·.name)).Nodup->d ∈ l->cu (h3 l f) (bc d.name)=some (.str (f d)):=fun l=>by
  induction l with
  | nil=>intro _ h;cases h
  | cons x l b9=>
   intro aT hm;by_cases c:x.name=d.name
   .have:x=d:=by
     rcases fh.mp hm with e | e
     .exact e.symm
     .exact absurd (cp.mpr ⟨d,e,c.symm⟩) (rr.mp aT).1
    subst this;simp [cu,h3]
   .have qL:d ∈ l:=by
     rcases fh.mp hm with e | e
     .exact absurd (by rw [e]) c
     .exact e
    have:=b9 (rr.mp aT).2 qL;simp only [cu,h3,eV,rR] at this ⊢;simp [c] at this ⊢;exact this
 exact this ds h (cB hd)
def XG (rows:List ST) (s:dG):Prop:=s.b0=none->s.lf < rows.length/\s.bf < rows.length/\s.lf ≠ s.bf
def W2 (P:Program) (w:World) (t:bR):bN:=fun vs H Q _=>∃ k aY aC aZ s c n ds rows,vs=[.ref k]/\eQ t H k aY aC aZ s/\hh P w t H aY c n ds rows/\(∀ d ∈ ds,told rows d.name=true)/\XG rows s/\aP H/\∀ p I,ac H I->aP I->H p=none->I p=some (.bw (h3 ds (gR n ds rows s)))->Q (.ref p) I
theorem aa':cv P base T 4 t.BK t.FI ["self"] (W2 P w t):=by
 refine cG (Bz T) fun rb=>cG (aaC T) fun Tb=>cG (afd T) fun TC=>?_;exists T.Pm.ok C_,9
 obtain ⟨k,aY,aC,aZ,aj,c,n,ds,rows,rfl,gT,el,mf,UH,bE,q⟩:=h;have bq:=g7 ak;obtain ⟨_,ar,cb,dQ,eO⟩:=id gT;obtain ⟨j0,le,mo,c8,c5,aS,ch,ms,kvs,au,C,_⟩:=id el;obtain ⟨⟨fv,gx⟩,Ry,wl,aG,bB,_,_⟩:=id C;refine ⟨_,(aR (b2 (i:=1) C_.aG zU)
   (aR (be fm rfl (Gc (jj (bG (bG (U 0) rfl) rfl) T.hU T.yN rb ak T.A2 .nil cO)) (cz (i:=2) C_.aG) (a5 (tW bq (U 1) (U 2) (tE (cP Nk (bG (U 0) rfl) qR (cm _)) (e4 (U 0) T.eU T.Zk Tb ak T.WV .nil cO (ai (U 2) aE)) (e4 (U 0) T.eU T.am TC ak T.S7 .nil cO (ai (U 2) aE))) rfl)))
   (a5 (cj (U 1))))),?_⟩
 refine cZ (fun aA I=>ac H I/\aP I/\∃ g4,H g4=none/\I g4=some (.bw [])/\aA=[~~~k,~~~g4,none]) (fun D bJ=>?_) fun cN aJ=>?_
 .nofun;exact fun g4 sD=>bJ _ _ ⟨bp sD,bE.upd,g4,sD,db,rfl⟩
 rintro gg H1 ⟨s1,cw,g4,sD,dk,rfl⟩;subst aJ;nofun;refine ⟨_,i0 T (s1 _ _ cb),_,rfl,_,Do T (s1 _ _ au),_,rfl,_,_,s1 _ _ bB,kb _ _ _ (by ac_nf),c,n,ds,rfl,C.same s1,fun d7 jJ=>⟨d7,rfl,⟨_,aD.of db⟩,?_⟩⟩;refine dP.list (xs:=aW (ds.map (·.name))) (fun i σ I=>ac H I/\aP I/\I d7=some (.lst (aW (ds.map (·.name))))/\I g4=some (.bw (h3 (ds.take i) (gR n ds rows aj)))/\∃ y,σ=[~~~k,~~~g4,y]) ?_ ?_ ?_ ?_
 .exact ⟨s1.trans (bp jJ),cw.upd,db,(bp jJ) _ _ dk,_,rfl⟩
 .rintro i σ I ah bh;ac_rfl
  obtain ⟨_,_,h,_⟩:=bh;subst aJ;exact aD.of h
 .rintro i v σ I aK bh;ac_rfl
  obtain ⟨s2,cV,Hz,tO,y,rfl⟩:=bh;obtain ⟨x,ag,rfl⟩:=cA aK;obtain ⟨d,hd,rfl⟩:=cA ag;have yX:=cB hd;have hlen:(h3 (ds.take i) (gR n ds rows aj)).length <= 12:=by unfold h3;rw [aU,hq];omega
  have Al:upd I g4 (.bw (d3 (h3 (ds.take i) (gR n ds rows aj)) (bc d.name) (.str (gR n ds rows aj d)))) d7=some (.lst (aW (ds.map (·.name)))):=by
   rw [aF (b8 Hz tO (by intro z;cases z))];exact Hz
  have xA:upd I g4 (.bw (d3 (h3 (ds.take i) (gR n ds rows aj)) (bc d.name) (.str (gR n ds rows aj d)))) g4=some (.bw (h3 (ds.take (i + 1)) (gR n ds rows aj))):=by
   rw [db,ahX (f:=gR n ds rows aj) fv hd]
  subst aJ;nofun;refine ⟨_,pj T (s2 _ _ cb),?_⟩;cases fD:aj.b0 with
  | some z1=>
   have DA:gR n ds rows aj d=q_ rows z1 d.name:=by unfold gR;rw [fD]
   rw [DA] at Al xA;rw [if_pos (by rfl)];exact ⟨_,_,s2 _ _ cb,mr _ _ _ _ _ _ _ _ (by ac_nf),k,aY,aC,aZ,aj,z1,c,n,ds,rows,d,rfl,gT.same s2,fD,el.same s2,mf d yX,_,kv.k (k:=bc d.name) tO (hp hlen (by decide)),s2.fC sD,cV.upd,Al,xA,_,rfl⟩
  | none=>
   have DA:gR n ds rows aj d=rn n ds rows aj d:=by unfold gR;rw [fD]
   rw [DA] at Al xA;obtain ⟨g1,g2,g3⟩:=UH fD;rw [if_neg (by intro z;cases z)];exact ⟨_,_,s2 _ _ cb,mr _ _ _ _ _ _ _ _ (by ac_nf),k,aY,aC,aZ,aj,c,n,ds,rows,i,d,rfl,gT.same s2,el.same s2,mf d yX,hd,g1,g2,g3,cV,_,kv.k (k:=bc d.name) tO (hp hlen (by decide)),s2.fC sD,cV.upd,Al,xA,_,rfl⟩
 .rintro σ I bh;ac_rfl
  obtain ⟨s2,cV,Hz,tO,y,rfl⟩:=bh;have gs:(aW (ds.map (·.name))).length=ds.length:=by unfold aW;simp
  subst aJ;rw [gs,iq] at tO;nofun;exact q g4 I s2 cV sD tO
theorem da.QX (hf:H d=some (.eL o (.bw kvs))) (aQ:kvs.length <= sizeLine) (he:zs.length=kvs.length)
  (ax:∀ (i:Nat) (k:Key) (v z:V) (N:V->aq->Prop),kvs[i]? = some (k,v)->zs[i]? = some z->N z H->g (dw k) du H fun cC az=>Sub du cC/\bM cC az N) (hd:∀ p,H p=none->Q (.ref p) (upd H p (.lst zs))):da (Ej d o kvs) g oW bM du Q H:=by
 refine da.of (n:=kvs.length) (fun i ys I=>I=H/\ys=zs.take i) aQ ⟨rfl,rfl⟩ (fun i ys I ah ⟨eX,_⟩=>by subst eX;exact ⟨hf,ah⟩) (fun ys I ⟨eX,_⟩=>by subst eX;exact ⟨hf,bW _⟩) (fun i ys I ah ⟨_,e⟩=>by rw [e,hq];omega) (fun i ys I x az ah ⟨au,aI⟩ y=>?_) (fun ys I ⟨au,aI⟩ p av=>?_)
 .obtain ⟨bO,k,v,aB,eD⟩:=y;subst au bO eD;intro N bu;have e7:i < zs.length:=by omega
  have gr:zs[i]? = some zs[i]:=a' e7;exact ax i k v zs[i] (fun y cJ=>N (ys ++ [y]) cJ) aB gr (bu _ _ ⟨rfl,by rw [aI,ov,gr];rfl⟩)
 .subst au;rw [aI,<- he,iq];exact hd p av
noncomputable def uB (ds:List a0) (rows:List ST) (x:Str):Str:=(((et rows x).bind fun j=>rows[j]?).map (dx ds)).getD (aa "")
noncomputable def yB (ds:List a0) (rows:List ST) (xs:List Str):Bool:=xs.any fun x=>decide (uB ds rows x=eu)
section
variable (P:Program) (w:World)
def WN (t:bR):bN:=fun vs H Q _=>∃ cn k aY aC aZ s c n ds rows,vs=[.ref k]/\eQ t H k aY aC aZ s/\hh P w t cn aY c n ds rows/\ac cn H/\cn aC=none/\(∀ x ∈ s.wt,told rows x=true)/\s.wt.length <= 12/\∀ I,ac H I->(aP H->aP I)->Q (.bl (yB ds rows s.wt)) I
end
theorem YW:cv P base T 1 t.AD t.Ed ["self"] (WN P w t):=by
 exists T.KP.ok afu,9
 obtain ⟨cn,k,aY,aC,aZ,aj,c,n,ds,rows,rfl,⟨_,ar,cb,dQ,eO⟩,el,s0,gA,cS,aM,q⟩:=h;obtain ⟨j0,le,mo,c8,c5,aS,ch,ms,kvs,au,C,bO,eD,gh,fi,h9,lP,lu⟩:=id el;have bq:=g7 ak;refine ⟨_,(a5 (cj (fq (Yt rfl) rfl T.agR Ue (ai (ahd (hE rfl (QT (bG (U 0) rfl)) (gQ (sc:=bz CL) rfl (by ac_nf)) (N:=zm) (sel:=[none,some 0]) (gF (M:=["self"]) (by ac_nf)) (fy.of (fun _ _ _ _=>(cz (i:=0) (er (N:=zm) (by ac_nf) rfl))) (fun _ _ _ _=>⟨_,h4,by walk_at "B"⟩) (fun _ _ _ _=>⟨_,(hj eo (bX dE (bG (bG (U 1) rfl) rfl) (kJ bq (bG (bG (U 1) rfl) rfl) (U 0) (fun _ _=>rfl))) cD (cm _)),by walk_at "B"⟩)))) aE)))),?_⟩;nofun;refine ⟨aC,_,dQ,_,vY T cb,_,rfl,_,dQ,fun o=>?_⟩;have gL:(fT aj.wt).length=aj.wt.length:=by unfold fT;rw [aU]
 have k3:ac cn (upd H aC (.eL o (.bw (fT aj.wt)))):=fun b u e=>by rw [aF (dB e gA)];exact s0 _ _ e
 have Bx:(upd H aC (.eL o (.bw (fT aj.wt)))) k=some (.ins t.c_ ar (fb aY (ou aj.b0) aj.cQ aj.lf aj.bf aj.ct aC aZ)):=by rw [aF (b8 cb dQ (by intro z;cases z))];exact cb
 have rg:(upd H aC (.eL o (.bw (fT aj.wt)))) aC=some (.eL o (.bw (fT aj.wt))):=db;refine da.QX (zs:=(aj.wt.map fun x=>decide (uB ds rows x=eu)).map V.bl) rg (by rw [gL];exact c4 aM (by decide)) (by rw [aU,aU,gL]) (fun i aav v z N aB aQ bu=>?_) (fun p av=>?_)
 .unfold fT at aB;obtain ⟨x,ag,ex⟩:=cA aB;cases ex;obtain ⟨b,ae,rfl⟩:=cA aQ;obtain ⟨fO,ey,rfl⟩:=cA ae;rw [ag] at ey;cases ey;obtain ⟨j,r,aO,gv,ix,_⟩:=lG (cS x (cB ag));have ax:uB ds rows x=dx ds r:=by unfold uB;rw [gv,uN,ix];rfl
  rw [ax] at bu;have bg:=gb.k (k:=bc x) (k3 _ _ h9);rw [aO] at bg;nofun;refine ⟨Sub.name,_,i0 T Bx,_,rfl,_,sa T (k3 _ _ au),_,i0 T Bx,_,rfl,_,yf T (k3 _ _ au),_,rfl,_,bg,_,rfl,_,_,rfl,aD.of (k3 _ _ fi),_,cg (qr (by rw [dm,ix];rfl)),rfl,?_⟩;rw [show decide (V.str (dx ds r)=V.str (aa "trams"))=decide (dx ds r=eu) from decide_eq_decide.mpr ⟨fun z=>by injection z,fun z=>by rw [z]⟩];exact bu
 .have iX:p ≠ aC:=fun z=>by rw [z,rg] at av;cases av
  have yH:H p=none:=by rw [aF iX] at av;exact av
  refine ⟨o,by rw [aF (eg iX)];exact rg,p,rfl,_,aD.of (by rw [aF iX];exact db),?_⟩;have he:((aj.wt.map fun x=>decide (uB ds rows x=eu)).any id)=yB ds rows aj.wt:=by unfold yB;rw [K_];rfl
  rw [he];refine q _ (fun b u e=>?_) (fun z=>((z.upd).upd).upd);by_cases b_:b=aC
  .subst b_;rw [dQ] at e;cases e;exact db
  .rw [aF b_,aF (dB e yH),aF b_];exact e
noncomputable def pQ (ds:List a0) (rows:List ST) (s:dG) (r:ST) (own:Bool):Bool:=s.wt.isEmpty || decide (s.cQ < r.lo) || (decide (s.cQ < r.ah) && own && !yB ds rows s.wt)
def aeG (P:Program) (w:World) (t:bR):bN:=fun vs H Q _=>∃ cn k aY aC aZ s c n ds rows,∃ i:Nat,∃ r own,vs=[.ref k,.bl own]/\eQ t H k aY aC aZ s/\s.b0=some i/\rows[i]? = some r/\hh P w t cn aY c n ds rows/\ac cn H/\cn aC=none/\(∀ x ∈ s.wt,told rows x=true)/\s.wt.length <= 12/\∀ I,ac H I->(aP H->aP I)->Q (.bl (pQ ds rows s r own)) I
theorem acZ:cv P base T 2 t.x6 t.F3 pI (aeG P w t):=by
 refine cG (YW T) fun acW=>?_;exists T.Qu.ok V8,9
 obtain ⟨cn,k,aY,aC,aZ,aj,c,n,ds,rows,i,r,own,rfl,gT,fD,iZ,el,s0,gA,cS,aM,q⟩:=h;obtain ⟨_,ar,cb,dQ,eO⟩:=id gT;obtain ⟨j0,le,mo,c8,c5,aS,ch,ms,kvs,au,C,bO,eD,gh,fi,h9,lP,lu⟩:=id (el.same s0);have bq:=g7 ak;have k':=cb;rw [fD] at k';refine ⟨_,(aR (dI (fj.pt (p8 (rv (yq (bG (U 0) rfl) (fun _=>rfl))) (rS (cP jd (bG (U 0) rfl) (bX dE (bG (bG (U 0) rfl) rfl) (bG (U 0) rfl)) (cm _))))) (a5 (cj iJ)) eh)
   (a5 (cj (wq (hj jd (bG (U 0) rfl) (bX dE (bG (bG (U 0) rfl) rfl) (bG (U 0) rfl)) (cm _)) (wq (U 1) (tZ (Qy (jj (U 0) T.eU T.aeM acW ak T.YC .nil cO)))))))),?_⟩
 simp only [dN];refine qm (fun aA I=>I=H/\(aj.wt.isEmpty || decide (aj.cQ < r.lo))=false/\aA=[~~~k,some (.bl own)]) (fun b3 bV lr _ _=>?_) ?_
 .refine dy (aj.wt.isEmpty || decide (aj.cQ < r.lo)) (fun hS aV=>?_) (fun ae=>?_) (fun ae=>?_)
  .nofun;refine ⟨_,vY T cb,!aj.wt.isEmpty,.inr (.inr ⟨_,dQ,?_⟩),?_⟩
   .cases aj.wt <;> rfl
   .cases vK:aj.wt.isEmpty with
    | true=>
     rw [vK] at aV;exact aV
    | false=>
     rw [vK,kX] at aV;exact ⟨_,Ki T cb,_,i0 T cb,_,rfl,_,afk T au,_,pj T k',_,rfl,_,_,rfl,aD.of bO,_,cg (by rw [dm,iZ];rfl),_,rfl,_,rfl,aV⟩
  .nofun;rw [lr];have:=q H (ac.refl H) (fun z=>z);unfold pQ at this;rw [ae,q7] at this;exact this
  .simp only [il];exact bV _ _ ⟨rfl,ae,rfl⟩
 rintro gg H1 ⟨rfl,ae,rfl⟩;unfold pQ at q;rw [ae] at q;nofun;refine ⟨_,Ki T cb,_,i0 T cb,_,rfl,_,ah7 T au,_,pj T k',_,rfl,_,_,rfl,aD.of eD,_,cg (by rw [dm,iZ];rfl),_,rfl,_,rfl,?_⟩;by_cases b_:aj.cQ < r.ah
 .rw [if_pos (decide_eq_true b_)];rw [decide_eq_true b_,kG,kX] at q;cases own with
  | true=>
   rw [if_pos rfl];rw [kG] at q;exact ⟨_,_,cb,mr _ _ _ _ _ _ _ _ (by ac_nf),cn,k,aY,aC,aZ,aj,c,n,ds,rows,rfl,gT,el,s0,gA,cS,aM,fun I s1 cw=>⟨_,rfl,q I s1 cw⟩⟩
  | false=>
   rw [if_neg fB];rw [k2] at q;exact q _ (ac.refl _) (fun z=>z)
 .rw [if_neg (by simpa using b_)];rw [decide_eq_false b_,k2,k2,kX] at q;exact q _ (ac.refl _) (fun z=>z)
noncomputable def m_ (n:Int) (ds:List a0) (rows:List ST) (s:dG) (m:List Str):dG:=if s.ct < fJ n ds rows s.lf s.bf then s else { s with b0:=some s.bf,cQ:=1,wt:=s.wt.filter fun x=>!decide (x ∈ m) }
theorem aii (ys:List Str) (x:Str):p1 (fT ys) (bc x)=fT (ys.filter fun y=>decide (y ≠ x)):=by
 unfold p1 fT;rw [List.filter_map];congr 1;refine TL fun y _=>?_
 show decide ((bc y:Key) ≠ bc x)=decide (y ≠ x);exact decide_eq_decide.mpr ⟨fun z e=>z (by rw [e]),fun z e=>z (rK e)⟩
theorem ZN {ms wt:List Str} {x:Str} (ag:ms[i]? = some x):(wt.filter fun y=>!decide (y ∈ ms.take (i + 1)))=(wt.filter fun y=>!decide (y ∈ ms.take i)).filter fun y=>decide (y ≠ x):=by
 rw [jC ag,List.filter_filter];refine TL fun y _=>?_
 rw [kD];simp;exact ⟨fun z=>⟨z.2,z.1⟩,fun z=>⟨z.2,z.1⟩⟩
def UE (P:Program) (w:World) (t:bR):bN:=fun vs H Q _=>∃ cn k aY aC aZ s c n ds rows r,vs=[.ref k]/\eQ t H k aY aC aZ s/\hh P w t cn aY c n ds rows/\ac cn H/\cn k=none/\cn aC=none/\cn aZ=none/\s.lf < rows.length/\rows[s.bf]? = some r/\s.lf ≠ s.bf/\r.mem.length <= 12/\aP H/\∀ I,gG k aC aZ H I->aP I->eQ t I k aY aC aZ (m_ n ds rows s r.mem)->Q .bU I
theorem Lp:cv P base T 2 t.y8 t.EE ["self"] (UE P w t):=by
 refine cG (OH T) fun Cv=>?_;exists T.PD.ok M4,9
 obtain ⟨cn,k,aY,aC,aZ,aj,c,n,ds,rows,r,rfl,gT,el,s0,iH,gA,hs,rh,iZ,b4,l_,bE,q⟩:=h;obtain ⟨d9,ar,cb,dQ,eO⟩:=id gT;obtain ⟨j0,le,mo,c8,c5,aS,ch,ms,kvs,au,C,bO,eD,gh,fi,h9,lP,lu⟩:=id (el.same s0);have bq:=g7 ak;refine ⟨_,(aR (dI (cP jd (bG (U 0) rfl) (cf Cv ak T.M7 T.xi.bK T.KL (ai (bG (U 0) rfl) (ai (bG (U 0) rfl) (ai (bG (U 0) rfl) aE)))) (cm _)) (a5 ahg) eh)
   (aR (eS (U 0) (bG (U 0) rfl) rfl)
   (aR (eS (U 0) aL rfl)
   (a5 (be fm rfl (Gc (bX dE (bG (bG (U 0) rfl) rfl) (bG (U 0) rfl))) (cz (i:=1) M4.aG) (a5 (en (TV (bG (U 0) rfl) (U 1) qR ⟨rfl,rfl,rfl,rfl⟩)))))))),?_⟩
 simp only [dN];refine qm (fun aA I=>I=H/\¬ aj.ct < fJ n ds rows aj.lf aj.bf/\aA=[~~~k,none]) (fun b3 bV lr _ _=>?_) ?_
 .refine dy (decide (aj.ct < fJ n ds rows aj.lf aj.bf)) (fun hS aV=>?_) (fun ae=>?_) (fun ae=>?_)
  .nofun;refine ⟨_,Jh T cb,_,i0 T cb,_,Dc T cb,_,wu T cb,aY,c,n,ds,rows,aj.lf,aj.bf,_,_,rfl,el.same s0,a' rh,iZ,b4,bE,fun v aK=>⟨_,rfl,_,rfl,?_⟩⟩;rw [DF (a' rh) iZ aK] at aV;exact aV
  .nofun;rw [lr];refine q H (gG.of (ac.refl H)) bE ?_;unfold m_;rw [if_pos (of_decide_eq_true ae)];exact gT
  .simp only [il];exact bV _ _ ⟨rfl,of_decide_eq_false ae,rfl⟩
 rintro gg H1 ⟨rfl,ae,rfl⟩;unfold m_ at q;rw [if_neg ae] at q;simp only [dN];exists (fun aA I=>gG k aC aZ H1 I/\aP I/\eQ t I k aY aC aZ { aj with b0:=some aj.bf }/\aA=[~~~k,none]),2
 .nofun;refine ⟨_,wu T cb,_,_,_,cb,T.eU,T.y7,by rw [<- aU (f:=(·.1)),iw];decide,?_⟩;rw [MI];exact bV _ _ ⟨fun b u af _ _ e=>by rw [aF af];exact e,bE.upd,⟨d9,ar,db,by rw [aF (b8 dQ cb (by intro z;cases z))];exact dQ,by rw [aF (b8 eO cb (by intro z;cases z))];exact eO⟩,rfl⟩
 rintro cC az ⟨e',cV,⟨_,rp,a1,a2,eR⟩,rfl⟩;subst aJ;simp only [dN];exists (fun aA I=>gG k aC aZ H1 I/\aP I/\eQ t I k aY aC aZ { aj with b0:=some aj.bf,cQ:=1 }/\aA=[~~~k,none]),2
 .nofun;refine ⟨_,_,_,a1,T.eU,T.zM,by rw [<- aU (f:=(·.1)),iw];decide,?_⟩;rw [RK];exact bV _ _ ⟨fun b u af ao a_ e=>by rw [aF af];exact e' _ _ af ao a_ e,cV.upd,⟨d9,rp,db,by rw [aF (b8 a2 a1 (by intro z;cases z))];exact a2,by rw [aF (b8 eR a1 (by intro z;cases z))];exact eR⟩,rfl⟩
 rintro gc bk ⟨fV,dK,rN,rfl⟩;obtain ⟨_,GA,e_,ec,hR⟩:=id rN;have s3:ac cn bk:=fV.wN s0 iH gA hs;obtain ⟨akb,ajX,akQ,aj4,aiH,nv,akT,oD,ajj,tB,_,_,_,OZ,_⟩:=id el;have f1:=s3 _ _ tB;have ea:=OZ.same s3;have RH:(rows.map (·.mem))[aj.bf]? = some r.mem:=by rw [dm,iZ];rfl
 have va:aj.bf < oD.length:=by rw [ea.ln];exact (b6.mp RH).1
 have hm:=a' va;have Q2:=OZ.al _ _ _ hm RH;have em:=s3 _ _ Q2;subst aJ;nofun;refine ⟨_,i0 T e_,_,rfl,_,ET T f1,_,wu T e_,_,rfl,_,_,rfl,aD.of ea.at_,_,cg (by rw [dm,hm];rfl),_,rfl,⟨_,aD.of em⟩,?_⟩;refine dP.list (xs:=aW r.mem) (fun i σ I=>gG k aC aZ H1 I/\aP I/\eQ t I k aY aC aZ { aj with b0:=some aj.bf,cQ:=1,wt:=aj.wt.filter fun y=>!decide (y ∈ r.mem.take i) }/\∃ y,σ=[~~~k,y]) ?_ ?_ ?_ ?_
 .refine ⟨fV,dK,?_,_,rfl⟩;rw [show (aj.wt.filter fun y=>!decide (y ∈ r.mem.take 0))=aj.wt by simp];exact rN
 .rintro i σ I ah bh;ac_rfl
  obtain ⟨dD,_,_,_⟩:=bh;subst aJ;exact aD.of (dD.wN s0 iH gA hs _ _ Q2)
 .rintro i v σ I aK bh;ac_rfl
  obtain ⟨dD,dR,⟨_,Gf,bB,bT,vk⟩,y,rfl⟩:=bh;subst aJ;unfold aW at aK;obtain ⟨x,ag,rfl⟩:=cA aK;have Ot:=ZN (wt:=aj.wt) ag;nofun;refine ⟨_,vY T bB,_,rfl,.inl ⟨_,.inl bT⟩,_,bT,bc x,rfl,fun v aK=>?_,fun aK=>?_⟩
  .refine ⟨fun b u af ao a_ e=>by rw [aF ao];exact dD _ _ af ao a_ e,dR.upd,?_,_,rfl⟩;refine ⟨d9,Gf,by rw [aF (b8 bB bT (by intro z;cases z))];exact bB,?_,by rw [aF (eg d9)];exact vk⟩;rw [db,aii,<- Ot]
  .refine ⟨dD,dR,?_,_,rfl⟩;have De:x ∉ aj.wt.filter fun y=>!decide (y ∈ r.mem.take i):=fun z=>by
    have:=aaG (aj.wt.filter fun y=>!decide (y ∈ r.mem.take i)) x;rw [aK,decide_eq_true z] at this;cases this
   have k8:(aj.wt.filter fun y=>!decide (y ∈ r.mem.take i)).filter (fun y=>decide (y ≠ x))=aj.wt.filter fun y=>!decide (y ∈ r.mem.take i):=List.filter_eq_self.mpr fun y a7=>decide_eq_true (show y ≠ x from fun z=>De (by rw [<- z];exact a7))
   rw [Ot,k8];exact ⟨d9,Gf,bB,bT,vk⟩
 .rintro σ I bh;ac_rfl
  obtain ⟨dD,dR,qX,y,rfl⟩:=bh;subst aJ;rw [fo,iq] at qX;nofun;exact q I dD dR qX
noncomputable def oC (s:dG) (i j:Nat) (c5:Str):dG:={ s with b0:=none,lf:=i,bf:=j,ct:=0,pt:=if c5=eu then (j:Int) else s.pt,po:=if c5=eu then s.po else (j:Int) }
def TF (P:Program) (w:World) (t:bR):bN:=fun vs H Q _=>∃ cn k aY aC aZ s c n ds rows,∃ i j:Nat,∃ r,vs=[.ref k,.int (j:Nat)]/\eQ t H k aY aC aZ s/\s.b0=some i/\hh P w t cn aY c n ds rows/\ac cn H/\cn k=none/\cn aC=none/\cn aZ=none/\i < rows.length/\rows[j]? = some r/\i ≠ j/\r.mem.length <= 12/\(dx ds r=eu\/dx ds r=kp)/\aP H/\∀ I,gG k aC aZ H I->aP I->eQ t I k aY aC aZ (m_ n ds rows (oC s i j (dx ds r)) r.mem)->Q .bU I
theorem adN:cv P base T 3 t.zd t.GF yU (TF P w t):=by
 refine cG (Lp T) fun Gs=>?_;exists T.QL.ok aae,9
 obtain ⟨cn,k,aY,aC,aZ,aj,c,n,ds,rows,i,j,r,rfl,gT,fD,el,s0,iH,gA,hs,ha,hi,hA,l_,pN,bE,q⟩:=h;obtain ⟨d9,ar,cb,dQ,eO⟩:=id gT;obtain ⟨j0,le,mo,c8,c5,aS,ch,ms,kvs,au,C,bO,eD,gh,fi,h9,lP,lu⟩:=id (el.same s0);have bq:=g7 ak;refine ⟨_,(aR (tW bq (bG (U 0) rfl) (bX dE (bG (bG (U 0) rfl) rfl) (U 1)) (U 1) rfl)
   (aR (eS (U 0) (bG (U 0) rfl) rfl)
   (aR (eS (U 0) (U 1) rfl)
   (aR (eS (U 0) aL rfl)
   (aR (eS (U 0) qR rfl)
   (a5 (en (jj (U 0) T.eU T.Ny Gs ak T.MO .nil cO)))))))),?_⟩
 refine cZ (fun aA I=>gG k aC aZ H I/\aP I/\eQ t I k aY aC aZ { aj with pt:=if dx ds r=eu then (j:Int) else aj.pt,po:=if dx ds r=eu then aj.po else (j:Int) }/\aA=[~~~k,some (.int (j:Nat))]) (fun b3 bV=>?_) fun cN aJ=>?_
 .nofun;refine ⟨_,Jp T cb,_,i0 T cb,_,rfl,_,sa T au,_,rfl,_,aD.of fi,_,cg (qr (by rw [dm,hi];rfl)),_,rfl,_,kv.k (k:=bc (dx ds r)) eO (hp (show (kR aj.pt aj.po).length <= 2 from bW 2) (by decide)),bV _ _ ⟨fun b u _ _ a_ e=>by rw [aF a_];exact e,bE.upd,⟨d9,ar,by rw [aF (b8 cb eO (by intro z;cases z))];exact cb,by rw [aF d9];exact dQ,by rw [db,Sf pN]⟩,rfl⟩⟩
 rintro gg H1 ⟨cT,cw,⟨_,dv,a1,e_,bB⟩,rfl⟩;have P5:=a1;subst aJ;rw [show ({ aj with pt:=if dx ds r=eu then (j:Int) else aj.pt,po:=if dx ds r=eu then aj.po else (j:Int) }:dG).b0=some i from fD] at P5;refine cZ (fun aA I=>gG k aC aZ H I/\aP I/\eQ t I k aY aC aZ { aj with pt:=if dx ds r=eu then (j:Int) else aj.pt,po:=if dx ds r=eu then aj.po else (j:Int),lf:=i }/\aA=[~~~k,some (.int (j:Nat))]) (fun b3 bV=>?_) fun cN aJ=>?_
 .nofun;refine ⟨_,pj T P5,_,_,_,a1,T.eU,T.CP,by rw [<- aU (f:=(·.1)),iw];decide,?_⟩;rw [show ou (some i)=V.int (i:Nat) from rfl,aen];exact bV _ _ ⟨fun b u af ao a_ e=>by rw [aF af];exact cT _ _ af ao a_ e,cw.upd,⟨d9,dv,db,by rw [aF (b8 e_ a1 (by intro z;cases z))];exact e_,by rw [aF (b8 bB a1 (by intro z;cases z))];exact bB⟩,rfl⟩
 rintro cC az ⟨e',cV,⟨_,ew,a2,ec,bT⟩,rfl⟩;subst aJ;refine cZ (fun aA I=>gG k aC aZ H I/\aP I/\eQ t I k aY aC aZ { aj with pt:=if dx ds r=eu then (j:Int) else aj.pt,po:=if dx ds r=eu then aj.po else (j:Int),lf:=i,bf:=j }/\aA=[~~~k,some (.int (j:Nat))]) (fun b3 bV=>?_) fun cN aJ=>?_
 .nofun;refine ⟨_,_,_,a2,T.eU,T.Jq,by rw [<- aU (f:=(·.1)),iw];decide,?_⟩;rw [aaJ];exact bV _ _ ⟨fun b u af ao a_ e=>by rw [aF af];exact e' _ _ af ao a_ e,cV.upd,⟨d9,ew,db,by rw [aF (b8 ec a2 (by intro z;cases z))];exact ec,by rw [aF (b8 bT a2 (by intro z;cases z))];exact bT⟩,rfl⟩
 rintro gc bk ⟨fV,dK,⟨_,XM,eR,hR,vk⟩,rfl⟩;subst aJ;refine cZ (fun aA I=>gG k aC aZ H I/\aP I/\eQ t I k aY aC aZ { aj with pt:=if dx ds r=eu then (j:Int) else aj.pt,po:=if dx ds r=eu then aj.po else (j:Int),lf:=i,bf:=j,ct:=0 }/\aA=[~~~k,some (.int (j:Nat))]) (fun b3 bV=>?_) fun cN aJ=>?_
 .nofun;refine ⟨_,_,_,eR,T.eU,T.AG,by rw [<- aU (f:=(·.1)),iw];decide,?_⟩;rw [JU];exact bV _ _ ⟨fun b u af ao a_ e=>by rw [aF af];exact fV _ _ af ao a_ e,dK.upd,⟨d9,XM,db,by rw [aF (b8 hR eR (by intro z;cases z))];exact hR,by rw [aF (b8 vk eR (by intro z;cases z))];exact vk⟩,rfl⟩
 rintro lq cJ ⟨dD,dR,⟨_,ze,oZ,o1,oU⟩,rfl⟩;subst aJ;refine cZ (fun aA I=>gG k aC aZ H I/\aP I/\eQ t I k aY aC aZ { aj with pt:=if dx ds r=eu then (j:Int) else aj.pt,po:=if dx ds r=eu then aj.po else (j:Int),lf:=i,bf:=j,ct:=0,b0:=none }/\aA=[~~~k,some (.int (j:Nat))]) (fun b3 bV=>?_) fun cN aJ=>?_
 .nofun;refine ⟨_,_,_,oZ,T.eU,T.y7,by rw [<- aU (f:=(·.1)),iw];decide,?_⟩;rw [MI];exact bV _ _ ⟨fun b u af ao a_ e=>by rw [aF af];exact dD _ _ af ao a_ e,dR.upd,⟨d9,ze,db,by rw [aF (b8 o1 oZ (by intro z;cases z))];exact o1,by rw [aF (b8 oU oZ (by intro z;cases z))];exact oU⟩,rfl⟩
 rintro rt dH ⟨eE,iB,zz,rfl⟩;obtain ⟨_,aiI,VT,_,_⟩:=id zz;subst aJ;nofun;exact ⟨_,_,VT,mr _ _ _ _ _ _ _ _ (by ac_nf),cn,k,aY,aC,aZ,_,c,n,ds,rows,r,rfl,zz,el,eE.wN s0 iH gA hs,iH,gA,hs,ha,hi,hA,l_,iB,fun I fO jr qt=>q I (eE.trans fO) jr qt⟩
noncomputable abbrev KM:Str:=aa "Keeper.pick" ++ aa ".<locals>." ++ aa "<lambda>"
theorem afw:z' "number" "many" "last" (aeO (Oe sy)):=⟨rfl,rfl,rfl,by ac_nf,rfl,rfl,rfl,by ac_nf,by ac_nf⟩
noncomputable abbrev m5 (Pt:Addr) (H:aq):Prop:=Tab H Pt (ago (Oe sy)) KM
noncomputable def h2 (ds:List a0) (rows:List ST) (j:Nat):Str:=((rows[j]?).map (dx ds)).getD (aa "")
noncomputable def sb (rows:List ST) (x:Str):Nat:=(et rows x).getD 0
noncomputable def lE (rows:List ST) (s:dG):List Nat:=s.wt.map (sb rows)
noncomputable def sL (ds:List a0) (rows:List ST) (s:dG) (i:Nat):List Nat:=(lE rows s).filter fun j=>!decide (h2 ds rows j=h2 ds rows i)
noncomputable def jh (ds:List a0) (rows:List ST) (s:dG) (i:Nat):List Nat:=if (sL ds rows s i).isEmpty then lE rows s else sL ds rows s i
noncomputable def sR (ds:List a0) (rows:List ST) (s:dG) (ch:List Nat):Int:=if h2 ds rows (ch.headD 0)=eu then s.pt else s.po
noncomputable def C0 (last many m:Int):Int:=(m - last - 1) % many
def KD (ds:List a0) (rows:List ST) (s:dG) (i j:Nat):Prop:=j ∈ jh ds rows s i/\∀ hG ∈ jh ds rows s i,C0 (sR ds rows s (jh ds rows s i)) rows.length j <= C0 (sR ds rows s (jh ds rows s i)) rows.length hG
def WD (P:Program) (w:World) (t:bR) (Pt:Addr):bN:=fun vs H Q _=>∃ cn k aY aC aZ s c n ds rows,∃ i:Nat,vs=[.ref k]/\eQ t H k aY aC aZ s/\s.b0=some i/\i < rows.length/\hh P w t cn aY c n ds rows/\ac cn H/\cn aC=none/\(∀ x ∈ s.wt,told rows x=true)/\s.wt ≠ []/\s.wt.length <= 12/\(∀ r ∈ rows,dx ds r=eu\/dx ds r=kp)/\m5 Pt H/\aP H /\
 ∀ (j:Nat) I,lj Pt H I->aP I->m5 Pt I->KD ds rows s i j->Q (.int j) I
theorem Yn {rows:List ST} {x:Str} (h:told rows x=true):sb rows x < rows.length:=by
 obtain ⟨j,r,aO,aB,ix,_⟩:=lG h;unfold sb;rw [aB];exact (b6.mp ix).1
theorem Fx {rows:List ST} (h:∀ x ∈ s.wt,told rows x=true):∀ j ∈ lE rows s,j < rows.length:=fun j aO=>by
 obtain ⟨x,ag,rfl⟩:=cp.mp aO;exact Yn (h x ag)
theorem Qb {rows:List ST} (h:∀ x ∈ s.wt,told rows x=true):∀ j ∈ jh ds rows s i,j < rows.length:=fun j aO=>by
 unfold jh at aO;split at aO
 .exact Fx h j aO
 .exact Fx h j (lT.mp aO).1
theorem RT {rows:List ST} (h:s.wt ≠ []):jh ds rows s i ≠ []:=by
 unfold jh;split
 .unfold lE;simpa using h
 .rename_i af;simpa using af
theorem CA {rows:List ST} (h:j < rows.length):(rows.map (dx ds))[j]? = some (h2 ds rows j):=by
 unfold h2;rw [dm,a' h];rfl
noncomputable def j6 (yK:List Nat):List V:=yK.map fun j=>V.int (j:Nat)
theorem ad' (yK:List Nat):j6 yK=rQ V.int (yK.map fun j=>((j:Nat):Int)):=by
 unfold j6;rw [pO];rfl
theorem OG (p:Nat->Bool):∀ xs:List Nat,((xs.map fun x=>if p x=true then some (V.int (x:Nat)) else none).flatMap yM)=j6 (xs.filter p)
 | []=>rfl
 | x :: xs=>by
  rw [eV,wY,OG p xs];cases h:p x <;> simp [j6,h]
theorem ZP (dg:qo base t.qV Pt) (jb:base.BuiltinsAt mg Pt):cv P base T 2 t.xo t.z5 ["self"] (WD P w t Pt):=by
 have adW:=T.XQ;refine T.LQ.afT qT (fun vs H Q E h=>?_) (fun fl kl A outer s H vs Q E ak h=>?_)
 .obtain ⟨cn,k,aY,aC,aZ,aj,c,n,ds,rows,i,rfl,_⟩:=h;rfl
 obtain ⟨cn,k,aY,aC,aZ,aj,c,n,ds,rows,i,rfl,⟨d9,ar,cb,dQ,eO⟩,fD,ha,el,s0,gA,cS,b4,aM,pN,bI,bE,q⟩:=h;obtain ⟨j0,le,mo,c8,c5,aS,ch,ms,kvs,au,C,bO,eD,gh,fi,h9,lP,lu⟩:=id el;have bq:=g7 ak;refine ⟨_,(aR (aiB (CY (i:=1) qT.aG rfl (oQ rfl) rfl (QT (bG (U 0) rfl)) (gQ (sc:=bz sy) rfl (by ac_nf)) (N:=zm) (sel:=[none,some 0]) (gF (M:=Dp) (by ac_nf)) (fy.of (fun _ _ _ _=>(cz (i:=0) (er (N:=zm) (by ac_nf) rfl))) (fun _ _ _ _=>⟨_,h4,by walk_at "B"⟩) (fun _ _ _ _=>⟨_,(kJ bq (bG (bG (U 1) rfl) rfl) (U 0) (fun _ _=>rfl)),by walk_at "B"⟩)) rfl))
   (aR (pA (i:=2) qT.aG rfl (mM rfl) (bX dE (bG (bG (U 0) rfl) rfl) (bG (U 0) rfl)))
   (aR (CY (i:=3) qT.aG rfl (oQ rfl) rfl (Gc (U 1)) (gQ (sc:=bz sy) rfl (by ac_nf)) (N:=["number","self","same"]) (sel:=[none,some 0,some 2]) (gF (M:=Dp) (by ac_nf)) (fy.of (fun _ _ _ _=>(cz (i:=0) (er (N:=["number","self","same"]) (by ac_nf) rfl))) (fun _ _ _ _=>⟨_,(uZ (cP sS (bX dE (bG (bG (U 1) rfl) rfl) (U 0)) (U 2) (cm _))),by walk_at "B"⟩) (fun _ _ _ _=>⟨_,(U 0),by walk_at "B"⟩)) rfl)
   (aR (b2 (i:=4) qT.aG (tE (yq (U 3) (fun _=>rfl)) (U 3) (U 1)))
   (aR (pA (i:=5) qT.aG rfl (mM rfl) (kJ bq (bG (U 0) rfl) (bX dE (bG (bG (U 0) rfl) rfl) (bX dE (U 4) aL)) (fun _ _=>rfl)))
   (aR (pA (i:=6) qT.aG rfl (mM rfl) (bG (bG (U 0) rfl) rfl))
   (a5 (cj (Xm (pr := "number") (y := "many") (z := "last") (i1:=6) (i2:=5) rfl rfl T.VG (ai (U 4) aE) ⟨kl.symm.trans adW,dg,jb⟩ ak afw rfl rfl rfl rfl rfl rfl rfl rfl (fun _ _ _ _=>rfl) (fun _ _ _ _=>⟨_,(bD i9 (bD jR (bD jR (U 0) (U 2)) aL) (U 1)),by first | rfl | (dsimp only [rO];done) | (dsimp only [rO];exact rfl)⟩)))))))))),?_⟩
 simp only [dN];exists (fun aA I=>ac H I/\aP I/\∃ wp,H wp=none/\I wp=some (.lst (j6 (lE rows aj)))/\aA=[~~~k,~~~wp,none,none,none,none,none]),2
 .nofun;refine ⟨aC,_,dQ,_,vY T cb,_,rfl,_,dQ,fun o=>?_⟩;have gL:(fT aj.wt).length=aj.wt.length:=by unfold fT;rw [aU]
  have k3:ac cn (upd H aC (.eL o (.bw (fT aj.wt)))):=fun b u e=>by rw [aF (dB e gA)];exact s0 _ _ e
  have Bx:(upd H aC (.eL o (.bw (fT aj.wt)))) k=some (.ins t.c_ ar (fb aY (ou aj.b0) aj.cQ aj.lf aj.bf aj.ct aC aZ)):=by rw [aF (b8 cb dQ (by intro z;cases z))];exact cb
  have rg:(upd H aC (.eL o (.bw (fT aj.wt)))) aC=some (.eL o (.bw (fT aj.wt))):=db;refine da.QX (zs:=j6 (lE rows aj)) rg (by rw [gL];exact c4 aM (by decide)) (by unfold j6 lE;rw [aU,aU,gL]) (fun ja aav v z N aB aQ bu=>?_) (fun p av=>?_)
  .unfold fT at aB;obtain ⟨x,ag,ex⟩:=cA aB;cases ex;unfold j6 lE at aQ;obtain ⟨hG,ae,rfl⟩:=cA aQ;obtain ⟨fO,ey,rfl⟩:=cA ae;rw [ag] at ey;cases ey;obtain ⟨j,r,aO,gv,ix,_⟩:=lG (cS x (cB ag));have bg:=gb.k (k:=bc x) (k3 _ _ h9);rw [aO] at bg;have he:sb rows x=j:=by unfold sb;rw [gv];rfl
   rw [he] at bu;nofun;exact ⟨Sub.name,_,i0 T Bx,_,rfl,_,yf T (k3 _ _ au),_,rfl,_,bg,bu⟩
  .have iX:p ≠ aC:=fun z=>by rw [z,rg] at av;cases av
   have yH:H p=none:=by rw [aF iX] at av;exact av
   refine ⟨o,by rw [aF (eg iX)];exact rg,bV _ _ ⟨fun b u e=>?_,bE.upd.upd.upd,p,yH,by rw [aF iX];exact db,rfl⟩⟩;by_cases b_:b=aC
   .subst b_;rw [dQ] at e;cases e;exact db
   .rw [aF b_,aF (dB e yH),aF b_];exact e
 rintro gg H1 ⟨s1,cw,wp,aju,dk,rfl⟩;subst aJ;simp only [dN];exists (fun aA I=>I=H1/\aA=[~~~k,~~~wp,some (.str (h2 ds rows i)),none,none,none,none]),2
 .nofun;have k':=s1 _ _ cb;rw [fD] at k';exact ⟨_,i0 T k',_,rfl,_,sa T (s1 _ _ (s0 _ _ au)),_,pj T k',_,rfl,_,_,rfl,aD.of (s1 _ _ (s0 _ _ fi)),_,cg (qr (CA ha)),bV _ _ ⟨rfl,rfl⟩⟩
 rintro cC az ⟨rfl,rfl⟩;subst aJ;simp only [dN];exists (fun aA I=>ac az I/\aP I/\∃ op,az op=none/\I op=some (.lst (j6 (sL ds rows aj i)))/\aA=[~~~k,~~~wp,some (.str (h2 ds rows i)),~~~op,none,none,none]),2
 .nofun;refine ⟨⟨_,aD.of dk⟩,?_⟩;refine da.u1 (xs:=j6 (lE rows aj)) (ss:=(lE rows aj).map fun j=>if (!decide (h2 ds rows j=h2 ds rows i))=true then some (V.int (j:Nat)) else none) (aD.of dk) (by unfold j6 lE;rw [aU,aU];exact c4 aM (by decide)) (by unfold j6;rw [aU,aU]) (fun ja v o ys N aK aS bu=>?_) (fun l z0=>?_)
  .unfold j6 at aK;obtain ⟨j,aO,rfl⟩:=cA aK;obtain ⟨hG,fY,rfl⟩:=cA aS;rw [aO] at fY;cases fY;have i6:=Fx cS j (cB aO);nofun;refine ⟨Sub.name,_,i0 T (s1 _ _ cb),_,rfl,_,sa T (s1 _ _ (s0 _ _ au)),_,rfl,_,aD.of (s1 _ _ (s0 _ _ fi)),_,cg (qr (CA i6)),rfl,?_⟩;by_cases b_:h2 ds rows j=h2 ds rows i
   .rw [if_neg (by rw [b_,decide_eq_true rfl];exact fB)];simp [b_] at bu;exact bu
   .rw [if_pos (by rw [decide_eq_false (fun z=>b_ (by injection z))];rfl)];simp [b_] at bu;exact bu
  .rw [OG];exact bV _ _ ⟨bp z0,cw.upd,l,z0,db,rfl⟩
 rintro gc bk ⟨s3,dK,op,akn,O5,rfl⟩;have hn:=s3 _ _ dk;subst aJ;simp only [dN];exists (fun aA I=>I=bk/\∃ sJ,bk sJ=some (.lst (j6 (jh ds rows aj i)))/\aA=[~~~k,~~~wp,some (.str (h2 ds rows i)),~~~op,~~~sJ,none,none]),2
 .nofun;refine ⟨!(sL ds rows aj i).isEmpty,.inl ⟨_,aD.of O5,?_⟩,?_⟩
  .unfold j6;cases sL ds rows aj i <;> rfl
  .cases Qh:(sL ds rows aj i).isEmpty with
   | true=>
    rw [if_neg (by rw [aeV];exact fB)];exact bV _ _ ⟨rfl,wp,by unfold jh;rw [if_pos Qh];exact hn,rfl⟩
   | false=>
    rw [if_pos (by rfl)];exact bV _ _ ⟨rfl,op,by unfold jh;rw [if_neg (by rw [Qh];exact fB)];exact O5,rfl⟩
 rintro lq cJ ⟨rfl,sJ,oU,rfl⟩;subst aJ;simp only [dN];exists (fun aA I=>I=cJ/\aA=[~~~k,~~~wp,some (.str (h2 ds rows i)),~~~op,~~~sJ,some (.int (sR ds rows aj (jh ds rows aj i))),none]),2
 .nofun;have J8:=s3 _ _ (s1 _ _ cb);have s8:∀ {b u},cn b=some u->cJ b=some u:=fun e=>s3 _ _ (s1 _ _ (s0 _ _ e))
  obtain ⟨vD,kP,hg⟩:=sx (RT (ds:=ds) (rows:=rows) (i:=i) b4);have oG:vD < rows.length:=Qb cS vD (by rw [hg];exact .head _);have acC:=CA (ds:=ds) oG;have aa6:h2 ds rows vD=eu\/h2 ds rows vD=kp:=by
   unfold h2;rw [a' oG];exact pN _ (jg oG)
  have tL:=aeF (a:=aj.pt) (b:=aj.po) aa6;have bg:=gb.k (k:=bc (h2 ds rows vD)) (s3 _ _ (s1 _ _ eO));rw [tL] at bg;refine ⟨_,Jp T J8,_,i0 T J8,_,rfl,_,sa T (s8 au),_,aD.of oU,_,cg (j:=0) (by rw [hg];rfl),_,rfl,_,_,rfl,aD.of (s8 fi),_,cg (qr acC),_,rfl,_,bg,bV _ _ ⟨rfl,?_⟩⟩;unfold sR;rw [hg];rfl
 rintro rt dH ⟨rfl,rfl⟩;subst aJ;simp only [dN];exists (fun aA I=>I=dH/\aA=[~~~k,~~~wp,some (.str (h2 ds rows i)),~~~op,~~~sJ,some (.int (sR ds rows aj (jh ds rows aj i))),some (.int rows.length)]),2
 .nofun;exact ⟨_,i0 T (s3 _ _ (s1 _ _ cb)),_,rfl,_,B1 T (s3 _ _ (s1 _ _ (s0 _ _ au))),bV _ _ ⟨rfl,rfl⟩⟩
 rintro lW hH ⟨rfl,rfl⟩;subst aJ;nofun;have agu:m5 Pt hH:=(bI.step s1).step s3;refine ⟨(jh ds rows aj i).map fun j=>((j:Nat):Int),aD.of (by rw [<- ad'];exact oU),by simpa using RT (ds:=ds) (rows:=rows) (i:=i) b4,agu,C0 (sR ds rows aj (jh ds rows aj i)) rows.length,fun az bQ acJ qE=>⟨fun n aT=>⟨by omega,rfl⟩,fun ja m hm ae=>?_⟩⟩;rw [dm] at hm;obtain ⟨j,aO,rfl⟩:=uL.mp hm;refine q j az (fun b u g9 e=>bQ _ _ g9 (s3 _ _ (s1 _ _ e))) (acJ dK) qE ⟨cB aO,fun hG fY=>?_⟩;obtain ⟨x,ag,ex⟩:=C5 fY;exact (ae x (hG:Int) (by rw [dm,a' ag,ex];rfl)).1
def ip (H I:aq):Prop:=∀ b o,(∀ ps,o ≠ f6.gI ps)->H b=some o->I b=some o
theorem Yv (bI:Tab H Pt pos q) (s:lj Pt H I):ip H I:=fun b o n e=>s b o (bI.ne e n) e
theorem ip.trans (a:ip H H1) (b:ip H1 az):ip H az:=fun c o n h=>b c o n (a c o n h)
theorem ip.lst (s:ip H I) (e:H b=some (.lst xs)):I b=some (.lst xs):=s b _ (fun _ z=>by cases z) e
theorem ip.tup (s:ip H I) (e:H b=some (.tup xs)):I b=some (.tup xs):=s b _ (fun _ z=>by cases z) e
theorem ip.ins (s:ip H I) {aH:List (Str × V)} (e:H b=some (.ins C ar aH)):I b=some (.ins C ar aH):=s b _ (fun _ z=>by cases z) e
theorem ip.bw (s:ip H I) (e:H b=some (.bw kvs)):I b=some (.bw kvs):=s b _ (fun _ z=>by cases z) e
theorem agz {K:ba} {ns:List Int} (S:Sc K a ns H) (s:ip H I) (bE:aP I):Sc K a ns I:=by
 refine ⟨?_,bE⟩;rcases S.uK with ⟨o,h⟩ | h
 .exact .inl ⟨o,s _ _ (fun _ z=>by cases z) h⟩
 .exact .inr h
theorem fu.ql {t:bR} (h:fu t H c n ds) (s:ip H I):fu t I c n ds:=by
 obtain ⟨h0,ar,wl,aG,au,⟨as,dk,dZ,al⟩,bO⟩:=h;refine ⟨h0,ar,wl,aG,s.ins au,⟨as,s.lst dk,dZ,fun i b d ae hd=>?_⟩,s.bw bO⟩;obtain ⟨k,aa1,fa⟩:=al i b d ae hd;exact ⟨k,aa1,s.ins fa⟩
theorem hh.ql {w:World} {t:bR} {rows:List ST} (h:hh P w t H a c n ds rows) (s:ip H I):hh P w t I a c n ds rows:=by
 obtain ⟨ar,le,mo,c8,c5,aS,ch,ms,kvs,au,aI,bO,eD,gh,fi,h9,⟨o,a4,cF,xs,r⟩,lu⟩:=h;exact ⟨ar,le,mo,c8,c5,aS,ch,ms,kvs,s.ins au,aI.ql s,s.lst bO,s.lst eD,⟨s.lst gh.at_,gh.ln,fun i m x a b=>s.lst (gh.al i m x a b)⟩,s.lst fi,s.bw h9,
  ⟨o,a4,cF,xs,s _ _ (fun _ z=>by cases z) r.at_,r.ex,r.dat,r.ent,r.aG,Paired.qb r.cc fun p q z=>⟨z.1,s.tup z.2.1,z.2.2⟩,r.mQ,r.ns⟩,lu⟩
noncomputable def h8 (H:aq):aq:=fun b=>match H b with
 | some (.gI _)=>none
 | o=>o
theorem afh (bI:Tab H Pt pos q):h8 H Pt=none:=by
 obtain ⟨ps,e,_⟩:=bI;unfold h8;rw [e]
theorem Iy (h:H b=none):h8 H b=none:=by
 unfold h8;rw [h]
theorem JJ (H:aq):ac (h8 H) H:=fun b u e=>by
 unfold h8 at e;split at e
 .cases e
 .exact e
theorem DJ (H:aq):ip H (h8 H):=fun b u n e=>by
 unfold h8;split
 .rename_i ps h;rw [h] at e;cases e;exact absurd rfl (n ps)
 .exact e
structure ox (ds:List a0) (rows:List ST):Prop where
 dS:∀ d ∈ ds,told rows d.name=true
 f9:∀ r ∈ rows,r.mem.length <= 12
 c5:∀ r ∈ rows,dx ds r=eu\/dx ds r=kp
 dl:ds.length <= 12
structure Ev (ds:List a0) (rows:List ST) (s:dG):Prop where
 wn:s.wt.Nodup
 aC:∀ x ∈ s.wt,x ∈ ds.map (·.name)
 b0:∀ i,s.b0=some i->i < rows.length/\∀ x ∈ s.wt,et rows x ≠ some i
 ch:s.b0=none->s.lf < rows.length/\s.bf < rows.length/\s.lf ≠ s.bf
theorem Ev.told {rows:List ST} (k:Ev ds rows s) (R:ox ds rows):∀ x ∈ s.wt,told rows x=true:=fun x ag=>by
 obtain ⟨d,hd,rfl⟩:=cp.mp (k.aC x ag);exact R.dS d hd
theorem Ev.len {rows:List ST} (k:Ev ds rows s) (R:ox ds rows):s.wt.length <= 12:=by
 have:=k.wn.length_le_of_subset (l₂:=ds.map (·.name)) fun x ag=>k.aC x ag
 rw [aU] at this;have:=R.dl;omega
def rY (n:Int) (ds:List a0) (rows:List ST) (s:dG) (own:Bool) (aj:dG):Prop:=
 (s.b0=none/\∃ r,rows[s.bf]? = some r/\aj=m_ n ds rows { s with ct:=s.ct + 1 } r.mem) \/
 (∃ i r,s.b0=some i/\rows[i]? = some r/\pQ ds rows s r own=true/\aj = { s with cQ:=s.cQ + 1 }) \/
 (∃ i r j h_,s.b0=some i/\rows[i]? = some r/\pQ ds rows s r own=false/\KD ds rows s i j/\rows[j]? = some h_/\aj=m_ n ds rows (oC s i j (dx ds h_)) h_.mem)
theorem CZ {rows:List ST} (cS:∀ x ∈ s.wt,told rows x=true) (h:j ∈ jh ds rows s i):∃ x ∈ s.wt,et rows x=some j:=by
 have hm:j ∈ lE rows s:=by
  unfold jh at h;split at h
  .exact h
  .exact (lT.mp h).1
 obtain ⟨x,ag,rfl⟩:=cp.mp hm;obtain ⟨j,r,aO,aB,ix,_⟩:=lG (cS x ag);refine ⟨x,ag,?_⟩;unfold sb;rw [aB];rfl
theorem Mi {rows:List ST} (R:ox ds rows) (wn:s.wt.Nodup) (aC:∀ x ∈ s.wt,x ∈ ds.map (·.name)) (ax:s.b0=none) (aM:s.lf < rows.length) (ak:rows[s.bf]? = some r) (b4:s.lf ≠ s.bf):Ev ds rows (m_ n ds rows s r.mem):=by
 have gs:s.bf < rows.length:=(b6.mp ak).1;unfold m_;split
 .exact ⟨wn,aC,fun i h=>(by rw [ax] at h;cases h),fun _=>⟨aM,gs,b4⟩⟩
 .refine ⟨wn.filter _,fun x ag=>aC x (lT.mp ag).1,fun i h=>?_,fun h=>by cases h⟩;cases h;refine ⟨gs,fun x ag e=>?_⟩;have ey:=lT.mp ag;obtain ⟨d,hd,qe⟩:=cp.mp (aC x ey.1);obtain ⟨j,dj,aO,aB,ix,hm⟩:=lG (R.dS d hd);rw [qe] at aB hm;rw [aB] at e;cases e;rw [ak] at ix;cases ix;have:=ey.2;simp [hm] at this
theorem JR {rows:List ST} (R:ox ds rows) (k:Ev ds rows s) (h:rY n ds rows s own aj):Ev ds rows aj:=by
 rcases h with ⟨af,r,ak,rfl⟩ | ⟨i,r,af,ak,_,rfl⟩ | ⟨i,r,j,h_,af,ak,_,av,aO,rfl⟩
 .obtain ⟨a,b,c⟩:=k.ch af;exact Mi (s:={ s with ct:=s.ct + 1 }) R k.wn k.aC af a ak c
 .exact ⟨k.wn,k.aC,k.b0,k.ch⟩
 .obtain ⟨a,b⟩:=k.b0 i af;obtain ⟨x,ag,aB⟩:=CZ (k.told R) av.1;refine Mi (s:=oC s i j (dx ds h_)) R k.wn k.aC rfl a aO (fun e=>?_);have e:i=j:=e;subst e;exact b x ag aB
def Oj (k aC aZ Pt:Addr) (H I:aq):Prop:=∀ b u,b ≠ k->b ≠ aC->b ≠ aZ->b ≠ Pt->H b=some u->I b=some u
theorem vC {t:bR} {k aY aC aZ Pt:Addr} (gT:eQ t H k aY aC aZ s) (bI:Tab H Pt pos q) (x:gG k aC aZ H I):Tab I Pt pos q:=by
 obtain ⟨_,ar,cb,dQ,eO⟩:=gT;obtain ⟨ps,e,d⟩:=bI;refine ⟨ps,x _ _ (b8 e cb (by intro z;cases z)) (b8 e dQ (by intro z;cases z)) (b8 e eO (by intro z;cases z)) e,?_⟩;rcases d with d | ⟨c',d,b5⟩
 .exact .inl d
 .exact .inr ⟨c',d,x _ _ (b8 b5 cb (by intro z;cases z)) (b8 b5 dQ (by intro z;cases z)) (b8 b5 eO (by intro z;cases z)) b5⟩
theorem eQ.ql {t:bR} {k aY aC aZ:Addr} (h:eQ t H k aY aC aZ s) (x:ip H I):eQ t I k aY aC aZ s:=by
 obtain ⟨h0,ar,cb,dQ,eO⟩:=h;exact ⟨h0,ar,x.ins cb,x.bw dQ,x.bw eO⟩
def abd (P:Program) (w:World) (t:bR) (Pt:Addr):bN:=fun vs H Q _=>∃ cn k aY aC aZ s c n ds rows own,vs=[.ref k,.bl own]/\eQ t H k aY aC aZ s/\hh P w t cn aY c n ds rows/\ac cn H/\cn k=none/\cn aC=none/\cn aZ=none/\cn Pt=none/\ox ds rows/\Ev ds rows s/\m5 Pt H/\aP H /\
 ∀ aj I,rY n ds rows s own aj->Oj k aC aZ Pt H I->aP I->m5 Pt I->eQ t I k aY aC aZ aj->Q .bU I
theorem abV (dg:qo base t.qV Pt) (jb:base.BuiltinsAt mg Pt):cv P base T 4 t.xT t.HV pI (abd P w t Pt):=by
 refine cG (Lp T) fun Gs=>cG (acZ T) fun YN=>cG (adN T) fun aey=>cG (ZP T dg jb) fun adM=>?_;exists T.Mh.ok adu,9
 obtain ⟨cn,k,aY,aC,aZ,aj,c,n,ds,rows,own,rfl,gT,el,s0,iH,gA,hs,Eu,R,mY,bI,bE,q⟩:=h;obtain ⟨d9,ar,cb,dQ,eO⟩:=id gT;have bq:=g7 ak;refine ⟨_,(a5 (dI (cP abm (bG (U 0) rfl) qR (cm _)) (aR (Hr (U 0) aL FP)
   (a5 (en (jj (U 0) T.eU T.Ny Gs ak T.MO .nil cO)))) (a5 (dI (ki (e4 (U 0) T.eU T.ae6 YN ak T.abk .nil cO (ai (U 1) aE))) (a5 (Hr (U 0) aL FP)) (a5 (en (e4 (U 0) T.eU T.SY aey ak T.ZD .nil cO (ai (jj (U 0) T.eU T.acx adM ak T.ac0 .nil cO) aE)))))))),?_⟩
 cases fD:aj.b0 with
 | none=>
  rw [fD] at cb;obtain ⟨g1,g2,g3⟩:=mY.ch fD;have wx:=a' g2;nofun;refine dy true (fun Q aV=>?_) (fun _=>?_) (fun aw=>nomatch aw)
  .nofun;exact ⟨_,pj T cb,aV⟩
  simp only [dN];exists (fun aA I=>gG k aC aZ H I/\aP I/\eQ t I k aY aC aZ { aj with ct:=aj.ct + 1 }/\aA=[~~~k,some (.bl own)]),2
  .nofun;refine ⟨_,_,_,cb,T.eU,T.AG,_,gf la 5 (iw ..) (by ac_nf) rfl,_,rfl,_,_,cb,by rw [<- aU (f:=(·.1)),iw];decide,?_⟩;rw [JU];exact bV _ _ ⟨fun b u af _ _ e=>by rw [aF af];exact e,bE.upd,⟨d9,ar,by rw [db];exact congrArg (fun z=>some (f6.ins t.c_ ar (fb aY (ou z) aj.cQ aj.lf aj.bf (aj.ct + 1) aC aZ))) fD.symm,by rw [aF (b8 dQ cb (by intro z;cases z))];exact dQ,by rw [aF (b8 eO cb (by intro z;cases z))];exact eO⟩,rfl⟩
  rintro gg H1 ⟨cT,cw,Ip,rfl⟩;obtain ⟨_,dv,a1,e_,bB⟩:=id Ip;subst aJ;nofun;exact ⟨_,_,a1,mr _ _ _ _ _ _ _ _ (by ac_nf),cn,k,aY,aC,aZ,_,c,n,ds,rows,_,rfl,Ip,el,cT.wN s0 iH gA hs,iH,gA,hs,g1,wx,g3,R.f9 _ (jg g2),cw,fun I fO jr qt=>q _ I (.inl ⟨fD,_,wx,rfl⟩) (fun b u af ao a_ _ e=>fO _ _ af ao a_ (cT _ _ af ao a_ e)) jr (vC Ip (vC gT bI cT) fO) qt⟩
 | some i=>
  rw [fD] at cb;obtain ⟨g1,g2⟩:=mY.b0 i fD;have iZ:=a' g1;nofun;refine dy false (fun Q aV=>?_) (fun aw=>nomatch aw) (fun _=>?_)
  .nofun;exact ⟨_,pj T cb,aV⟩
  have cS:=mY.told R;have aM:=mY.len R;refine Fm (fun b I=>ac H I/\aP I/\b=pQ ds rows aj rows[i] own) (fun hS An=>?_) ?_ ?_
  .nofun;exact ⟨_,_,cb,mr _ _ _ _ _ _ _ _ (by ac_nf),cn,k,aY,aC,aZ,aj,c,n,ds,rows,i,_,own,rfl,gT,fD,iZ,el,s0,gA,cS,aM,fun I s1 cw=>⟨_,rfl,An _ _ ⟨s1,cw bE,rfl⟩⟩⟩
  .rintro H1 ⟨s1,cw,ae⟩;have k':=s1 _ _ cb;nofun;refine ⟨_,_,_,k',T.eU,T.zM,_,gf la 2 (iw ..) (by ac_nf) rfl,_,rfl,_,_,k',by rw [<- aU (f:=(·.1)),iw];decide,?_⟩;rw [RK];have cT:gG k aC aZ H (upd H1 k (.ins t.c_ ar (fb aY (ou (some i)) (aj.cQ + 1) aj.lf aj.bf aj.ct aC aZ))):=fun b u af _ _ e=>by rw [aF af];exact s1 _ _ e
   exact q { aj with cQ:=aj.cQ + 1 } _ (.inr (.inl ⟨i,_,fD,iZ,ae.symm,rfl⟩)) (fun b u af ao a_ _ e=>cT _ _ af ao a_ e) cw.upd (vC gT bI cT) ⟨d9,ar,by rw [db];exact congrArg (fun z=>some (f6.ins t.c_ ar (fb aY (ou z) (aj.cQ + 1) aj.lf aj.bf aj.ct aC aZ))) fD.symm,by rw [aF (b8 dQ cb (by intro z;cases z))];exact s1 _ _ dQ,by rw [aF (b8 eO cb (by intro z;cases z))];exact s1 _ _ eO⟩
  .rintro H1 ⟨s1,cw,ae⟩;have k':=s1 _ _ cb;have b4:aj.wt ≠ []:=fun z=>by
    unfold pQ at ae;rw [z] at ae;simp at ae
   nofun;refine ⟨_,_,k',mr _ _ _ _ _ _ _ _ (by ac_nf),_,_,k',mr _ _ _ _ _ _ _ _ (by ac_nf),cn,k,aY,aC,aZ,aj,c,n,ds,rows,i,rfl,gT.same s1,fD,g1,el,s0.trans s1,gA,cS,b4,aM,R.c5,bI.step s1,cw,fun j az bQ cV qE av=>?_⟩;have BF:=(gT.same s1).ql (Yv (bI.step s1) bQ);obtain ⟨x,ag,aB⟩:=CZ cS av.1;have i6:=Qb cS j av.1;have hi:=a' i6;exact ⟨cn,k,aY,aC,aZ,aj,c,n,ds,rows,i,j,_,rfl,BF,fD,el,fun b u e=>bQ _ _ (dB e Eu) ((s0.trans s1) _ _ e),iH,gA,hs,g1,hi,fun e=>g2 x ag (by rw [aB,e]),R.f9 _ (jg i6),R.c5 _ (jg i6),cV,fun I fO jr qt=>q _ I (.inr (.inr ⟨i,_,j,_,fD,iZ,ae.symm,av,hi,rfl⟩)) (fun b u af ao a_ cL e=>fO _ _ af ao a_ (bQ _ _ cL (s1 _ _ e))) jr (vC BF qE fO) qt⟩
noncomputable def mZ (rows:List ST) (s:dG) (x:Str):Bool:=match s.b0 with
 | some i=>decide (et rows x=some i)
 | none=>false
theorem agv (n:Int) (ds:List a0) (rows:List ST) (s:dG) (d:a0):decide (V.str (gR n ds rows s d)=V.str (aa "free"))=mZ rows s d.name:=by
 have af:(V.str (aa "stop"):V) ≠ V.str (aa "free"):=fun z=>absurd (V.str.inj z) (by ac_nf)
 have ao:(V.str (aa "fade"):V) ≠ V.str (aa "free"):=fun z=>absurd (V.str.inj z) (by ac_nf)
 have a_:(V.str (aa "ready"):V) ≠ V.str (aa "free"):=fun z=>absurd (V.str.inj z) (by ac_nf)
 unfold gR mZ;cases s.b0 with
 | none=>
  show decide (V.str (rn n ds rows s d)=_)=false;unfold rn;split
  .exact decide_eq_false ao
  .split
   .exact decide_eq_false a_
   .exact decide_eq_false af
 | some i=>
  show decide (V.str (q_ rows i d.name)=_)=decide (et rows d.name=some i);unfold q_;split
  .rename_i h;rw [decide_eq_true rfl,decide_eq_true h]
  .rename_i h;rw [decide_eq_false af,decide_eq_false h]
noncomputable def xL (rows:List ST) (s:dG) (wt:List Str) (x:Str):List Str:=if mZ rows s x=true\/x ∈ wt then wt else wt ++ [x]
noncomputable def nN (rows:List ST) (s:dG) (wt:List Str) (xs:List Str):List Str:=xs.foldl (xL rows s) wt
noncomputable def ra (rows:List ST) (s:dG) (xs:List Str):dG:={ s with wt:=nN rows s s.wt xs }
theorem agC (wt:List Str) (x:Str):d3 (fT wt) (bc x) (.bl true)=fT (if x ∈ wt then wt else wt ++ [x]):=by
 unfold d3;have MG:((fT wt).any fun df=>decide (df.1=bc x))=decide (x ∈ wt):=by
  rw [kD,decide_eq_true_eq,p6];constructor
  .rintro ⟨p,av,ag⟩;obtain ⟨y,a7,rfl⟩:=cp.mp av;have:=rK (of_decide_eq_true ag);rw [<- this];exact a7
  .exact fun h=>⟨(bc x,V.bl true),cp.mpr ⟨x,h,rfl⟩,decide_eq_true rfl⟩
 by_cases h:x ∈ wt
 .rw [if_pos (by rw [MG];exact decide_eq_true h),if_pos h];unfold fT;rw [pO];refine ah1 fun y _=>?_
  show (if (bc y:Key)=bc x then ((bc y:Key),V.bl true) else (bc y,V.bl true))=_;split <;> rfl
 .rw [if_neg (by rw [MG,decide_eq_false h];exact fB),if_neg h];unfold fT;rw [fz];rfl
theorem Y7 {ds:List a0} {rows:List ST} {s:dG} {wt:List Str} {x:Str} (ag:x ∈ ds.map (·.name)) (k:Ev ds rows { s with wt:=wt }):Ev ds rows { s with wt:=xL rows s wt x }:=by
 unfold xL;split
 .exact k
 .rename_i h;have af:x ∉ wt:=fun z=>h (.inr z)
  refine ⟨?_,fun y a7=>?_,fun i ah=>⟨(k.b0 i ah).1,fun y a7=>?_⟩,k.ch⟩
  .show (wt ++ [x]).Nodup;rw [CN];exact ⟨k.wn,by simp,fun a aX b ae e=>by rw [eC.mp ae] at e;exact af (e ▸ aX)⟩
  .rcases f5.mp a7 with a7 | a7
   .exact k.aC y a7
   .rw [eC.mp a7];exact ag
  .rcases f5.mp a7 with a7 | a7
   .exact (k.b0 i ah).2 y a7
   .rw [eC.mp a7];intro e;refine h (.inl ?_);have ah:s.b0=some i:=ah;unfold mZ;rw [ah];exact decide_eq_true e
theorem GB {ds:List a0} {rows:List ST} {s:dG}:∀ (xs wt:List Str),(∀ x ∈ xs,x ∈ ds.map (·.name))->Ev ds rows { s with wt:=wt }->Ev ds rows { s with wt:=nN rows s wt xs }
 | [],_,_,k=>k
 | x :: xs,wt,h,k=>GB xs (xL rows s wt x) (fun y a7=>h y (.tail _ a7)) (Y7 (h x (.head _)) k)
theorem NT {rows:List ST} (h:∀ x ∈ xs,x ∈ ds.map (·.name)) (k:Ev ds rows s):Ev ds rows (ra rows s xs):=GB xs s.wt h k
theorem adA (rows:List ST) (s:dG) (wt xs:List Str) (x:Str):nN rows s wt (xs ++ [x])=xL rows s (nN rows s wt xs) x:=by
 unfold nN;rw [JA];rfl
def Ma (P:Program) (w:World) (K:ba) (t:bR) (Pt:Addr):bN:=fun vs H Q _=>∃ cn k aY aC aZ s c n ds rows a xs,vs=[.ref k,.ref a]/\eQ t H k aY aC aZ s/\hh P w t cn aY c n ds rows/\ac cn H/\cn k=none/\cn aC=none/\cn aZ=none/\cn Pt=none/\ox ds rows/\Ev ds rows s/\H a=some (.lst (aW xs))/\xs.length <= 1000/\(∀ x ∈ xs,x ∈ ds.map (·.name))/\m5 Pt H/\aP H /\
 ∀ p aj I,rY n ds rows (ra rows s xs) (xs.any (mZ rows s)) aj->Oj k aC aZ Pt H I->H p=none->I p=some (.bw (h3 ds (gR n ds rows s)))->aP I->m5 Pt I->eQ t I k aY aC aZ aj->Q (.ref p) I
theorem agN (dg:qo base t.qV Pt) (jb:base.BuiltinsAt mg Pt):cv P base T 5 t.vR t.zF BL (Ma P w K t Pt):=by
 refine cG (qG T) fun jW=>cG (aa' T) fun Y1=>cG (abV T dg jb) fun Zl=>?_;exists T.NJ.ok so,9
 obtain ⟨cn,k,aY,aC,aZ,aj,c,n,ds,rows,a,xs,rfl,gT,el,s0,iH,gA,hs,Eu,R,mY,aX,iF,jy,bI,bE,q⟩:=h;obtain ⟨d9,ar,cb,dQ,eO⟩:=id gT;obtain ⟨j0,le,mo,c8,c5,aS,ch,ms,kvs,au,C,bO,eD,gh,fi,h9,lP,lu⟩:=id (el.same s0);obtain ⟨⟨fv,gx⟩,Ry,wl,aG,bB,_,_⟩:=id C;have bq:=g7 ak;have mL:∀ {i:Nat} {x:Str},xs[i]? = some x->∃ (j:Nat) (d:a0),ds[j]? = some d/\d.name=x:=fun {i x} ag=>by
  obtain ⟨d,hd,e⟩:=cp.mp (jy x (cB ag));obtain ⟨j,aO⟩:=jv hd;exact ⟨j,d,aO,e⟩
 refine ⟨_,(aR (be fm rfl (Gc (U 1)) (cz (i:=2) so.aG) (a5 (en (e4 (bG (bG (U 0) rfl) rfl) T.hU T.nK jW ak T.nR .nil cO (ai (U 2) aE)))))
   (aR (b2 (i:=3) so.aG (jj (U 0) T.eU T.Ys Y1 ak T.aix .nil cO))
   (aR (b2 (i:=4) so.aG iJ)
   (aR (be fm rfl (Gc (U 1)) (cz (i:=2) so.aG) (a5 (dI (cP eo (kJ bq (U 3) (U 2) (fun _ _=>rfl)) cD (cm _)) (a5 (b2 (i:=4) so.aG iJ)) (a5 (tW bq (bG (U 0) rfl) (U 2) iJ rfl)))))
   (aR (en (e4 (U 0) T.eU T.aeI Zl ak T.afb .nil cO (ai (U 4) aE)))
   (a5 (cj (U 3)))))))),?_⟩
 refine cZ (fun aA I=>I=H/\∃ y,aA=[~~~k,~~~a,y,none,none]) (fun b3 bV=>?_) fun cN aJ=>?_
 .nofun;refine ⟨⟨_,aD.of aX⟩,?_⟩;refine dP.list (xs:=aW xs) (fun i σ I=>I=H/\∃ y,σ=[~~~k,~~~a,y,none,none]) ?_ ?_ ?_ ?_
  .exact ⟨rfl,_,rfl⟩
  .rintro i σ I ah ⟨rfl,_⟩;exact aD.of aX
  .rintro i v σ I aK ⟨rfl,y,rfl⟩;unfold aW at aK;obtain ⟨x,ag,rfl⟩:=cA aK;obtain ⟨j,d,hd,rfl⟩:=mL ag;nofun;exact ⟨_,i0 T cb,_,rfl,_,Do T au,_,rfl,_,_,bB,kb _ _ _ (by ac_nf),c,n,ds,j,d,rfl,C,hd,fun _ _=>⟨rfl,_,rfl⟩⟩
  .rintro σ I ⟨rfl,y,rfl⟩;exact bV _ _ ⟨rfl,_,rfl⟩
 rintro gg H1 ⟨rfl,mj,rfl⟩;subst aJ;refine cZ (fun aA I=>ac H1 I/\aP I/\∃ p,H1 p=none/\I p=some (.bw (h3 ds (gR n ds rows aj)))/\aA=[~~~k,~~~a,mj,~~~p,none]) (fun b3 bV=>?_) fun cN aJ=>?_
 .nofun;exact ⟨_,_,cb,mr _ _ _ _ _ _ _ _ (by ac_nf),k,aY,aC,aZ,aj,c,n,ds,rows,rfl,gT,el.same s0,R.dS,mY.ch,bE,fun p I s2 cV av vJ=>bV _ _ ⟨s2,cV,p,av,vJ,rfl⟩⟩
 rintro cC az ⟨s2,cV,p,mn,d6,rfl⟩;subst aJ;refine cZ (fun aA I=>I=az/\aA=[~~~k,~~~a,mj,~~~p,some (.bl false)]) (fun b3 bV=>?_) fun cN aJ=>?_
 .nofun;exact bV _ _ ⟨rfl,rfl⟩
 rintro gc bk ⟨rfl,rfl⟩;subst aJ;refine cZ (fun aA I=>gG k aC aZ bk I/\aP I/\eQ t I k aY aC aZ (ra rows aj xs)/\∃ y,aA=[~~~k,~~~a,y,~~~p,some (.bl (xs.any (mZ rows aj)))]) (fun b3 bV=>?_) fun cN aJ=>?_
 .have eR:=s2 _ _ aX;have e_:=s2 _ _ cb;have ec:=s2 _ _ dQ;have hR:=s2 _ _ eO;nofun;refine ⟨⟨_,aD.of eR⟩,?_⟩;refine dP.list (xs:=aW xs) (fun i σ I=>gG k aC aZ bk I/\aP I/\eQ t I k aY aC aZ { aj with wt:=nN rows aj aj.wt (xs.take i) }/\∃ y,σ=[~~~k,~~~a,y,~~~p,some (.bl ((xs.take i).any (mZ rows aj)))]) ?_ ?_ ?_ ?_
  .exact ⟨gG.of (ac.refl bk),cV,gT.same s2,_,rfl⟩
  .rintro i σ I ah ⟨fO,_⟩;exact aD.of (fO _ _ (b8 eR e_ (by intro z;cases z)) (b8 eR ec (by intro z;cases z)) (b8 eR hR (by intro z;cases z)) eR)
  .rintro i v σ I aK bh;ac_rfl
   obtain ⟨fO,jr,⟨_,d',f1,f2,dY⟩,y,rfl⟩:=bh;subst aJ;unfold aW at aK;obtain ⟨x,ag,rfl⟩:=cA aK;obtain ⟨j,d,hd,rfl⟩:=mL ag;have hz:=fO _ _ (b8 d6 e_ (by intro z;cases z)) (fun e=>by rw [e,dQ] at mn;cases mn) (fun e=>by rw [e,eO] at mn;cases mn) d6;have bg:=gb.k (k:=bc d.name) hz;rw [zu (f:=gR n ds rows aj) fv hd] at bg;have eJ:(fT (nN rows aj aj.wt (xs.take i))).length <= 12:=by
    have:=(GB (xs.take i) aj.wt (fun x ag=>jy x (sV ag)) mY).len R;unfold fT;rw [aU];exact this
   have fK:nN rows aj aj.wt (xs.take (i + 1))=xL rows aj (nN rows aj aj.wt (xs.take i)) d.name:=by rw [jC ag,adA]
   have jD:(xs.take (i + 1)).any (mZ rows aj)=((xs.take i).any (mZ rows aj) || mZ rows aj d.name):=by rw [jC ag,List.any_append];simp
   nofun;refine dy (mZ rows aj d.name) (fun hS aV=>?_) (fun ae=>?_) (fun ae=>?_)
   .nofun;rw [<- agv n ds rows aj d] at aV;exact ⟨_,bg,rfl,aV⟩
   .nofun;refine ⟨fO,jr,⟨d9,d',f1,?_,dY⟩,?_⟩
    .rw [fK];unfold xL;rw [if_pos (.inl ae)];exact f2
    .rw [jD,ae,Ri]
   .nofun;refine ⟨_,vY T f1,_,rfl,_,kv.k (k:=bc d.name) f2 (hp eJ (by decide)),fun b u af ao a_ e=>by rw [aF ao];exact fO _ _ af ao a_ e,jr.upd,⟨d9,d',by rw [aF (b8 f1 f2 (by intro z;cases z))];exact f1,?_,by rw [aF (eg d9)];exact dY⟩,?_⟩
    .rw [db,agC,fK];unfold xL;by_cases h:d.name ∈ nN rows aj aj.wt (xs.take i)
     .rw [if_pos h,if_pos (.inr h)]
     .rw [if_neg h,if_neg (fun z=>z.elim (fun z=>by rw [ae] at z;cases z) h)]
    .rw [jD,ae,SE]
  .rintro σ I bh;ac_rfl
   obtain ⟨fO,jr,qt,y,rfl⟩:=bh;subst aJ;rw [fo,iq] at *;exact bV _ _ ⟨fO,jr,qt,y,rfl⟩
 rintro lq cJ ⟨dD,dR,qX,ak1,rfl⟩;obtain ⟨_,ze,f1,f2,dY⟩:=id qX;have rN:=gT.same s2;have e_:=s2 _ _ cb;subst aJ;nofun;refine ⟨_,_,f1,mr _ _ _ _ _ _ _ _ (by ac_nf),cn,k,aY,aC,aZ,_,c,n,ds,rows,_,rfl,qX,el,dD.wN (s0.trans s2) iH gA hs,iH,gA,hs,Eu,R,NT jy mY,vC rN (bI.step s2) dD,dR,fun s5 dH ax eE iB Ym zz=>?_⟩;have Mg:p ≠ k:=b8 d6 e_ (by intro z;cases z);have nw:p ≠ aC:=fun e=>by rw [e,dQ] at mn;cases mn
 have np:p ≠ aZ:=fun e=>by rw [e,eO] at mn;cases mn
 have Vl:p ≠ Pt:=fun e=>by
  obtain ⟨ps,b5,_⟩:=bI;rw [e,b5] at mn;cases mn
 exact q p s5 dH ax (fun b u af ao a_ cL e=>eE _ _ af ao a_ cL (dD _ _ af ao a_ (s2 _ _ e))) mn (eE _ _ Mg nw np Vl (dD _ _ Mg nw np d6)) iB Ym zz
theorem O3 {i:Int} (h:i.natAbs < 100000):i.natAbs.log2 < 1920:=by
 by_cases h0:i.natAbs=0
 .rw [h0];decide
 .exact (Ug h0).mpr (EC h (by decide))
def Tn (K:ba):bN:=fun vs H Q _=>∃ (a:Addr) (ns:List Int) (k m:Int),vs=[.ref a,.int k,.int m]/\ns.length <= 63/\aD K H a (ns.map V.int)/\(0 <= k/\k < 1000000)/\0 < m/\Q (.int (di ns k m)) H
theorem VV:cv P base T 1 t.y0 t.AV z_ (Tn K):=by
 exists T.fc.ok sd,9
 obtain ⟨a,ns,k,m,rfl,hv,S,⟨h0,af⟩,hm,q⟩:=h;refine ⟨_,(aR (b2 (i:=3) sd.aG (tE (cP kz (fq g0 rfl T.gU gK (ai (U 0) aE)) aL (cm _)) (bX dE (U 0) (bD i9 (U 1) (fq g0 rfl T.gU gK (ai (U 0) aE)))) aL))
   (aR (b2 (i:=4) sd.aG (bD d2 (bD d2 (bD i9 (U 3) aL) (bD jq (bD jq aL (U 1)) (U 1))) aL))
   (a5 (cj (bD i9 (bD i9 (bD jq (bD i9 (bD jq (U 4) aL) aL) aL) aL) (U 2)))))),?_⟩
 nofun;refine ⟨_,.inl S,?_⟩;rw [aU];have V1:(0:Int) <= k * k/\k * k < 1000000 * 1000000:=⟨aia h0 h0,XX (by omega) af h0 (by decide)⟩;have fin:∀ i:Int,(0:Int) < 1000003/\mS 31 k/\mS (31 * k) k/\mS (i % 1000003 + 31 * k * k + 1) 48271/\(0:Int) < 999983/\mS ((i % 1000003 + 31 * k * k + 1) * 48271 % 999983) 7919/\(0:Int) < 524287/\0 < m:=by
  intro i;refine ⟨by decide,.inl (by decide),.inr (by omega),.inr (by decide),by decide,.inr (by decide),by decide,hm⟩
 by_cases c:(0:Int) < (ns.length:Int)
 .rw [if_pos (decide_eq_true c)];have aB:0 <= k % (ns.length:Int)/\k % (ns.length:Int) < (ns.length:Int):=⟨BQ _ (by omega),w7 _ c⟩;refine ⟨_,.inl S,by rw [aU];exact c,_,S,?_⟩;rw [aU];have aO:(k % (ns.length:Int)).toNat < ns.length:=by omega
  refine ⟨.int ns[(k % (ns.length:Int)).toNat],?_,_,rfl,?_⟩
  .have e:=cg (xs:=ns.map V.int) (j:=(k % (ns.length:Int)).toNat) (v:=.int ns[(k % (ns.length:Int)).toNat]) (by rw [dm,a' aO] <;> rfl);rwa [pv aB.1] at e
  .obtain ⟨f1,f2,dY,f4,ea,mm,ll,f8⟩:=fin ns[(k % (ns.length:Int)).toNat];refine ⟨f1,f2,dY,f4,ea,mm,ll,f8,?_⟩;have e:di ns k m=(((ns[(k % (ns.length:Int)).toNat] % 1000003 + 31 * k * k + 1) * 48271 % 999983 * 7919) % 524287) % m:=by
    unfold di;rw [if_pos c,iV,a' aO];rfl
   rw [<- e];exact q
 .rw [if_neg (by simpa using c)];obtain ⟨f1,f2,dY,f4,ea,mm,ll,f8⟩:=fin 0;refine ⟨f1,f2,dY,f4,ea,mm,ll,f8,?_⟩;have e:di ns k m=(((0 % 1000003 + 31 * k * k + 1) * 48271 % 999983 * 7919) % 524287) % m:=by
   unfold di;rw [if_neg c]
  rw [<- e];exact q
noncomputable def ins {α:Type} (l:List α) (i:Nat) (a:α):List α:=l.take i ++ a :: l.drop i
theorem ta (ah:i <= l.length) (j:Nat):(ins l i a)[j]? = if j < i then l[j]? else if j=i then some a else l[j - 1]?:=by
 unfold ins;have cS:(l.take i).length=i:=by rw [hq];omega
 by_cases af:j < i
 .rw [if_pos af,gD (by omega),sq af]
 .rw [if_neg af,i5 (by omega),cS];by_cases ao:j=i
  .subst ao;rw [if_pos rfl];simp
  .rw [if_neg ao,show j - i=(j - 1 - i) + 1 by omega,A_,List.getElem?_drop,show i + (j - 1 - i)=j - 1 by omega]
theorem FN (ah:i <= l.length):(ins l i a).length=l.length + 1:=by
 unfold ins;rw [c6,hQ,hq,tP];omega
theorem aeR (h:l.Nodup) (n:a ∉ l):(ins l i a).Nodup:=by
 unfold ins;rw [(YD).nodup_iff,rr,Rj];exact ⟨n,h⟩
theorem lS {a x:α} (h:x ∈ ins l i a):x=a\/x ∈ l:=by
 unfold ins at h;rcases f5.mp h with z | z
 .exact .inr (sV z)
 .rcases fh.mp z with z | z
  .exact .inl z
  .exact .inr (WU z)
theorem GP (f:α->β) (l:List α) (i:Nat) (a:α):(ins l i a).map f=ins (l.map f) i (f a):=by
 unfold ins;rw [fz,eV,acK,List.map_drop]
theorem La (x:Str) (mO:a <= b) (ae:b <= x.cps.toList.length):(lx x (some (a:Int)) (some (b:Int))).cps.toList=(x.cps.toList.drop a).take (b - a):=by
 have ag:x.length=x.cps.toList.length:=by simp [sO]
 have e:=StrLaws.sliceText_nat x mO (by rw [ag];exact ae);rw [show lx x (some (a:Int)) (some (b:Int))=tV x (some (a:Int)) (some (b:Int)) from rfl,e]
theorem EI (x:Str) (ae:b <= x.cps.toList.length):(lx x none (some (b:Int))).cps.toList=x.cps.toList.take b:=by
 have:lx x none (some (b:Int))=lx x (some ((0:Nat):Int)) (some (b:Int)):=by
  show tV x none (some (b:Int))=tV x (some ((0:Nat):Int)) (some (b:Int));unfold tV;rw [StrLaws.sliceIdx_none_lo];rfl
 rw [this,La x (fk _) ae,UT,Nat.sub_zero]
theorem Vq (x:Str) (aX:a <= x.cps.toList.length):(lx x (some (a:Int)) none).cps.toList=x.cps.toList.drop a:=by
 have ag:x.length=x.cps.toList.length:=by simp [sO]
 have:lx x (some (a:Int)) none=lx x (some (a:Int)) (some ((x.cps.toList.length:Nat):Int)):=by
  show tV x (some (a:Int)) none=tV x (some (a:Int)) (some ((x.cps.toList.length:Nat):Int));unfold tV;rw [StrLaws.sliceIdx_none_hi,<- ag]
 rw [this,La x aX (bW _)];exact Jz (by rw [tP];exact bW _)
noncomputable def t6 (l:List Nat) (k:Nat):List Nat:=l.take (k + 1)
noncomputable def nW (l:List Nat) (at_ f k:Nat):List Nat:=l.take at_ ++ [97 + (f + k) % 26] ++ l.drop (at_ + 1)
noncomputable def nE (l:List Nat) (f k j:Nat):List Nat:=[97 + (f + k) % 26] ++ l.take j
theorem Jx (aM:l.length=8) (al:∀ c ∈ l,97 <= c/\c <= 122) {k:Nat} (aB:k < 8):(t6 l k).length=k + 1/\∀ c ∈ t6 l k,97 <= c/\c <= 122:=by
 unfold t6;exact ⟨by rw [hq];omega,fun c aw=>al c (sV aw)⟩
theorem Uo (aM:l.length=8) (al:∀ c ∈ l,97 <= c/\c <= 122) {a f k:Nat} (aX:a < 8):(nW l a f k).length=8/\∀ c ∈ nW l a f k,97 <= c/\c <= 122:=by
 unfold nW;refine ⟨by rw [c6,c6,hq,tP,ju];omega,fun c aw=>?_⟩;rcases f5.mp aw with aw | aw
 .rcases f5.mp aw with aw | aw
  .exact al c (sV aw)
  .rw [eC.mp aw];omega
 .exact al c (WU aw)
theorem XH (aM:l.length=8) (al:∀ c ∈ l,97 <= c/\c <= 122) {f k j:Nat} (aO:j < 8):(1 <= (nE l f k j).length/\(nE l f k j).length <= 8)/\∀ c ∈ nE l f k j,97 <= c/\c <= 122:=by
 unfold nE;refine ⟨by rw [c6,hq,ju];omega,fun c aw=>?_⟩;rcases f5.mp aw with aw | aw
 .rw [eC.mp aw];omega
 .exact al c (sV aw)
theorem Vr (aM:l.length=8) (aX:a < 8) (ah:i < 8) (aO:j < 8) (e:nW l a f i=nW l a f j):i=j:=by
 have af:∀ k,(nW l a f k)[a]? = some (97 + (f + k) % 26):=fun k=>by
  unfold nW;rw [o8,i5 (by rw [hq];omega),hq,show a - min a l.length=0 by omega];rfl
 have ao:=af i;rw [e,af j] at ao;have:=dh ao;omega
theorem acf (ah:i < 8) (aO:j < 8) (e:nE l f i u=nE l f j v):i=j:=by
 unfold nE at e;have:=(ue e).1;omega
theorem aie {k:Nat} (h:k <= xs.length):md xs none (some ((k:Nat):Int))=xs.take k:=by
 unfold md;rw [fM.U_,ac' h,fM.ah5];simp
noncomputable def six:List Str:=[aa "stage",aa "tram",aa "car",aa "foot",aa "ring",aa "free"]
theorem W_ {x:Str} (e:x.cps.toList=l) (h0:1 <= l.length) (af:l.length <= 8) (al:∀ c ∈ l,97 <= c/\c <= 122):made x mC 8=true:=by
 have ag:x.length=x.cps.toList.length:=by simp [sO]
 exact acV (by rw [ag,e];exact h0) (by rw [ag,e];exact af) (by rw [e];exact al)
def Dg (m:Nat) (xs:List Str):Prop:=xs.length=m/\xs.Nodup/\∀ x ∈ xs,made x mC 8=true
theorem L6 (h0:0 <= i) (af:i < 26):∃ c:Nat,fH (aa "abcdefghijklmnopqrstuvwxyz").cps.toList i=some c/\c=97 + i.toNat:=by
 have:∀ k,k < 26->fH (aa "abcdefghijklmnopqrstuvwxyz").cps.toList ((k:Nat):Int)=some (97 + k):=by ac_nf
 refine ⟨97 + i.toNat,?_,rfl⟩;have e:=this i.toNat (by omega);rwa [pv h0] at e
theorem MK:∀ ys:List Str,(dV ⟨#[]⟩ ys).cps.toList=(ys.map (·.cps.toList)).flatten
 | []=>rfl
 | [a]=>by
  show a.cps.toList=_;simp
 | a :: b :: r=>by
  show (a ++ ⟨#[]⟩ ++ dV ⟨#[]⟩ (b :: r)).cps.toList=_;rw [nh,nq,nh,nq,MK (b :: r)];simp
theorem Ox (f:Nat->Nat) (n:Nat):(o3 (aa "") ((fL n).map fun i=>iY (f i))).cps.toList=(fL n).map f:=by
 rw [show o3 (aa "") ((fL n).map fun i=>iY (f i))=dV ⟨#[]⟩ ((fL n).map fun i=>iY (f i)) from uA _ _,MK,pO];have:((fun x:Str=>x.cps.toList) ∘ fun i=>iY (f i))=fun i=>[f i]:=rfl
 rw [this]
 induction (fL n) with
 | nil=>rfl
 | cons a l b9=>rw [eV,ti,b9];rfl
theorem ac1:∀ m,m < 7->(six.take m).length=m/\(six.take m).Nodup/\∀ x ∈ six.take m,made x mC 8=true:=by ac_nf
def acD (K:ba) (a:Addr) (ns:List Int):bN:=fun vs H Q _=>∃ m:Nat,vs=[.ref a,.int m]/\Sc K a ns H/\(1 <= m/\m <= 8)/\∀ p xs I,ac H I->Sc K a ns I->H p=none->I p=some (.lst (aW xs))->Dg m xs->Q (.ref p) I
theorem aer (a:Addr) (ns:List Int) (hv:ns.length <= 63):cv P base T 2 t.BZ t.HE BX (acD K a ns):=by
 refine cG (GU T a ns hv) fun fe=>?_;exists T.Hs.ok pd,9
 obtain ⟨m,rfl,S,hm,q⟩:=h;have eJ:(aa "abcdefghijklmnopqrstuvwxyz").length=26:=by ac_nf
 refine ⟨_,(aR (pA (i:=2) pd.aG rfl (mM rfl) cD)
   (aR (b2 (i:=3) pd.aG (gk tu BC zb uF cD (ai (hE rfl (l8 rfl T.lJ (ai aL aE)) (gQ (sc:=bz Es) rfl (by ac_nf)) (N:=["_law_k","_law_letters","_law_script"]) (sel:=[none,some 2,some 0]) (gF (M:=["_law_script","_law_many","_law_letters","_law_base","_law_way","_law_at","_law_names_here","_law_k","_law_sign"]) (by ac_nf)) (fy.of (fun _ _ _ _=>(cz (i:=0) (er (N:=["_law_k","_law_letters","_law_script"]) (by ac_nf) rfl))) (fun _ _ _ _=>⟨_,h4,by walk_at "B"⟩) (fun _ _ _ _=>⟨_,(bX Ei (U 1) (cf fe ak T.fA T.fc.bK T.fw (ai (U 2) (ai (bD d2 aL (U 0)) (ai aL aE))))),by walk_at "B"⟩))) aE)))
   (aR (b2 (i:=4) pd.aG (cf fe ak T.fA T.fc.bK T.fw (ai (U 0) (ai aL (ai aL aE)))))
   (aR (b2 (i:=5) pd.aG (cf fe ak T.fA T.fc.bK T.fw (ai (U 0) (ai aL (ai aL aE)))))
   (aR (b2 (i:=6) pd.aG (fg aE))
   (aR (dI (fj.pt (iD (cP eo (cf fe ak T.fA T.fc.bK T.fw (ai (U 0) (ai aL (ai aL aE)))) aL (cm _)) (jA (cP jd (U 1) aL (cm _))))) (a5 (cj (Tk M' (fg (ai cD (ai cD (ai cD (ai cD (ai cD (ai cD aE))))))) io (q9 (U 1))))) eh)
   (aR (be fm rfl (l8 rfl T.lJ (ai (U 1) aE)) (cz (i:=7) pd.aG) (aR (b2 (i:=8) pd.aG (bX Ei (U 2) (bD i9 (bD d2 (cf fe ak T.fA T.fc.bK T.fw (ai (U 0) (ai aL (ai aL aE)))) (U 7)) aL)))
   (a5 (dI (cP eo (U 4) aL (cm _)) (a5 (en (gk iM kO kT ks (U 6) (ai (bD kV (bD kV (Tk xb (U 3) io (q9 (U 5))) (U 8)) (Tk xb (U 3) (q9 (bD d2 (U 5) aL)) io)) aE)))) (a5 (dI (fj.pt (iD (cP eo (U 4) aL (cm _)) (jA (cP jd (U 1) aL (cm _))))) (a5 (en (gk iM kO kT ks (U 6) (ai (Tk xb (U 3) io (q9 (bD d2 (U 7) aL))) aE)))) (a5 (en (gk iM kO kT ks (U 6) (ai (bD kV (U 8) (Tk xb (U 3) io (q9 (cf fe ak T.fA T.fc.bK T.fw (ai (U 0) (ai (bD d2 aL (U 7)) (ai aL aE))))))) aE))))))))))
   (a5 (cj (U 6)))))))))),?_⟩
 refine cZ (fun aA I=>I=H/\aA=[~~~a,some (.int m),some (.str (aa "abcdefghijklmnopqrstuvwxyz")),none,none,none,none,none,none]) (fun b3 bJ=>?_) fun cN aJ=>?_
 .nofun;exact bJ _ _ ⟨rfl,rfl⟩
 rintro gg H1 ⟨rfl,rfl⟩;subst aJ;refine cZ (fun aA I=>ac H1 I/\Sc K a ns I/\∃ aC:Str,aC.cps.toList.length=8/\(∀ c ∈ aC.cps.toList,97 <= c/\c <= 122)/\aA=[~~~a,some (.int m),some (.str (aa "abcdefghijklmnopqrstuvwxyz")),some (.str aC),none,none,none,none,none]) (fun b3 bJ=>?_) fun cN aJ=>?_
 .nofun;refine ⟨by decide,by decide,?_⟩;refine da.Xj (n:=8) (fun i=>V.str (iY (97 + (di ns (300 + (i:Int)) 26).toNat))) (by decide) (fun i N ah bu=>?_) (fun p av=>?_)
  .have dv:=ce ns (300 + (i:Int)) (m:=26) (by decide);have ew:=hx ns (300 + (i:Int)) (m:=26) (by decide);obtain ⟨c,aw,rfl⟩:=L6 dv ew;(nofun; repeat (dsimp only [iI];nofun));exact ⟨Sub.name,S,by omega,by omega,by decide,by rw [eJ];decide,_,aw,bu⟩
  .have e:(fL 8).map (fun i:Nat=>V.str (iY (97 + (di ns (300 + (i:Int)) 26).toNat)))=aW ((fL 8).map fun i:Nat=>iY (97 + (di ns (300 + (i:Int)) 26).toNat)):=by unfold aW;rw [pO];rfl
   refine ⟨p,rfl,(fL 8).map fun i:Nat=>iY (97 + (di ns (300 + (i:Int)) 26).toNat),by rw [<- e];exact aD.of db,?_,?_⟩
   .have af:(rQ (fun x:Str=>x.length) ((fL 8).map fun i:Nat=>iY (97 + (di ns (300 + (i:Int)) 26).toNat))).sum=8:=by
     rw [pO];rfl
    rw [af,aU,tr];ac_nf
   .refine bJ _ _ ⟨bp av,S.new av,_,?_,fun c aw=>?_,rfl⟩
    .rw [Ox (fun i:Nat=>97 + (di ns (300 + (i:Int)) 26).toNat) 8,aU,tr]
    .rw [Ox (fun i:Nat=>97 + (di ns (300 + (i:Int)) 26).toNat) 8] at aw;obtain ⟨i,_,rfl⟩:=cp.mp aw;have dv:=ce ns (300 + (i:Int)) (m:=26) (by decide);have ew:=hx ns (300 + (i:Int)) (m:=26) (by decide);omega
 rintro cC az ⟨s2,k1,aC,gL,oJ,rfl⟩;have xH:aC.length=8:=by
  have:aC.length=aC.cps.toList.length:=by simp [sO]
  omega
 have Vh:=ce ns 310 (m:=3) (by decide);have aik:=hx ns 310 (m:=3) (by decide);subst aJ;generalize pY:di ns 310 3=way at Vh aik;refine cZ (fun aA I=>I=az/\aA=[~~~a,some (.int m),some (.str (aa "abcdefghijklmnopqrstuvwxyz")),some (.str aC),some (.int way),none,none,none,none]) (fun b3 bJ=>?_) fun cN aJ=>?_
 ·(nofun; repeat (dsimp only [iI];nofun));rw [pY];exact ⟨k1,by omega,by omega,by decide,bJ _ _ ⟨rfl,rfl⟩⟩
 rintro gc bk ⟨rfl,rfl⟩;obtain ⟨at_,mL,Kx⟩:∃ at_:Nat,di ns 311 8=(at_:Nat)/\at_ < 8:=by
  have dv:=ce ns 311 (m:=8) (by decide);have ew:=hx ns 311 (m:=8) (by decide);exact ⟨(di ns 311 8).toNat,by omega,by omega⟩
 subst aJ;refine cZ (fun aA I=>I=bk/\aA=[~~~a,some (.int m),some (.str (aa "abcdefghijklmnopqrstuvwxyz")),some (.str aC),some (.int way),some (.int (at_:Nat)),none,none,none]) (fun b3 bJ=>?_) fun cN aJ=>?_
 ·(nofun; repeat (dsimp only [iI];nofun));rw [mL];exact ⟨k1,by omega,by omega,by omega,bJ _ _ ⟨rfl,rfl⟩⟩
 rintro lq cJ ⟨rfl,rfl⟩;obtain ⟨f,hf,akr⟩:∃ f:Nat,di ns 312 26=(f:Nat)/\f < 26:=by
  have dv:=ce ns 312 (m:=26) (by decide);have ew:=hx ns 312 (m:=26) (by decide);exact ⟨(di ns 312 26).toNat,by omega,by omega⟩
 subst aJ;refine cZ (fun aA I=>Sc K a ns I/\ac cJ I/\∃ ck,cJ ck=none/\I ck=some (.lst [])/\aA=[~~~a,some (.int m),some (.str (aa "abcdefghijklmnopqrstuvwxyz")),some (.str aC),some (.int way),some (.int (at_:Nat)),~~~ck,none,none]) (fun b3 bJ=>?_) fun cN aJ=>?_
 .nofun;exact ⟨fk _,fun ck fp=>bJ _ _ ⟨k1.new fp,bp fp,ck,fp,db,rfl⟩⟩
 rintro lW hH ⟨wm,gV,ck,fp,sv,rfl⟩;subst aJ;simp only [dN];refine qm (fun aA I=>I=hH/\aA=[~~~a,some (.int m),some (.str (aa "abcdefghijklmnopqrstuvwxyz")),some (.str aC),some (.int way),some (.int (at_:Nat)),~~~ck,none,none]) (fun b3 bJ lr _ _=>?_) ?_
 .refine dy (decide (di ns 313 8=0) && decide (m < 7)) (fun Q aV=>?_) (fun ae=>?_) (fun ae=>?_)
  ·(nofun; repeat (dsimp only [iI];nofun));refine ⟨wm,by decide,by decide,by decide,?_⟩;by_cases b_:di ns 313 8=0
   .rw [if_pos (decide_eq_true b_),show decide ((m:Int) < 7)=decide (m < 7) from decide_eq_decide.mpr (by omega)];rw [decide_eq_true b_,kG] at aV;exact aV
   .rw [if_neg (by simpa using b_)];rw [decide_eq_false b_,k2] at aV;exact aV
  .rw [hy,decide_eq_true_eq,decide_eq_true_eq] at ae;obtain ⟨cb,dQ,eO⟩:=ac1 m ae.2;nofun;refine ⟨by decide,fun p av=>⟨_,aD.of db,fun e0 F7=>?_⟩⟩;rw [lr];refine q e0 (six.take m) _ (s2.trans (gV.trans ((bp av).trans (bp F7)))) ((wm.new av).new F7) ((s2.trans (gV.trans (bp av))).free F7) ?_ ⟨cb,dQ,eO⟩;rw [db,aie (show m <= 6 by omega)];unfold aW six;rw [acK];rfl
  .simp only [il];exact bJ _ _ ⟨rfl,rfl⟩
 rintro ji ft ⟨rfl,rfl⟩;obtain ⟨g,bg⟩:∃ g:Nat->List Nat,g=fun k=>if way=0 then nW aC.cps.toList at_ f k else if way=1 then t6 aC.cps.toList k else nE aC.cps.toList f k (di ns (320 + (k:Int)) 8).toNat:=⟨_,rfl⟩
 simp only [dN];exists (fun aA I=>Sc K a ns I/\ac cJ I/\(∃ xs:List Str,I ck=some (.lst (aW xs))/\xs.map (·.cps.toList)=(fL m).map g)/\∃ dU dn,aA=[~~~a,some (.int m),some (.str (aa "abcdefghijklmnopqrstuvwxyz")),some (.str aC),some (.int way),some (.int (at_:Nat)),~~~ck,dU,dn]),0
 .nofun;refine ⟨by omega,by omega,?_⟩;refine dP.range (fun i σ I=>Sc K a ns I/\ac cJ I/\(∃ xs:List Str,I ck=some (.lst (aW xs))/\xs.map (·.cps.toList)=(fL i).map g)/\∃ dU dn,σ=[~~~a,some (.int m),some (.str (aa "abcdefghijklmnopqrstuvwxyz")),some (.str aC),some (.int way),some (.int (at_:Nat)),~~~ck,dU,dn]) ⟨wm,gV,⟨[],sv,rfl⟩,_,_,rfl⟩ ?_ ?_
  .rintro i σ I ah bh;ac_rfl
   obtain ⟨w0,jN,⟨xs,m9,r1⟩,dU,dn,rfl⟩:=bh;have aj_:i < 8:=by have:i < (m:Int).toNat:=ah;omega
   have iF:xs.length=i:=by have:=congrArg pT r1;rwa [aU,aU,tr] at this
   obtain ⟨c,aw,rfl⟩:=L6 (i:=((f:Int) + (i:Int)) % 26) (BQ _ (by decide)) (w7 _ (by decide));have abq:(((f:Int) + (i:Int)) % 26).toNat=(f + i) % 26:=by omega
   subst aJ;rw [abq] at aw;simp only [gd,dN,jI,jX,oj];exists (fun aA iP=>iP=I/\aA=[~~~a,some (.int m),some (.str (aa "abcdefghijklmnopqrstuvwxyz")),some (.str aC),some (.int way),some (.int (at_:Nat)),~~~ck,some (.int (i:Nat)),some (.str (iY (97 + (f + i) % 26)))]),0
   ·(nofun; repeat (dsimp only [iI];nofun));rw [hf];exact ⟨w0,by decide,by decide,by decide,by decide,by rw [eJ];decide,_,aw,bJ _ _ ⟨rfl,rfl⟩⟩
   rintro ahB eZ ⟨rfl,rfl⟩;have nj:∀ k:Nat,k <= 1000->k <= sizeLine:=fun k h=>c4 h (by decide)
   have Yd:(iY (97 + (f + i) % 26)).length=1:=rfl;have put:∀ nm:Str,nm.cps.toList=g i->Sc K a ns (upd eZ ck (.lst (aW xs ++ [.str nm])))/\ac cJ (upd eZ ck (.lst (aW xs ++ [.str nm])))/\(∃ ys:List Str,(upd eZ ck (.lst (aW xs ++ [.str nm]))) ck=some (.lst (aW ys))/\ys.map (·.cps.toList)=(fL (i + 1)).map g):=fun nm kU=>by
    refine ⟨w0.set m9 (fun _ _ z=>by cases z),jN.fC fp,xs ++ [nm],?_,?_⟩
    .rw [db];unfold aW;rw [fz];rfl
    .rw [fz,r1,t_,fz,eV,qh,kU];rfl
   have BY:(aW xs).length < sizeLine:=hp (show (aW xs).length <= 8 by unfold aW;rw [aU];omega) (by decide);subst aJ;dsimp only;refine dy (decide (way=0)) (fun Q aV=>?_) (fun DT=>?_) (fun Fn=>?_)
   .nofun;exact aV
   .have hw:=of_decide_eq_true DT;have ru:g i=nW aC.cps.toList at_ f i:=by rw [bg];exact if_pos hw
    have cy:=sE aC none (some (at_:Int));have c1:=sE aC (some ((at_:Int) + 1)) none;nofun;refine ⟨.inl ⟨_,aD.of m9⟩,by rw [xH];decide,nj _ (by omega),by rw [xH];decide,nj _ (by rw [nS];omega),_,m9,BY,?_⟩;obtain ⟨e0,d6,hz⟩:=put (lx aC none (some (at_:Int)) ++ iY (97 + (f + i) % 26) ++ lx aC (some ((at_:Int) + 1)) none) (by
     rw [ru];unfold nW;rw [nh,nq,nh,nq,EI aC (by omega),show ((at_:Int) + 1)=((at_ + 1:Nat):Int) by omega,Vq aC (by omega)]
     rfl)
    exact ⟨e0,d6,hz,_,rfl⟩
   .have hw:=of_decide_eq_false Fn;refine dy (decide (way=1)) (fun Q aV=>?_) (fun DT=>?_) (fun Fn=>?_)
    .nofun;by_cases bB:way=1
     .rw [if_pos (decide_eq_true bB),decide_eq_true (show (m:Int) < 9 by omega)];rw [decide_eq_true bB] at aV;exact aV
     .rw [if_neg (by simpa using bB)];rw [decide_eq_false bB] at aV;exact aV
    .have uR:=of_decide_eq_true DT;have ru:g i=t6 aC.cps.toList i:=by rw [bg];exact (if_neg hw).trans (if_pos uR)
     nofun;refine ⟨.inl ⟨_,aD.of m9⟩,by rw [xH];decide,_,m9,BY,?_⟩;obtain ⟨e0,d6,hz⟩:=put (lx aC none (some ((i:Int) + 1))) (by
      rw [ru,show ((i:Int) + 1)=((i + 1:Nat):Int) by omega,EI aC (by omega)]
      rfl)
     exact ⟨e0,d6,hz,_,rfl⟩
    .have uR:=of_decide_eq_false Fn;have ru:g i=nE aC.cps.toList f i (di ns (320 + (i:Int)) 8).toNat:=by rw [bg];exact (if_neg hw).trans (if_neg uR)
     have dv:=ce ns (320 + (i:Int)) (m:=8) (by decide);have ew:=hx ns (320 + (i:Int)) (m:=8) (by decide);(nofun; repeat (dsimp only [iI];nofun));obtain ⟨AL,vO⟩:∃ AL:Nat,di ns (320 + (i:Int)) 8=(AL:Int):=⟨_,(pv dv).symm⟩;rw [vO] at ru ew;rw [vO];rw [nd] at ru;have cy:=sE aC none (some (AL:Int));refine ⟨.inl ⟨_,aD.of m9⟩,w0,by omega,by omega,by decide,by rw [xH];decide,nj _ (by omega),_,m9,BY,?_⟩;obtain ⟨e0,d6,hz⟩:=put (iY (97 + (f + i) % 26) ++ lx aC none (some (AL:Int))) (by
      rw [ru];unfold nE;rw [nh,nq,EI aC (by omega)]
      rfl)
     exact ⟨e0,d6,hz,_,rfl⟩
  .rintro σ I bh;ac_rfl
   obtain ⟨w0,jN,⟨xs,m9,r1⟩,dU,dn,rfl⟩:=bh;subst aJ;exact bJ _ _ ⟨w0,jN,⟨xs,m9,by rw [r1,show (m:Int).toNat=m by omega]⟩,dU,dn,rfl⟩
 rintro sP iG ⟨ahM,f',⟨xs,HT,r1⟩,dU,dn,rfl⟩;have iF:xs.length=m:=by have:=congrArg pT r1;rwa [aU,aU,tr] at this
 have aaq:∀ k:Nat,(di ns (320 + (k:Int)) 8).toNat < 8:=fun k=>by
  have dv:=ce ns (320 + (k:Int)) (m:=8) (by decide);have ew:=hx ns (320 + (k:Int)) (m:=8) (by decide);omega
 have agT:∀ k,k < m->(1 <= (g k).length/\(g k).length <= 8)/\∀ c ∈ g k,97 <= c/\c <= 122:=fun k aB=>by
  rw [bg];dsimp only;split
  .have:=Uo gL oJ (f:=f) (k:=k) Kx;exact ⟨by omega,this.2⟩
  .split
   .have:=Jx gL oJ (k:=k) (by omega);exact ⟨by omega,this.2⟩
   .exact XH gL oJ (aaq k)
 have aac:∀ i j,i < m->j < m->g i=g j->i=j:=fun i j ah aO e=>by
  rw [bg] at e;dsimp only at e;by_cases b_:way=0
  .rw [if_pos b_,if_pos b_] at e;exact Vr gL Kx (by omega) (by omega) e
  .rw [if_neg b_,if_neg b_] at e;by_cases bB:way=1
   .rw [if_pos bB,if_pos bB] at e;have af:=Jx gL oJ (k:=i) (by omega);have ao:=Jx gL oJ (k:=j) (by omega);rw [e] at af;omega
   .rw [if_neg bB,if_neg bB] at e;exact acf (by omega) (by omega) e
 have E8:∀ (i:Nat) (x:Str),xs[i]? = some x->i < m/\x.cps.toList=g i:=fun i x ag=>by
  have ah:i < m:=by rw [<- iF];exact (b6.mp ag).1
  have e:=congrArg (fun l=>l[i]?) r1
  try dsimp only at e
  rw [dm,ag,dm,List.getElem?_range ah] at e;exact ⟨ah,dh e⟩
 have N:Dg m xs:=by
  refine ⟨iF,List.pairwise_iff_getElem.mpr fun i j ah aO hA e=>?_,fun x ag=>?_⟩
  .obtain ⟨a1,a2⟩:=E8 i _ (a' ah);obtain ⟨e_,ec⟩:=E8 j _ (a' aO);rw [e,ec] at a2;have:=aac i j a1 e_ a2.symm;omega
  .obtain ⟨i,ah⟩:=jv ag;obtain ⟨a1,a2⟩:=E8 i _ ah;have:=agT i a1;exact W_ a2 this.1.1 this.1.2 this.2
 subst aJ;nofun;exact q ck xs iG (s2.trans f') ahM (s2.free fp) HT N
noncomputable abbrev dJ (d:a0):List V:=[.str (dC d.k),.str d.name,.int d.start,.int d.fin,.int d.off,.int d.near,.int d.least]
def iE (H:aq) (wl:Addr) (ds:List a0):Prop:=∃ qs:List Addr,H wl=some (.lst (qs.map V.ref))/\qs.length=ds.length/\∀ (i:Nat) (q:Addr) (d:a0),qs[i]? = some q->ds[i]? = some d->H q=some (.tup (dJ d))
theorem iE.same (h:iE H wl ds) (s:ac H I):iE I wl ds:=by
 obtain ⟨qs,au,aI,al⟩:=h;exact ⟨qs,s _ _ au,aI,fun i q d af ao=>s _ _ (al i q d af ao)⟩
theorem iE.snoc {H:aq} {wl p:Addr} {ds:List a0} {d:a0} {qs:List Addr} (cy:H wl=some (.lst (qs.map V.ref))) (c1:qs.length=ds.length)
  (al:∀ (i:Nat) (q:Addr) (d:a0),qs[i]? = some q->ds[i]? = some d->H q=some (.tup (dJ d))) (av:H p=none) :
  iE (upd (upd H p (.tup (dJ d))) wl (.lst (qs.map V.ref ++ [.ref p]))) wl (ds ++ [d]):=by
 have iX:p ≠ wl:=(dB cy av).symm;refine ⟨qs ++ [p],by rw [db,fz];rfl,by rw [c6,c6,c1];rfl,fun i q e af ao=>?_⟩;rcases lN af with ⟨ff,eT⟩ | ⟨ff,rfl⟩
 .rcases lN ao with ⟨mj,pq⟩ | ⟨mj,_⟩
  .have:=al i q e eT pq;rw [aF (b8 this cy (by intro z;cases z)),aF (dB this av)];exact this
  .omega
 .rcases lN ao with ⟨mj,pq⟩ | ⟨mj,rfl⟩
  .omega
  .rw [aF iX,db]
theorem acL {n s j:Int} (h0:0 <= s) (af:s < n) (ao:0 <= j) (a_:j < n - 1):s ≠ (s + 1 + j) % n:=by
 by_cases c:s + 1 + j < n
 .rw [GZ (by omega) c];omega
 .rw [show s + 1 + j=(s + 1 + j - n) + n * 1 by omega,Int.add_mul_emod_self_left,GZ (by omega) (by omega)];omega
structure rV (n:Int) (ds:List a0):Prop where
 al:∀ d ∈ ds,oO n d/\True
 aG:(ds.map (·.name)).Nodup
theorem rV.Le (h:rV n ds) (aT:2 <= n/\n <= 99) (aM:1 <= ds.length/\ds.length <= 12):q4 n ds:=⟨aT,aM,fun d hd=>(h.al d hd).1,h.aG⟩
def Pd (K:ba) (a:Addr) (ns:List Int):bN:=fun vs H Q _=>∃ most:Int,vs=[.ref a,.int most]/\(1 <= most/\most <= 8)/\Sc K a ns H /\
 ∀ iT wl n ds I,ac H I->Sc K a ns I->I iT=some (.tup [.int n,.ref wl])->iE I wl ds->rV n ds->(∀ d ∈ ds,d.least <= 4)->(4 <= n/\n <= 99)->(1 <= ds.length/\(ds.length:Int) <= most)->Q (.ref iT) I
theorem wP (h0:0 <= i) (af:i < 4):∃ k:Nat,k < 3/\fH [V.str (aa "car"),V.str (aa "car"),V.str (aa "foot"),V.str (aa "tram")] i=some (.str (dC k)):=by
 have:i=0\/i=1\/i=2\/i=3:=by omega
 rcases this with rfl | rfl | rfl | rfl
 .exact ⟨0,by decide,cg (j:=0) rfl⟩
 .exact ⟨0,by decide,cg (j:=1) rfl⟩
 .exact ⟨1,by decide,cg (j:=2) rfl⟩
 .exact ⟨2,by decide,cg (j:=3) rfl⟩
theorem at2 (x y:V) (c:Bool):fH [x,y] (if c=true then 1 else 0)=some (if c=true then y else x):=by
 cases c with
 | true=>exact cg (j:=1) rfl
 | false=>exact cg (j:=0) rfl
theorem UA (a:Addr) (ns:List Int) (hv:ns.length <= 63):cv P base T 3 t.xh t.Bd BD (Pd K a ns):=by
 refine cG (GU T a ns hv) fun fe=>cG (aer T a ns hv) fun Ze=>?_;exists T.EX.ok lY,9
 obtain ⟨most,rfl,aiP,S,q⟩:=h;refine ⟨_,(aR (b2 (i:=2) lY.aG (bX dE (fg (ai (bD d2 aL (cf fe ak T.fA T.fc.bK T.fw (ai (U 0) (ai aL (ai aL aE))))) (ai aL aE))) (nz zq rfl T.v' wd (ai (hj eo (cf fe ak T.fA T.fc.bK T.fw (ai (U 0) (ai aL (ai aL aE)))) aL (cm _)) aE))))
   (aR (b2 (i:=3) lY.aG (cf Ze ak T.aas T.Hs.bK T.acq (ai (U 0) (ai (bD d2 aL (cf fe ak T.fA T.fc.bK T.fw (ai (U 0) (ai aL (ai (U 1) aE))))) aE))))
   (aR (b2 (i:=4) lY.aG (fg aE))
   (aR (be fm rfl (l8 rfl T.lJ (ai (fq g0 rfl T.gU gK (ai (U 3) aE)) aE)) (cz (i:=5) lY.aG) (aR (b2 (i:=6) lY.aG (cf fe ak T.fA T.fc.bK T.fw (ai (U 0) (ai (bD d2 aL (bD jq aL (U 5))) (ai (U 2) aE)))))
   (aR (b2 (i:=7) lY.aG (bD i9 (bD d2 (bD d2 (U 6) aL) (cf fe ak T.fA T.fc.bK T.fw (ai (U 0) (ai (bD d2 aL (bD jq aL (U 5))) (ai (bD jR (U 2) aL) aE))))) (U 2)))
   (aR (b2 (i:=8) lY.aG (bX dE (fg (ai cD (ai cD (ai cD (ai cD aE))))) (cf fe ak T.fA T.fc.bK T.fw (ai (U 0) (ai (bD d2 aL (bD jq aL (U 5))) (ai aL aE))))))
   (aR (b2 (i:=9) lY.aG (bX dE (fg (ai (cf fe ak T.fA T.fc.bK T.fw (ai (U 0) (ai (bD d2 aL (bD jq aL (U 5))) (ai aL aE)))) (ai aL aE))) (nz zq rfl T.v' wd (ai (hj eo (cf fe ak T.fA T.fc.bK T.fw (ai (U 0) (ai (bD d2 aL (bD jq aL (U 5))) (ai aL aE)))) aL (cm _)) aE))))
   (aR (b2 (i:=10) lY.aG (cf fe ak T.fA T.fc.bK T.fw (ai (U 0) (ai (bD d2 aL (bD jq aL (U 5))) (ai aL aE)))))
   (aR (dI (fj.pt (iD (cP eo (cf fe ak T.fA T.fc.bK T.fw (ai (U 0) (ai aL (ai aL aE)))) aL (cm _)) (jA (cP kz (cf fe ak T.fA T.fc.bK T.fw (ai (U 0) (ai (bD d2 aL (U 5)) (ai aL aE)))) aL (cm _))))) (aR (b2 (i:=8) lY.aG cD)
   (a5 (b2 (i:=9) lY.aG aL))) eh)
   (a5 (en (gk iM kO kT ks (U 4) (ai (pz (ai (U 8) (ai (bX dE (U 3) (U 5)) (ai (U 6) (ai (U 7) (ai (U 9) (ai (U 10) (ai (bD d2 aL (cf fe ak T.fA T.fc.bK T.fw (ai (U 0) (ai (bD d2 aL (bD jq aL (U 5))) (ai aL aE))))) aE)))))))) aE)))))))))))
   (a5 (cj (pz (ai (U 2) (ai (U 4) aE))))))))),?_⟩
 refine cZ (fun aA I=>ac H I/\Sc K a ns I/\∃ n:Int,(4 <= n/\n <= 99)/\aA=[~~~a,some (.int most),some (.int n),none,none,none,none,none,none,none,none]) (fun b3 bJ=>?_) fun cN aJ=>?_
 .have dv:=ce ns 2 (m:=13) (by decide);have ew:=hx ns 2 (m:=13) (by decide);(nofun; repeat (dsimp only [iI];nofun));obtain ⟨n,aT,tH⟩:∃ n:Int,(4 <= n/\n <= 99)/\(if decide (di ns 3 6=0)=true then V.int 99 else V.int (4 + di ns 2 13))=V.int n:=by
   split
   .exact ⟨99,by decide,rfl⟩
   .exact ⟨_,by omega,rfl⟩
  refine ⟨S,by decide,by decide,by decide,by decide,fun p av=>⟨S.new av,by decide,by decide,by decide,_,aD.of db,_,at2 _ _ _,?_⟩⟩;rw [tH];exact bJ _ _ ⟨bp av,S.new av,n,aT,rfl⟩
 rintro aku cn ⟨s0,Ar,n,aT,rfl⟩;obtain ⟨m,Yq,hm⟩:∃ m:Nat,1 + di ns 1 most=(m:Nat)/\(1 <= m/\m <= 8/\(m:Int) <= most):=by
  have dv:=ce ns 1 (m:=most) (by omega);have ew:=hx ns 1 (m:=most) (by omega);exact ⟨(1 + di ns 1 most).toNat,by omega,by omega⟩
 subst aJ;refine cZ (fun aA I=>ac cn I/\Sc K a ns I/\∃ nl xs,I nl=some (.lst (aW xs))/\Dg m xs/\aA=[~~~a,some (.int most),some (.int n),~~~nl,none,none,none,none,none,none,none]) (fun b3 bJ=>?_) fun cN aJ=>?_
 .nofun;refine ⟨_,_,rfl,Ar,by decide,by omega,_,rfl,?_⟩;rw [Yq];exact ⟨m,rfl,Ar,by omega,fun p xs I s1 k_ _ e N=>bJ _ _ ⟨s1,k_,p,xs,e,N,rfl⟩⟩
 rintro gg H1 ⟨s1,k_,nl,xs,tH,N,rfl⟩;subst aJ;refine cZ (fun aA I=>Sc K a ns I/\ac H1 I/\∃ wl,H1 wl=none/\I wl=some (.lst [])/\aA=[~~~a,some (.int most),some (.int n),~~~nl,~~~wl,none,none,none,none,none,none]) (fun b3 bJ=>?_) fun cN aJ=>?_
 .nofun;exact ⟨fk _,fun wl gL=>bJ _ _ ⟨k_.new gL,bp gL,wl,gL,db,rfl⟩⟩
 rintro gc bk ⟨oV,s3,wl,gL,hn,rfl⟩;have SR:(aW xs).length=m:=by unfold aW;rw [aU,N.1]
 subst aJ;nofun;refine ⟨_,.inl (aD.of (s3 _ _ tH)),by omega,by rw [SR];omega,?_⟩;rw [show (((aW xs).length:Nat):Int).toNat=m by rw [SR];rfl];refine dP.range (fun i σ I=>Sc K a ns I/\ac H1 I/\(∃ ds,iE I wl ds/\ds.length=i/\(∀ d ∈ ds,oO n d/\d.least <= 4)/\∀ (j:Nat) (d:a0),ds[j]? = some d->xs[j]? = some d.name)/\∃ eE eB dU dn mF iv,σ=[~~~a,some (.int most),some (.int n),~~~nl,~~~wl,eE,eB,dU,dn,mF,iv]) ⟨oV,s3,⟨[],⟨[],hn,rfl,fun i q d h=>by simp at h⟩,rfl,fun d h=>by simp at h,fun j d h=>by simp at h⟩,_,_,_,_,_,_,rfl⟩ ?_ ?_
 .rintro i σ I ah bh;ac_rfl
  obtain ⟨i_,s4,⟨ds,ur,gx,bo,kU⟩,eE,eB,dU,dn,mF,iv,rfl⟩:=bh;have xV:i < m:=ah;have yk:xs[i]? = some (xs[i]'(by rw [N.1];exact xV)):=a' _;subst aJ;generalize xs[i]'(by rw [N.1];exact xV)=nm at yk;have TN:=s4 _ _ tH;have XI:fH (aW xs) ((i:Nat):Int)=some (.str nm):=cg (by unfold aW;rw [dm,yk];rfl);simp only [gd,dN,jI,jX,oj];exists (fun aA iP=>iP=I/\∃ st:Int,(0 <= st/\st < n)/\aA=[~~~a,some (.int most),some (.int n),~~~nl,~~~wl,some (.int (i:Nat)),some (.int st),dU,dn,mF,iv]),0
  .have dv:=ce ns (10 + 7 * (i:Int)) (m:=n) (by omega);have ew:=hx ns (10 + 7 * (i:Int)) (m:=n) (by omega);(nofun; repeat (dsimp only [iI];nofun));exact ⟨.inl ⟨by decide,by decide⟩,i_,by omega,by omega,by omega,bJ _ _ ⟨rfl,_,⟨dv,ew⟩,rfl⟩⟩
  rintro ahB eZ ⟨rfl,st,gP,rfl⟩;subst aJ;simp only [dN];exists (fun aA iP=>iP=eZ/\∃ e8:Int,(0 <= e8/\e8 < n)/\st ≠ e8/\aA=[~~~a,some (.int most),some (.int n),~~~nl,~~~wl,some (.int (i:Nat)),some (.int st),some (.int e8),dn,mF,iv]),0
  .have dv:=ce ns (11 + 7 * (i:Int)) (m:=n - 1) (by omega);have ew:=hx ns (11 + 7 * (i:Int)) (m:=n - 1) (by omega);have m0:=BQ (st + 1 + di ns (11 + 7 * (i:Int)) (n - 1)) (show n ≠ 0 by omega);have jw:=w7 (st + 1 + di ns (11 + 7 * (i:Int)) (n - 1)) (show 0 < n by omega);(nofun; repeat (dsimp only [iI];nofun));exact ⟨.inl ⟨by decide,by decide⟩,i_,by omega,by omega,by omega,by omega,bJ _ _ ⟨rfl,_,⟨m0,jw⟩,acL gP.1 gP.2 dv (by omega),rfl⟩⟩
  rintro ak2 ky ⟨rfl,e8,G2,b4,rfl⟩;subst aJ;simp only [dN];exists (fun aA iP=>ac ky iP/\Sc K a ns iP/\∃ k:Nat,k < 3/\aA=[~~~a,some (.int most),some (.int n),~~~nl,~~~wl,some (.int (i:Nat)),some (.int st),some (.int e8),some (.str (dC k)),mF,iv]),0
  .have dv:=ce ns (12 + 7 * (i:Int)) (m:=4) (by decide);have ew:=hx ns (12 + 7 * (i:Int)) (m:=4) (by decide);obtain ⟨k,aB,mL⟩:=wP dv ew;(nofun; repeat (dsimp only [iI];nofun));exact ⟨by decide,fun p av=>⟨.inl ⟨by decide,by decide⟩,i_.new av,by omega,by omega,by decide,_,aD.of db,_,mL,bJ _ _ ⟨bp av,i_.new av,k,aB,rfl⟩⟩⟩
  rintro akF I3 ⟨jP,SC,q5,iH,rfl⟩;subst aJ;simp only [dN];exists (fun aA iP=>ac I3 iP/\Sc K a ns iP/\∃ rD:Int,(0 <= rD/\rD <= 30)/\aA=[~~~a,some (.int most),some (.int n),~~~nl,~~~wl,some (.int (i:Nat)),some (.int st),some (.int e8),some (.str (dC q5)),some (.int rD),iv]),0
  .have dv:=ce ns (13 + 7 * (i:Int)) (m:=9) (by decide);have ew:=hx ns (13 + 7 * (i:Int)) (m:=9) (by decide);(nofun; repeat (dsimp only [iI];nofun));obtain ⟨v,aK,tH⟩:∃ v:Int,(0 <= v/\v <= 30)/\(if decide (di ns (14 + 7 * (i:Int)) 12=0)=true then V.int 30 else V.int (di ns (13 + 7 * (i:Int)) 9))=V.int v:=by
    split
    .exact ⟨30,by decide,rfl⟩
    .exact ⟨_,by omega,rfl⟩
   refine ⟨.inl ⟨by decide,by decide⟩,SC,by omega,by omega,by decide,by decide,fun p av=>⟨.inl ⟨by decide,by decide⟩,SC.new av,by omega,by omega,by decide,_,aD.of db,_,at2 _ _ _,?_⟩⟩;rw [tH];exact bJ _ _ ⟨bp av,SC.new av,v,aK,rfl⟩
  rintro ajN Qq ⟨q1,vV,PM,adz,rfl⟩;subst aJ;simp only [dN];exists (fun aA iP=>iP=Qq/\∃ E3:Int,(0 <= E3/\E3 <= 5)/\aA=[~~~a,some (.int most),some (.int n),~~~nl,~~~wl,some (.int (i:Nat)),some (.int st),some (.int e8),some (.str (dC q5)),some (.int PM),some (.int E3)]),0
  .have dv:=ce ns (15 + 7 * (i:Int)) (m:=6) (by decide);have ew:=hx ns (15 + 7 * (i:Int)) (m:=6) (by decide);(nofun; repeat (dsimp only [iI];nofun));exact ⟨.inl ⟨by decide,by decide⟩,vV,by omega,by omega,by decide,bJ _ _ ⟨rfl,_,by omega,rfl⟩⟩
  rintro ajt Wt ⟨rfl,ne1,adL,rfl⟩;subst aJ;simp only [dN];exists (fun aA iP=>iP=Wt/\∃ (k:Nat) (rD:Int),k < 3/\(0 <= rD/\rD <= 30)/\aA=[~~~a,some (.int most),some (.int n),~~~nl,~~~wl,some (.int (i:Nat)),some (.int st),some (.int e8),some (.str (dC k)),some (.int rD),some (.int ne1)]),0
  .refine dy (decide (di ns 9 6=0) && decide (0 < di ns (60 + (i:Int)) 4)) (fun Q aV=>?_) (fun _=>?_) (fun _=>?_)
   ·(nofun; repeat (dsimp only [iI];nofun));refine ⟨vV,by omega,by omega,by decide,?_⟩;by_cases b_:di ns 9 6=0
    .rw [if_pos (decide_eq_true b_)];rw [decide_eq_true b_,kG] at aV;exact ⟨vV,by omega,by omega,by decide,aV⟩
    .rw [if_neg (by simpa using b_)];rw [decide_eq_false b_,k2] at aV;exact aV
   .nofun;exact bJ _ _ ⟨rfl,1,0,by decide,by decide,rfl⟩
   .nofun;exact bJ _ _ ⟨rfl,q5,PM,iH,adz,rfl⟩
  rintro alf akW ⟨rfl,k,of2,aB,Ta,rfl⟩;have gY:=jP.trans q1;have aeL:=gY _ _ TN;have UX:=ur.same gY;have dv:=ce ns (16 + 7 * (i:Int)) (m:=4) (by decide);have ew:=hx ns (16 + 7 * (i:Int)) (m:=4) (by decide);obtain ⟨td,aeQ,hle⟩:∃ td:Int,1 + di ns (16 + 7 * (i:Int)) 4=td/\1 <= td/\td <= 4:=⟨_,rfl,by omega,by omega⟩;obtain ⟨qs,cy,c1,al⟩:=UX;subst aJ;(nofun; repeat (dsimp only [iI];nofun));rw [aeQ];refine ⟨.inl ⟨_,aD.of cy⟩,_,aD.of aeL,_,XI,.inl ⟨by decide,by decide⟩,vV,by omega,by omega,by decide,by decide,fun p av=>?_⟩;have d9:wl ≠ p:=dB cy av;have S5:=iE.snoc (d:=⟨k,nm,st,e8,of2,ne1,td⟩) cy c1 al av;refine ⟨_,by rw [aF d9];exact cy,hp (show (qs.map V.ref).length <= 8 by rw [aU];omega) (by decide),(vV.new av).set (by rw [aF d9];exact cy) (fun _ _ z=>by cases z),((s4.trans gY).trans (bp av)).fC gL,⟨ds ++ [⟨k,nm,st,e8,of2,ne1,td⟩],S5,by rw [c6,gx];rfl,fun d hd=>?_,fun j d hd=>?_⟩,?_⟩
  .rcases f5.mp hd with hd | hd
   .exact bo d hd
   .rw [eC.mp hd];exact ⟨⟨aB,N.2.2 nm (cB yk),⟨gP.1,gP.2⟩,⟨G2.1,G2.2⟩,b4,Ta,⟨adL.1,by dsimp only;omega⟩,⟨hle.1,by dsimp only;omega⟩⟩,hle.2⟩
  .rcases lN hd with ⟨_,z⟩ | ⟨z,rfl⟩
   .exact kU j d z
   .rw [z,gx];exact yk
  .repeat (first | exact ⟨_,rfl⟩ | refine ⟨⟨_,rfl⟩,?_⟩)
 .rintro σ I bh;ac_rfl
  obtain ⟨i_,s4,⟨ds,ur,gx,bo,kU⟩,eE,eB,dU,dn,mF,iv,rfl⟩:=bh;subst aJ;nofun;refine ⟨by decide,fun iT nc=>?_⟩;refine q iT wl n ds _ (((s0.trans s1).trans s4).trans (bp nc)) (i_.new nc) db (ur.same (bp nc)) ⟨fun d hd=>⟨(bo d hd).1,trivial⟩,?_⟩ (fun d hd=>(bo d hd).2) aT (by omega);have e:ds.map (·.name)=xs:=by
   refine List.ext_getElem? fun j=>?_
   rw [dm];cases h:ds[j]? with
   | some d=>exact (kU j d h).symm
   | none=>
    have:ds.length <= j:=DM.mp h;exact (DM.mpr (by rw [N.1];omega)).symm
  rw [e];exact N.2.1
theorem VH (d:a0):((((dC d.k ++ aa " ") ++ d.name) ++ aa " ") ++ o3 (aa " ") [num d.start,num d.fin,num d.off,num d.near,num d.least])=dV cE (mv d):=by
 apply xk;have gh:(aa " ").cps.toList=[32]:=by ac_nf
 rw [show o3 (aa " ") [num d.start,num d.fin,num d.off,num d.near,num d.least]=dV cE [num d.start,num d.fin,num d.off,num d.near,num d.least] from uA _ _];rw [nh,nq,x3,qp,qp];unfold mv;simp only [nh,nq,eV,qh,kL,gh,o8,Bj,uI]
theorem ac9 (n:Int):aa "ring " ++ num n=dV cE [aa "ring",num n]:=by
 apply xk;have au:(aa "ring ").cps.toList=[114,105,110,103,32]:=by ac_nf
 have aI:(aa "ring").cps.toList=[114,105,110,103]:=by ac_nf
 rw [x3,qp];simp only [nh,nq,eV,qh,kL,au,aI,Bj,uI]
theorem zx:∀ {ys:List Str},(∀ y ∈ ys,y.length <= B)->(ys.map (·.length)).sum <= ys.length * B
 | [],_=>by simp
 | a :: r,h=>by
  have af:=h a (by simp);have ao:=zx (B:=B) (ys:=r) fun y a7=>h y (hL _ a7)
  rw [eV,Pl,hQ,ag3];omega
theorem adE (h:q4 n ds):∀ y ∈ (hW n ds).map (dV cE),y.length <= 63:=fun y a7=>by
 obtain ⟨r,ak,rfl⟩:=cp.mp a7;have:=ot cE 8 r fun x ag=>(h.plain r ak x ag).1
 rw [pf] at this;have aM:r.length <= 7:=by
  rcases fh.mp ak with rfl | ak
  .simp
  .obtain ⟨d,hd,rfl⟩:=cp.mp ak;simp [mv]
 omega
def AC (K:ba):bN:=fun vs H Q _=>∃ n wl ds,vs=[.int n,.ref wl]/\iE H wl ds/\rV n ds/\(2 <= n/\n <= 99)/\(1 <= ds.length/\ds.length <= 12)/\aP H/\Q (.str (oo n ds)) H
def Yw (K:ba):bN:=fun vs H Q _=>∃ n wl ds,vs=[.int n,.ref wl]/\iE H wl ds/\rV n ds/\(2 <= n/\n <= 99)/\(1 <= ds.length/\ds.length <= 12)/\∀ I,ac H I->Q (.str (oo n ds)) I
theorem Ub:cv P base T 1 t.Ah t.Cl zg (AC K):=by
 refine cH.forget (sp:=Yw K) ?_ fun vs H Q E h=>?_
 .exists T.EH.ok D6,9
  obtain ⟨n,wl,ds,rfl,L,D,aT,aM,q⟩:=h;refine ⟨_,(aR (b2 (i:=2) D6.aG (fg (ai (bD kV cD (nz ub rfl T.uS vr (ai (U 0) aE))) aE)))
   (aR (be fm rfl (Gc (U 1)) (cz (i:=3) D6.aG) (a5 (en (gk iM kO kT ks (U 2) (ai (bD kV (bD kV (bD kV (bD kV (bX eK (U 3) aL) cD) (bX eK (U 3) aL)) cD) (gk tu BC zb uF cD (ai (hE rfl (YH (Tk adZ (U 3) (q9 aL) io)) (gQ (sc:=bz EY) rfl (by ac_nf)) (N:=["_law_number"]) (sel:=[none]) (gF (M:=["_law_places","_law_ways_here","_law_rows","_law_way"]) (by ac_nf)) (fy.of (fun _ _ _ _=>(cz (i:=0) (er (N:=["_law_number"]) (by ac_nf) rfl))) (fun _ _ _ _=>⟨_,h4,by walk_at "B"⟩) (fun _ _ _ _=>⟨_,(nz ub rfl T.uS vr (ai (U 0) aE)),by walk_at "B"⟩))) aE))) aE)))))
   (a5 (cj (gk tu BC zb uF cD (ai (U 2) aE)))))),?_⟩
  have dg:=D.Le aT aM;obtain ⟨qs,cy,c1,al⟩:=L;have hlen:∀ x:Str,ow x->x.length <= 8:=fun x h=>h.1
  have nj:∀ k:Nat,k <= 1000->k <= sizeLine:=fun k h=>c4 h (by decide)
  have agF:(aa "ring ").length=5:=by ac_nf
  have su:(aa " ").length=1:=by ac_nf
  nofun;have ai':(aa (toString n)).length <= 8:=(kx (v:=n) (by omega) (by omega)).1;refine ⟨EL (by omega),nj _ (by rw [agF];omega),by decide,fun ck Be=>?_⟩;rw [ac9];have s0:ac H (upd H ck (.lst [V.str (dV cE [aa "ring",num n])])):=bp Be;refine ⟨⟨_,aD.of (s0 _ _ cy)⟩,?_⟩;refine dP.list (xs:=qs.map V.ref) (fun i σ I=>ac H I/\I ck=some (.lst (aW ((hW n (ds.take i)).map (dV cE))))/\∃ x,σ=[some (.int n),~~~wl,~~~ck,x]) ?_ ?_ ?_ ?_
  .exact ⟨s0,db,none,rfl⟩
  .rintro i σ I ah ⟨bQ,_,_⟩;exact aD.of (bQ _ _ cy)
  .rintro i v σ I aK bh;ac_rfl
   obtain ⟨bQ,ak,x,rfl⟩:=bh;obtain ⟨ef,aN,rfl⟩:=cA aK;have k8:i < ds.length:=by rw [<- c1];exact (b6.mp aN).1
   have hd:ds[i]? = some ds[i]:=a' k8;have iO:cM K I ef (dJ ds[i]):=cM.of (bQ _ _ (al i ef _ aN hd));have hw:=(D.al _ (cB hd)).1;have e_:=hw.st;have ec:=hw.e8;have hR:=hw.of;have o1:=hw.zP;have YL:=hw.le;have ff:=hlen _ (Ls ds[i].k);have eT:=hlen _ (Cp hw.nm);have Oy:(num ds[i].start).length <= 8:=hlen _ (kx (v:=ds[i].start) (by omega) (by omega));have ai6:(num ds[i].fin).length <= 8:=hlen _ (kx (v:=ds[i].fin) (by omega) (by omega));have ai4:(num ds[i].off).length <= 8:=hlen _ (kx (v:=ds[i].off) (by omega) (by omega));have ajC:(num ds[i].least).length <= 8:=hlen _ (kx (v:=ds[i].least) (by omega) (by omega));have akq:(num ds[i].near).length <= 8:=hlen _ (kx (v:=ds[i].near) (by omega) (by omega));subst aJ;nofun;refine ⟨.inl ⟨_,aD.of ak⟩,?_⟩;have Jv:fH (dJ ds[i]) 0=some (.str (dC ds[i].k)):=cg (j:=0) rfl;have Cs:fH (dJ ds[i]) 1=some (.str ds[i].name):=cg (j:=1) rfl;refine ⟨_,iO,_,Jv,_,rfl,nj _ (by omega),_,iO,_,Cs,_,rfl,nj _ (by rw [nS];omega),nj _ (by simp only [nS];omega),?_⟩;have Iu:md (dJ ds[i]) (some 2) none=[.int ds[i].start,.int ds[i].fin,.int ds[i].off,.int ds[i].near,.int ds[i].least]:=rfl;refine ⟨_,iO,?_,fun p av=>⟨⟨_,cM.of db⟩,?_⟩⟩
   .show ¬ (fM.c9 7 0 (some 2)=0/\fM.c9 7 7 none=7);decide
   rw [Iu];have ajo:(o3 (aa " ") [num ds[i].start,num ds[i].fin,num ds[i].off,num ds[i].near,num ds[i].least]).length <= 50:=by
    rw [show o3 (aa " ") [num ds[i].start,num ds[i].fin,num ds[i].off,num ds[i].near,num ds[i].least]=dV cE [num ds[i].start,num ds[i].fin,num ds[i].off,num ds[i].near,num ds[i].least] from uA _ _];have:=ot cE 8 [num ds[i].start,num ds[i].fin,num ds[i].off,num ds[i].near,num ds[i].least] (fun y a7=>by
     simp only [fh,o9,or_false] at a7;rcases a7 with rfl | rfl | rfl | rfl | rfl <;> assumption)
    rw [pf] at this;simp only [hQ,tX] at this;omega
   refine da.Xp (xs:=[.int ds[i].start,.int ds[i].fin,.int ds[i].off,.int ds[i].near,.int ds[i].least]) (zs:=aW [num ds[i].start,num ds[i].fin,num ds[i].off,num ds[i].near,num ds[i].least]) (cM.of db) (nj _ (show 5 <= 1000 by decide)) rfl (fun j v z N aK aQ bu=>?_) (fun d6 hc=>?_)
   .have key:∃ a:Int,v=.int a/\z=.str (num a)/\0 <= a/\a < 100:=by
     match j,aK,aQ with
     | 0,aK,aQ=>cases aK;cases aQ;exact ⟨_,rfl,rfl,e_.1,by omega⟩
     | 1,aK,aQ=>cases aK;cases aQ;exact ⟨_,rfl,rfl,ec.1,by omega⟩
     | 2,aK,aQ=>cases aK;cases aQ;exact ⟨_,rfl,rfl,hR.1,by omega⟩
     | 3,aK,aQ=>cases aK;cases aQ;exact ⟨_,rfl,rfl,o1.1,by omega⟩
     | 4,aK,aQ=>cases aK;cases aQ;exact ⟨_,rfl,rfl,by omega,by omega⟩
     | k + 5,aK,aQ=>simp at aK
    obtain ⟨a,rfl,rfl,ajx,akR⟩:=key;nofun;exact ⟨Sub.name,EL (by omega),bu⟩
   .nofun;have ae0:ck ≠ d6:=by
     rintro rfl;rw [aF (dB ak av)] at hc;rw [hc] at ak;cases ak
    have fp:(upd (upd I p (.tup [.int ds[i].start,.int ds[i].fin,.int ds[i].off,.int ds[i].near,.int ds[i].least])) d6 (.lst (aW [num ds[i].start,num ds[i].fin,num ds[i].off,num ds[i].near,num ds[i].least]))) ck=some (.lst (aW ((hW n (ds.take i)).map (dV cE)))):=by
     rw [aF ae0,aF (dB ak av)];exact ak
    have uu:ac I (upd (upd I p (.tup [.int ds[i].start,.int ds[i].fin,.int ds[i].off,.int ds[i].near,.int ds[i].least])) d6 (.lst (aW [num ds[i].start,num ds[i].fin,num ds[i].off,num ds[i].near,num ds[i].least]))):=(bp av).trans (bp hc);have Na:=aD.of (K:=K) (H:=upd (upd I p (.tup [.int ds[i].start,.int ds[i].fin,.int ds[i].off,.int ds[i].near,.int ds[i].least])) d6 (.lst (aW [num ds[i].start,num ds[i].fin,num ds[i].off,num ds[i].near,num ds[i].least]))) (a:=d6) db;generalize upd (upd I p (.tup [.int ds[i].start,.int ds[i].fin,.int ds[i].off,.int ds[i].near,.int ds[i].least])) d6 (.lst (aW [num ds[i].start,num ds[i].fin,num ds[i].off,num ds[i].near,num ds[i].least]))=az at fp uu Na ⊢;refine ⟨_,Na,?_,nj _ (by simp only [nS];omega),_,fp,?_,?_,?_,_,rfl⟩
    .simp only [eV,qh,Pl,List.sum_nil,hQ,tX];omega
    .rw [fo,aU];exact hp (show (hW n (ds.take i)).length <= 13 by unfold hW;rw [hQ,aU,hq];omega) (by decide)
    .exact fun b u e=>by rw [aF (dB e Be)];exact uu _ _ (bQ _ _ e)
    .rw [db,VH ds[i]];congr 2;unfold hW aW;simp;rw [ov,dm,hd];rfl
  .rintro σ I bh;ac_rfl
   obtain ⟨bQ,ak,x,rfl⟩:=bh;subst aJ;nofun;rw [aU,c1,iq] at ak;refine ⟨_,aD.of ak,?_,?_⟩
   .have hv:∀ y ∈ (hW n ds).map (dV cE),y.length <= 63:=adE dg;have ajz:((hW n ds).map (dV cE)).length <= 13:=by
     unfold hW;rw [aU,hQ,aU];omega
    have:=zx hv;rw [show (aa "\n").length=1 by ac_nf];omega
   .have:=q I bQ;unfold oo at this;rw [show o3 (aa "\n") ((hW n ds).map (dV cE))=dV nl ((hW n ds).map (dV cE)) from uA _ _];exact this
 .obtain ⟨n,wl,ds,af,ao,a_,cL,ej,bE,q⟩:=h;exact ⟨bE,n,wl,ds,af,ao,a_,cL,ej,fun I bQ=>⟨bQ,q⟩⟩
def KH (K:ba):bN:=fun vs H Q _=>∃ n a b d e,vs=[.ref a,.ref b,.int n]/\cM K H a (dJ d)/\cM K H b (dJ e)/\oO n d/\oO n e/\Q (.bl (mt n d e)) H
noncomputable def wf (d e:a0):Bool:=decide (d.k=2) == decide (e.k=2)
def XU (K:ba):bN:=fun vs H Q _=>∃ wl ds,∃ i j:Nat,∃ d e,vs=[.ref wl,.int i,.int j]/\iE H wl ds/\ds[i]? = some d/\ds[j]? = some e/\d.k < 3/\e.k < 3/\Q (.bl (wf d e)) H
theorem N4:cv P base T 1 t.y5 t.AX BA (KH K):=by
 exists T.BN.ok zS,9
 obtain ⟨n,a,b,d,e,rfl,qk,tJ,hd,he,q⟩:=h;refine ⟨_,(aR (dI (cP eo (bX eK (U 0) aL) (bX eK (U 1) aL) (cm _)) (a5 (cj iJ)) eh)
   (aR (dI (fj.pt (p8 (cP eo (bX eK (U 0) aL) (bX eK (U 1) aL) (cm _)) (p8 (cP eo (bX eK (U 0) aL) (bX eK (U 1) aL) (cm _)) (rS (cP eo (bX eK (U 0) aL) (bX eK (U 1) aL) (cm _)))))) (a5 (cj iJ)) eh)
   (aR (b2 (i:=3) zS.aG (bD i9 (bD jR (bX eK (U 0) aL) (bX eK (U 0) aL)) (U 2)))
   (aR (b2 (i:=4) zS.aG (bD i9 (bD jR (bX eK (U 1) aL) (bX eK (U 0) aL)) (U 2)))
   (aR (b2 (i:=5) zS.aG (bD i9 (bD jR (bX eK (U 1) aL) (bX eK (U 0) aL)) (U 2)))
   (a5 (cj (hj sS (hj jd (U 4) (U 3) (cm _)) (hj jd (U 5) (U 3) (cm _)) (cm _))))))))),?_⟩
 have a2:fH (dJ d) 2=some (.int d.start):=cg (j:=2) rfl;have eR:fH (dJ d) 3=some (.int d.fin):=cg (j:=3) rfl;have ec:fH (dJ e) 2=some (.int e.start):=cg (j:=2) rfl;have hR:fH (dJ e) 3=some (.int e.fin):=cg (j:=3) rfl;have f1:=hd.st;have f2:=hd.e8;have dY:=he.st;have f4:=he.e8;refine dy (decide (d.fin=e.fin)) (fun Q aV=>?_) (fun c=>?_) (fun c=>?_)
 .nofun;refine ⟨_,qk,_,eR,_,tJ,_,hR,rfl,?_⟩;nofun;exact aV
 .nofun;unfold mt rT at q;rw [c,q7] at q;exact q
 .have c':=of_decide_eq_false c;nofun;refine dy (decide (d.start=e.start) || (decide (d.start=e.fin) || decide (d.fin=e.start))) (fun Q aV=>?_) (fun ae=>?_) (fun ae=>?_)
  .nofun;refine ⟨_,qk,_,a2,_,tJ,_,ec,rfl,?_⟩;by_cases bB:d.start=e.start
   .rw [if_pos (by simp [bB])];rw [decide_eq_true bB,q7] at aV;exact aV
   .rw [if_neg (by simpa using bB)];refine ⟨_,qk,_,a2,_,tJ,_,hR,rfl,?_⟩;by_cases bT:d.start=e.fin
    .rw [if_pos (by simp [bT])];rw [decide_eq_false bB,decide_eq_true bT,kX,q7] at aV;exact aV
    .rw [if_neg (by simpa using bT)];refine ⟨_,qk,_,eR,_,tJ,_,ec,rfl,?_⟩;rw [decide_eq_false bB,decide_eq_false bT,kX,kX] at aV;rw [show decide (V.int d.fin=V.int e.start)=decide (d.fin=e.start) from decide_eq_decide.mpr (by simp)];exact aV
  .nofun;unfold mt rT at q;rw [c,kX,if_pos (by
    rw [v5,v5,decide_eq_true_eq,decide_eq_true_eq,decide_eq_true_eq] at ae
    omega)] at q
   exact q
  .rw [sT,sT,decide_eq_false_iff_not,decide_eq_false_iff_not,decide_eq_false_iff_not] at ae;have oq:0 < n:=by omega
   have e0:0 < (e.start - d.start) % n:=by rw [zD f1.1 f1.2 dY.1 dY.2];split <;> omega
   have d6:0 < (e.fin - d.start) % n:=by rw [zD f1.1 f1.2 f4.1 f4.2];split <;> omega
   unfold mt rT j2 at q;rw [c,kX,if_neg (by omega),decide_eq_true e0,decide_eq_true d6,kG,kG] at q;nofun;refine ⟨_,qk,_,eR,_,qk,_,a2,_,rfl,_,rfl,oq,_,tJ,_,ec,_,qk,_,a2,_,rfl,_,rfl,oq,_,tJ,_,hR,_,qk,_,a2,_,rfl,_,rfl,oq,?_⟩;generalize decide ((e.start - d.start) % n < (d.fin - d.start) % n)=X at q ⊢;generalize decide ((e.fin - d.start) % n < (d.fin - d.start) % n)=Y at q ⊢;cases X <;> cases Y <;> exact q
theorem afl:cv P base T 1 t.Dj t.GS B5 (XU K):=by
 exists T.Ds.ok Lu,9
 obtain ⟨wl,ds,i,j,d,e,rfl,⟨qs,cy,c1,al⟩,ah,aO,aB,gv,q⟩:=h;have gM:qs[i]? = some (qs[i]'(by rw [c1];exact (b6.mp ah).1)):=a' _;have eG:qs[j]? = some (qs[j]'(by rw [c1];exact (b6.mp aO).1)):=a' _;have A8:=al i _ d gM ah;have GC:=al j _ e eG aO;have r5:=cg (xs:=qs.map V.ref) (j:=i) (by rw [dm,gM];rfl);have Gv:=cg (xs:=qs.map V.ref) (j:=j) (by rw [dm,eG];rfl);refine ⟨_,(aR (b2 (i:=3) Lu.aG (hj eo (bX eK (bX dE (U 0) (U 1)) aL) cD (cm _)))
   (a5 (cj (hj eo (U 3) (hj eo (bX eK (bX dE (U 0) (U 2)) aL) cD (cm _)) (cm _))))),?_⟩
 nofun;refine ⟨_,aD.of cy,_,r5,_,rfl,_,cM.of A8,_,cg (j:=0) rfl,rfl,_,aD.of cy,_,Gv,_,rfl,_,cM.of GC,_,cg (j:=0) rfl,rfl,?_⟩;have af:∀ k,k < 3->decide (V.str (dC k)=V.str (aa "tram"))=decide (k=2):=by ac_nf
 rw [af d.k aB,af e.k gv];unfold wf at q;rw [show decide (decide (d.k=2)=decide (e.k=2))=(decide (d.k=2) == decide (e.k=2)) from rfl];exact q
structure jV (cn H:aq) (gl:Addr) (qs:List Addr) (bA:List (List Nat)):Prop where
 af:H gl=some (.lst (qs.map V.ref))
 ao:qs.length=bA.length
 a_:qs.Nodup
 cL:gl ∉ qs
 ej:∀ (i:Nat) (q:Addr) (g:List Nat),qs[i]? = some q->bA[i]? = some g->H q=some (.lst (g.map fun k:Nat=>V.int k))
 ia:∀ q ∈ qs,cn q=none
theorem jV.same (h:jV cn H gl qs bA) (s:ac H I):jV cn I gl qs bA:=
 ⟨s _ _ h.af,h.ao,h.a_,h.cL,fun i q g a b=>s _ _ (h.ej i q g a b),h.ia⟩
structure iS (n:Int) (ds:List a0) (m:Nat) (bA:List (List Nat)):Prop where
 ne:∀ g ∈ bA,g ≠ []
 pm:bA.flatten.Perm (fL m)
 t8:∀ g ∈ bA,∀ i ∈ g,∀ j ∈ g,i ≠ j->∀ d e,ds[i]? = some d->ds[j]? = some e->mt n d e=false
 al:∀ g ∈ bA,∀ i ∈ g,∀ j ∈ g,∀ d e,ds[i]? = some d->ds[j]? = some e->wf d e=true
theorem iS.nil (n:Int) (ds:List a0):iS n ds 0 []:=⟨by simp,by simp,by simp,by simp⟩
theorem sn:wf y z=true↔(y.k=2↔z.k=2):=by
 unfold wf;simp
theorem aa3 (h:wf y z=true):wf z y=true:=sn.mpr (sn.mp h).symm
theorem VF {x y z:a0} (h:wf x y=true) (h':wf y z=true):wf x z=true:=sn.mpr ((sn.mp h).trans (sn.mp h'))
theorem jV.off {gl x:Addr} (h:jV cn H gl qs bA) (ag:x ≠ gl) (aN:x ∉ qs):jV cn (upd H x o) gl qs bA:=
 ⟨by rw [aF (eg ag)];exact h.af,h.ao,h.a_,h.cL,fun i q g a b=>by rw [aF (fun z=>aN (by rw [<- z];exact cB a))];exact h.ej i q g a b,h.ia⟩
theorem NZ (l:List α) (i:Nat) (a:α):(ins l i a).Perm (l ++ [a]):=by
 unfold ins;refine YD.trans ?_;rw [Rj];exact (acd (l₁:=[a]) (l₂:=l))
theorem ado:∀ {l l':List (List α)},l.Perm l'->l.flatten.Perm l'.flatten:=fun h=>h.flatten
theorem LB:∀ {bA:List (List Nat)} {j:Nat} {g g':List Nat} {k:Nat},bA[j]? = some g->g'.Perm (g ++ [k])->(bA.set j g').flatten.Perm (bA.flatten ++ [k])
 | [],j,g,g',k,h,_=>by simp at h
 | ny :: bA,0,g,g',k,h,p=>by
  cases (show ny=g by simpa using h);show (g' :: bA).flatten.Perm _;rw [ti,ti,o8];refine (p.append_right _).trans ?_;rw [o8];exact aet ny acd
 | ny :: bA,j + 1,g,g',k,h,p=>by
  rw [A_] at h;show (ny :: bA.set j g').flatten.Perm _;rw [ti,ti,o8];exact aet ny (LB h p)
theorem iS.put (S:iS n ds m bA) {j p:Nat} (bg:bA[j]? = some g) (hd:ds[m]? = some d)
  (zN:∀ i ∈ g,∀ e,ds[i]? = some e->mt n e d=false/\mt n d e=false/\wf e d=true):iS n ds (m + 1) (bA.set j (ins g p m)):=by
 have nY:=cB bg;refine ⟨fun x ag=>?_,?_,fun x ag i ah ja e7 b4 e b5 he hr=>?_,fun x ag i ah ja e7 e b5 he hr=>?_⟩
 .rcases K7 ag with z | z
  .exact S.ne x z
  .rw [z];unfold ins;simp
 .rw [t_];exact (LB bg (NZ g p m)).trans (S.pm.append_right [m])
 .rcases K7 ag with z | z
  .exact S.t8 x z i ah ja e7 b4 e b5 he hr
  .rw [z] at ah e7;rcases lS ah with u | u
   .subst u;rw [hd] at he;cases he;rcases lS e7 with v | v
    .exact absurd v.symm b4
    .exact (zN ja v b5 hr).2.1
   .rcases lS e7 with v | v
    .subst v;rw [hd] at hr;cases hr;exact (zN i u e he).1
    .exact S.t8 g nY i u ja v b4 e b5 he hr
 .rcases K7 ag with z | z
  .exact S.al x z i ah ja e7 e b5 he hr
  .rw [z] at ah e7;have self:∀ y:a0,wf y y=true:=fun y=>by unfold wf;simp
   have sym:∀ y z:a0,wf y z=true->wf z y=true:=fun y z h=>aa3 h
   rcases lS ah with u | u
   .subst u;rw [hd] at he;cases he;rcases lS e7 with v | v
    .subst v;rw [hd] at hr;cases hr;exact self _
    .exact sym _ _ (zN ja v b5 hr).2.2
   .rcases lS e7 with v | v
    .subst v;rw [hd] at hr;cases hr;exact (zN i u e he).2.2
    .exact S.al g nY i u ja v e b5 he hr
theorem iS.new (S:iS n ds m bA) (p:Nat):iS n ds (m + 1) (ins bA p [m]):=by
 have self:∀ y:a0,wf y y=true:=fun y=>by unfold wf;simp
 refine ⟨fun x ag=>?_,?_,fun x ag i ah ja e7 b4 e b5 he hr=>?_,fun x ag i ah ja e7 e b5 he hr=>?_⟩
 .rcases lS ag with z | z
  .rw [z];simp
  .exact S.ne x z
 .rw [t_];refine (ado (NZ bA p [m])).trans ?_;rw [abv];simpa using S.pm.append_right [m]
 .rcases lS ag with z | z
  .rw [z] at ah e7;exact absurd ((eC.mp ah).trans (eC.mp e7).symm) b4
  .exact S.t8 x z i ah ja e7 b4 e b5 he hr
 .rcases lS ag with z | z
  .rw [z] at ah e7;rw [eC.mp ah] at he;rw [eC.mp e7,he] at hr;cases hr;exact self _
  .exact S.al x z i ah ja e7 e b5 he hr
theorem jV.put (h:jV cn H gl qs bA) (aN:qs[j]? = some q) (aO:j < bA.length) :
  jV cn (upd H q (.lst (g'.map fun k:Nat=>V.int k))) gl qs (bA.set j g'):=by
 obtain ⟨af,ao,a_,cL,ej,ia⟩:=h;have lA:gl ≠ q:=fun z=>cL (by rw [z];exact cB aN)
 refine ⟨by rw [aF lA];exact af,by rw [IA];exact ao,a_,cL,fun i r g a b=>?_,ia⟩;by_cases c:i=j
 .subst c;rw [aN] at a;cases a;rw [H8 aO] at b;cases b;exact db
 .rw [A6 (fun e=>c e.symm)] at b;have b4:r ≠ q:=fun e=>by
   subst e;obtain ⟨a1,e_⟩:=b6.mp a;obtain ⟨a2,ec⟩:=b6.mp aN;exact c ((DE a_).mp (e_.trans ec.symm))
  rw [aF b4];exact ej i r g a b
theorem jV.new {gl p:Addr} {k:Nat} (h:jV cn H gl qs bA) (h0:ac cn H) (av:H p=none) (aB:k <= bA.length) :
  jV cn (upd (upd H p (.lst (g.map fun k:Nat=>V.int k))) gl (.lst ((ins qs k p).map V.ref))) gl (ins qs k p) (ins bA k g):=by
 have Ov:gl ≠ p:=dB h.af av;have acS:p ∉ qs:=fun z=>by
  obtain ⟨i,ah⟩:=jv z;have Gr:i < bA.length:=by rw [<- h.ao];exact (b6.mp ah).1
  have e:=h.ej i p _ ah (a' Gr);rw [av] at e;cases e
 have J6:k <= qs.length:=by rw [h.ao];exact aB
 refine ⟨db,by rw [FN J6,FN aB,h.ao],aeR h.a_ acS,fun z=>?_,fun i q g' a b=>?_,fun q aN=>?_⟩
 .rcases lS z with z | z
  .exact Ov z
  .exact h.cL z
 .rw [ta J6] at a;rw [ta aB] at b;have keep:∀ {i:Nat} {q:Addr} {g':List Nat},qs[i]? = some q->bA[i]? = some g'->upd (upd H p (.lst (g.map fun k:Nat=>V.int k))) gl (.lst ((ins qs k p).map V.ref)) q=some (.lst (g'.map fun k:Nat=>V.int k)):=fun {i q g'} a b=>by
   have e:=h.ej i q g' a b;have lA:q ≠ gl:=fun z=>h.cL (by rw [<- z];exact cB a)
   rw [aF lA,aF (dB e av)];exact e
  by_cases bB:i < k
  .rw [if_pos bB] at a b;exact keep a b
  .rw [if_neg bB] at a b;by_cases bT:i=k
   .rw [if_pos bT] at a b;cases a;cases b;rw [aF (eg Ov),db]
   .rw [if_neg bT] at a b;exact keep a b
 .rcases lS aN with z | z
  .rw [z];exact h0.free av
  .exact h.ia q z
structure gu where
 lo:Int
 ah:Int
 d5:List Nat
structure mE (H:aq) (bF:Addr) (qs ms:List Addr) (ay:List gu):Prop where
 at_:H bF=some (.lst (qs.map V.ref))
 cy:qs.length=ay.length
 c1:ms.length=ay.length
 al:∀ (i:Nat) (q m:Addr) (s:gu),qs[i]? = some q->ms[i]? = some m->ay[i]? = some s->H q=some (.tup [.int s.lo,.int s.ah,.ref m])/\H m=some (.lst (s.d5.map fun k:Nat=>V.int k))
theorem mE.same (h:mE H bF qs ms ay) (s:ac H I):mE I bF qs ms ay:=
 ⟨s _ _ h.at_,h.cy,h.c1,fun i q m r a b c=>⟨s _ _ (h.al i q m r a b c).1,s _ _ (h.al i q m r a b c).2⟩⟩
structure w8 (n:Int) (ds:List a0) (ay:List gu):Prop where
 bf:iS n ds ds.length (ay.map (·.d5))
 le:∀ s ∈ ay,∀ i ∈ s.d5,∀ d,ds[i]? = some d->d.least <= s.lo
 bd:∀ s ∈ ay,1 <= s.lo/\s.lo <= 21/\s.lo <= s.ah/\s.ah <= 40
theorem iS.len (S:iS n ds m bA):bA.length <= m/\bA.flatten.length=m:=by
 have af:=S.pm.length_eq;rw [tr] at af;have:∀ {bA:List (List Nat)},(∀ g ∈ bA,g ≠ [])->bA.length <= bA.flatten.length:=fun {bA}=>by
  induction bA with
  | nil=>intro _;simp
  | cons g bA b9=>
   intro h;have a1:=b9 fun x ag=>h x (hL _ ag)
   have a2:=LF.mpr (h g (by simp));rw [ti,c6,hQ];omega
 have:=this S.ne;omega
theorem iS.lt (S:iS n ds m bA) (bg:g ∈ bA) (ah:i ∈ g):i < m:=om.mp (S.pm.mem_iff.mp (Qf.mpr ⟨g,bg,ah⟩))
theorem iS.Gz (S:iS n ds m bA) (bg:g ∈ bA):g.length <= m:=by
 have af:=(abu bg).length_le;have:=S.len.2;omega
theorem ZG (h0:0 <= i) (af:i < 6):∃ mo:Int,(1 <= mo/\mo <= 20)/\fH [V.int 4,V.int 4,V.int 4,V.int 4,V.int 4,V.int 20] i=some (.int mo):=by
 have:i=0\/i=1\/i=2\/i=3\/i=4\/i=5:=by omega
 rcases this with rfl | rfl | rfl | rfl | rfl | rfl
 .exact ⟨4,by decide,cg (j:=0) rfl⟩
 .exact ⟨4,by decide,cg (j:=1) rfl⟩
 .exact ⟨4,by decide,cg (j:=2) rfl⟩
 .exact ⟨4,by decide,cg (j:=3) rfl⟩
 .exact ⟨4,by decide,cg (j:=4) rfl⟩
 .exact ⟨20,by decide,cg (j:=5) rfl⟩
def MB (K:ba):bN:=fun vs H Q _=>∃ (a:Addr) (ns:List Int) (n:Int) (wl:Addr) (ds:List a0),vs=[.ref a,.int n,.ref wl]/\ns.length <= 63/\aD K H a (ns.map V.int)/\aP H/\iE H wl ds/\rV n ds/\(∀ d ∈ ds,d.least <= 4)/\(1 <= ds.length/\ds.length <= 8) /\
 ∀ bF qs ms ay I,ac H I->aP I->mE I bF qs ms ay->w8 n ds ay->Q (.ref bF) I
theorem abt:cv P base T 2 t.A9 t.yu yZ (MB K):=by
 refine cG (VV T) fun fe=>cG (N4 T) fun CD=>cG (afl T) fun Xq=>?_;exists T.Iw.ok kr,9
 obtain ⟨a,ns,n,wl,ds,rfl,hv,S,bE,L,D,hle,gx,q⟩:=h;obtain ⟨oS,cy,c1,HQ⟩:=id L;have iL:(oS.map V.ref).length=ds.length:=by rw [aU,c1]
 have vI:∀ (i:Nat) (d:a0),ds[i]? = some d->∃ oc,fH (oS.map V.ref) (i:Int)=some (.ref oc)/\H oc=some (.tup (dJ d)):=fun i d hd=>by
  have gM:oS[i]? = some (oS[i]'(by rw [c1];exact (b6.mp hd).1)):=a' _;exact ⟨_,cg (by rw [dm,gM];rfl),HQ i _ d gM hd⟩
 refine ⟨_,(aR (b2 (i:=3) kr.aG (fg aE))
   (aR (be fm rfl (l8 rfl T.lJ (ai (fq g0 rfl T.gU gK (ai (U 2) aE)) aE)) (cz (i:=4) kr.aG) (aR (b2 (i:=5) kr.aG (fg aE))
   (aR (be fm rfl (l8 rfl T.lJ (ai (fq g0 rfl T.gU gK (ai (U 3) aE)) aE)) (cz (i:=6) kr.aG) (aR (b2 (i:=7) kr.aG (cf Xq ak T.aeX T.Ds.bK T.abl (ai (U 2) (ai (bX dE (bX dE (U 3) (U 6)) aL) (ai (U 4) aE)))))
   (aR (be fm rfl (Gc (bX dE (U 3) (U 6))) (cz (i:=8) kr.aG) (a5 (b2 (i:=7) kr.aG (wq (U 7) (tZ (Qy (cf CD ak T.R9 T.BN.bK T.Pk (ai (bX dE (U 2) (U 8)) (ai (bX dE (U 2) (U 4)) (ai (U 1) aE))))))))))
   (a5 (dI (ki (U 7)) (a5 (en (gk iM kO kT ks (U 5) (ai (U 6) aE)))) eh)))))
   (a5 (dI (fj.pt (iD (cP kz (fq g0 rfl T.gU gK (ai (U 5) aE)) aL (cm _)) (jA (cP kz (cf fe ak T.fA T.fc.bK T.fw (ai (U 0) (ai (bD d2 aL (U 4)) (ai aL aE)))) aL (cm _))))) (aR (b2 (i:=6) kr.aG (bX dE (U 5) (cf fe ak T.fA T.fc.bK T.fw (ai (U 0) (ai (bD d2 aL (U 4)) (ai (fq g0 rfl T.gU gK (ai (U 5) aE)) aE))))))
   (a5 (en (gk iM Dq QG GD (bX dE (U 3) (U 6)) (ai (cf fe ak T.fA T.fc.bK T.fw (ai (U 0) (ai (bD d2 aL (U 4)) (ai (bD d2 (fq g0 rfl T.gU gK (ai (bX dE (U 3) (U 6)) aE)) aL) aE)))) (ai (U 4) aE)))))) (a5 (en (gk iM Dq QG GD (U 3) (ai (cf fe ak T.fA T.fc.bK T.fw (ai (U 0) (ai (bD d2 aL (U 4)) (ai (bD d2 (fq g0 rfl T.gU gK (ai (U 3) aE)) aL) aE)))) (ai (fg (ai (U 4) aE)) aE))))))))))
   (aR (b2 (i:=9) kr.aG (fg aE))
   (aR (be fm rfl (l8 rfl T.lJ (ai (fq g0 rfl T.gU gK (ai (U 3) aE)) aE)) (cz (i:=6) kr.aG) (aR (b2 (i:=10) kr.aG (bD d2 (fq (M5 rfl) rfl T.Bi yo (ai (hE rfl (Gc (bX dE (U 3) (U 6))) (gQ (sc:=bz DS) rfl (by ac_nf)) (N:=A4) (sel:=[none,some 2]) (gF (M:=["_law_script","_law_places","_law_ways_here","_law_some","_law_k","_law_fits","_law_j","_law_good","_law_i","_law_stages_here","_law_low","_law_more"]) (by ac_nf)) (fy.of (fun _ _ _ _=>(cz (i:=0) (er (N:=A4) (by ac_nf) rfl))) (fun _ _ _ _=>⟨_,h4,by walk_at "B"⟩) (fun _ _ _ _=>⟨_,(bX eK (bX dE (U 1) (U 0)) aL),by walk_at "B"⟩))) aE)) (cf fe ak T.fA T.fc.bK T.fw (ai (U 0) (ai (bD d2 aL (U 6)) (ai aL aE))))))
   (aR (dI (cP eo (cf fe ak T.fA T.fc.bK T.fw (ai (U 0) (ai (bD d2 aL (U 6)) (ai aL aE)))) aL (cm _)) (a5 (b2 (i:=10) kr.aG (bD d2 (U 10) aL))) eh)
   (aR (b2 (i:=11) kr.aG (bX dE (fg (ai aL (ai aL (ai aL (ai aL (ai aL (ai aL aE))))))) (cf fe ak T.fA T.fc.bK T.fw (ai (U 0) (ai (bD d2 aL (U 6)) (ai aL aE))))))
   (a5 (en (gk iM kO kT ks (U 9) (ai (pz (ai (U 10) (ai (bD d2 (U 10) (cf fe ak T.fA T.fc.bK T.fw (ai (U 0) (ai (bD d2 aL (U 6)) (ai (U 11) aE))))) (ai (bX dE (U 3) (U 6)) aE)))) aE))))))))
   (a5 (cj (U 9))))))),?_⟩
 refine cZ (fun aA I=>ac H I/\aP I/\∃ gl,H gl=none/\I gl=some (.lst [])/\aA=[~~~a,some (.int n),~~~wl,~~~gl,none,none,none,none,none,none,none,none]) (fun b3 bJ=>?_) fun cN aJ=>?_
 .nofun;exact ⟨fk _,fun gl xj=>bJ _ _ ⟨bp xj,bE.upd,gl,xj,db,rfl⟩⟩
 rintro gg H1 ⟨s1,cw,gl,xj,dk,rfl⟩;subst aJ;refine cZ (fun aA I=>ac H I/\aP I/\(∃ qs bA,jV H I gl qs bA/\iS n ds ds.length bA)/\∃ dD eE eB dU dn,aA=[~~~a,some (.int n),~~~wl,~~~gl,dD,eE,eB,dU,dn,none,none,none]) (fun b3 bJ=>?_) fun cN aJ=>?_
 .nofun;refine ⟨_,.inl (aD.of (s1 _ _ cy)),by omega,by rw [iL];omega,?_⟩;rw [show (((oS.map V.ref).length:Nat):Int).toNat=ds.length by rw [iL];rfl];refine dP.range (fun k σ I=>ac H I/\aP I/\(∃ qs bA,jV H I gl qs bA/\iS n ds k bA)/\∃ dD eE eB dU dn,σ=[~~~a,some (.int n),~~~wl,~~~gl,dD,eE,eB,dU,dn,none,none,none]) ⟨s1,cw,⟨[],[],⟨dk,rfl,RY,by simp,fun i q g h=>by simp at h,fun q h=>by simp at h⟩,iS.nil n ds⟩,_,_,_,_,_,rfl⟩ ?_ ?_
  .rintro k σ I aB bh;ac_rfl
   obtain ⟨s2,cV,⟨qs,bA,G,j'⟩,dD,eE,eB,dU,dn,rfl⟩:=bh;have uc:ds[k]? = some ds[k]:=a' aB;subst aJ;generalize alg:ds[k]=d at uc;have hd:=(D.al d (cB uc)).1;have aho:=j'.len;simp only [gd,dN,jI,jX,oj];exists (fun aA az=>ac I az/\aP az/\∃ d8,I d8=none/\az d8=some (.lst [])/\aA=[~~~a,some (.int n),~~~wl,~~~gl,some (.int (k:Nat)),~~~d8,eB,dU,dn,none,none,none]),0
   .nofun;exact ⟨fk _,fun d8 ku=>bJ _ _ ⟨bp ku,cV.upd,d8,ku,db,rfl⟩⟩
   rintro cC az ⟨s3,dK,d8,ku,hn,rfl⟩;have Tp:d8 ≠ gl:=fun e=>by rw [e,G.af] at ku;cases ku
   have Z7:d8 ∉ qs:=fun z=>by
    obtain ⟨i,ah⟩:=jv z;have Gr:i < bA.length:=by rw [<- G.ao];exact (b6.mp ah).1
    have e:=G.ej i d8 _ ah (a' Gr);rw [ku] at e;cases e
   subst aJ;simp only [dN];exists (fun aA bk=>ac I bk/\aP bk/\jV H bk gl qs bA/\(∃ aH:List Nat,bk d8=some (.lst (aH.map fun k:Nat=>V.int k))/\aH.length <= bA.length/\∀ f ∈ aH,∃ g,bA[f]? = some g/\∀ i ∈ g,∀ e,ds[i]? = some e->mt n e d=false/\mt n d e=false/\wf e d=true)/\∃ eB dU dn,aA=[~~~a,some (.int n),~~~wl,~~~gl,some (.int (k:Nat)),~~~d8,eB,dU,dn,none,none,none]),0
   .nofun;have lA:(qs.map V.ref).length=bA.length:=by rw [aU,G.ao]
    refine ⟨_,.inl (aD.of (s3 _ _ G.af)),by omega,by rw [lA];omega,?_⟩;rw [show (((qs.map V.ref).length:Nat):Int).toNat=bA.length by rw [lA];rfl];refine dP.range (fun j σ bk=>ac I bk/\aP bk/\jV H bk gl qs bA/\(∃ aH:List Nat,bk d8=some (.lst (aH.map fun k:Nat=>V.int k))/\aH.length <= j/\∀ f ∈ aH,∃ g,bA[f]? = some g/\∀ i ∈ g,∀ e,ds[i]? = some e->mt n e d=false/\mt n d e=false/\wf e d=true)/\∃ eB dU dn,σ=[~~~a,some (.int n),~~~wl,~~~gl,some (.int (k:Int)),~~~d8,eB,dU,dn,none,none,none]) ⟨s3,dK,G.same s3,⟨[],hn,bW _,fun f h=>by simp at h⟩,_,_,_,rfl⟩ ?_ ?_
    .rintro j σ bk aO bh;ac_rfl
     obtain ⟨s4,dR,ht,⟨aH,hl,pZ,t5⟩,eB,dU,dn,rfl⟩:=bh;have oe:bA[j]? = some bA[j]:=a' aO;have eG:qs[j]? = some (qs[j]'(by rw [G.ao];exact aO)):=a' _;subst aJ;generalize qs[j]'(by rw [G.ao];exact aO)=jK at eG;generalize Tf:bA[j]=g at oe;have nY:=cB oe;obtain ⟨ny,alb,Pg⟩:=sx (j'.ne g nY);have gw:∀ i ∈ g,∃ e,ds[i]? = some e:=fun i ah=>⟨_,a' (EC (j'.lt nY ah) aB)⟩
     have Lc:ny ∈ g:=by rw [Pg];exact l4 ..
     obtain ⟨jY,q'⟩:=gw ny Lc;have sk:=ht.ej j jK g eG oe;have wo:=cg (xs:=qs.map V.ref) (j:=j) (by rw [dm,eG];rfl);have gY:=s2.trans s4;have ur:=L.same gY;have Bn:=gY _ _ cy;simp only [gd,dN,jI,jX,oj];exists (fun aA cJ=>cJ=bk/\aA=[~~~a,some (.int n),~~~wl,~~~gl,some (.int (k:Int)),~~~d8,some (.int (j:Int)),some (.bl (wf jY d)),dn,none,none,none]),0
     .nofun;exact ⟨_,aD.of ht.af,_,wo,_,rfl,_,aD.of sk,_,by rw [Pg];exact cg (j:=0) rfl,wl,ds,ny,k,jY,d,rfl,ur,q',uc,(D.al jY (cB q')).1.k,hd.k,bJ _ _ ⟨rfl,rfl⟩⟩
     rintro lq cJ ⟨rfl,rfl⟩;subst aJ;simp only [dN];exists (fun aA dH=>dH=cJ/\∃ (lZ:Bool) (dn:Option V),(lZ=true->wf jY d=true/\∀ i ∈ g,∀ e,ds[i]? = some e->mt n e d=false)/\aA=[~~~a,some (.int n),~~~wl,~~~gl,some (.int (k:Int)),~~~d8,some (.int (j:Int)),some (.bl lZ),dn,none,none,none]),0
     .nofun;refine ⟨_,aD.of ht.af,_,wo,_,rfl,⟨_,aD.of sk⟩,?_⟩;refine dP.list (xs:=g.map fun k:Nat=>V.int k) (fun l σ dH=>dH=cJ/\∃ (lZ:Bool) (dn:Option V),(lZ=true->wf jY d=true/\∀ i ∈ g.take l,∀ e,ds[i]? = some e->mt n e d=false)/\σ=[~~~a,some (.int n),~~~wl,~~~gl,some (.int (k:Int)),~~~d8,some (.int (j:Int)),some (.bl lZ),dn,none,none,none]) ?_ ?_ ?_ ?_
      .exact ⟨rfl,_,_,fun z=>⟨z,fun i h=>by simp at h⟩,rfl⟩
      .rintro l σ dH aM ⟨rfl,_⟩;exact aD.of sk
      .rintro l v σ dH aK bh;ac_rfl
       obtain ⟨rfl,lZ,dn,p0,rfl⟩:=bh;obtain ⟨i,ah,rfl⟩:=cA aK;obtain ⟨e,he⟩:=gw i (cB ah);obtain ⟨gB,r5,Fz⟩:=vI i e he;obtain ⟨Zi,abX,aeo⟩:=vI k d uc;have step:∀ ec:Bool,(ec=true->lZ=true/\mt n e d=false)->(ec=true->wf jY d=true/\∀ i ∈ g.take (l + 1),∀ e,ds[i]? = some e->mt n e d=false):=fun ec h z=>by
        obtain ⟨ff,eT⟩:=h z;obtain ⟨mj,pq⟩:=p0 ff;refine ⟨mj,fun ja e7 b5 hr=>?_⟩;rw [ov,ah] at e7;rcases f5.mp e7 with u | u
        .exact pq ja u b5 hr
        .rw [show ja=i by simpa using u,he] at hr;cases hr;exact eT
       subst aJ;nofun;cases lZ with
       | true=>
        rw [if_pos rfl];refine ⟨_,aD.of Bn,_,r5,_,aD.of Bn,_,abX,n,gB,Zi,e,d,rfl,cM.of (gY _ _ Fz),cM.of (gY _ _ aeo),(D.al e (cB he)).1,hd,_,rfl,?_⟩;exact ⟨rfl,_,step _ (fun z=>⟨rfl,by simpa using z⟩),rfl,_,rfl⟩
       | false=>
        rw [if_neg (by decide)];exact ⟨false,(fun z=>nomatch z),rfl,_,rfl⟩
      .rintro σ dH bh;ac_rfl
       obtain ⟨rfl,lZ,dn,p0,rfl⟩:=bh;subst aJ;rw [aU,iq] at p0;exact bJ _ _ ⟨rfl,lZ,dn,p0,rfl⟩
     rintro rt dH ⟨rfl,lZ,dn,p0,rfl⟩;subst aJ;dsimp only;refine dy lZ (fun Q aV=>?_) (fun ae=>?_) (fun ae=>?_)
     .nofun;exact aV
     .obtain ⟨mj,pq⟩:=p0 ae;nofun;refine ⟨.inl ⟨_,aD.of hl⟩,_,hl,hp (show (aH.map fun k:Nat=>V.int k).length <= 8 by rw [aU];omega) (by decide),s4.fC ku,dR.upd,ht.off Tp Z7,⟨aH ++ [j],by rw [db,fz];rfl,by rw [c6];show aH.length + 1 <= j + 1;omega,fun f hf=>?_⟩,?_⟩
      .rcases f5.mp hf with z | z
       .exact t5 f z
       .rw [eC.mp z];refine ⟨g,oe,fun i ah e he=>⟨pq i ah e he,?_,VF (j'.al g nY i ah ny Lc e jY he q') mj⟩⟩;have s9:=(D.al e (cB he)).1;have:=abZ s9.st s9.e8 hd.st hd.e8 s9.ne hd.ne;exact (this.symm.trans (pq i ah e he):mt n d e=false)
      .exact ⟨_,rfl⟩
     .simp only [il];exact ⟨s4,dR,ht,⟨aH,hl,by omega,t5⟩,_,_,_,rfl⟩
    .rintro σ bk bh;ac_rfl
     obtain ⟨s4,dR,ht,⟨aH,hl,pZ,t5⟩,eB,dU,dn,rfl⟩:=bh;subst aJ;exact bJ _ _ ⟨s4,dR,ht,⟨aH,hl,pZ,t5⟩,_,_,_,rfl⟩
   rintro gc bk ⟨s4,dR,ht,⟨aH,hl,pZ,t5⟩,eB,dU,dn,rfl⟩;have gY:=s2.trans s4;have i_:=S.same gY;have lA:(qs.map V.ref).length=bA.length:=by rw [aU,G.ao]
   subst aJ;dsimp only;refine dy (decide (0 < aH.length) && decide (0 < di ns (100 + (k:Int)) 3)) (fun Q aV=>?_) (fun ae=>?_) (fun ae=>?_)
   .nofun;refine ⟨_,.inl (aD.of hl),?_⟩;rw [aU];by_cases b_:0 < aH.length
    .rw [if_pos (decide_eq_true (by omega))];rw [decide_eq_true b_,kG] at aV;exact ⟨a,ns,_,_,rfl,hv,i_,⟨by omega,by omega⟩,by decide,_,rfl,aV⟩
    .rw [if_neg (by rw [decide_eq_true_eq];omega)];rw [decide_eq_false b_,k2] at aV;exact aV
   .rw [hy,decide_eq_true_eq] at ae;have au:=ce ns (110 + (k:Int)) (m:=(aH.length:Int)) (by omega);have aI:=hx ns (110 + (k:Int)) (m:=(aH.length:Int)) (by omega);obtain ⟨u,bq⟩:∃ u:Nat,di ns (110 + (k:Int)) (aH.length:Int)=(u:Int):=⟨_,(pv au).symm⟩;have afr:u < aH.length:=by omega
    have FX:aH[u]? = some aH[u]:=a' afr;generalize aiE:aH[u]=f at FX;obtain ⟨g,yz,ah2⟩:=t5 f (cB FX);have HS:f < bA.length:=(b6.mp yz).1;have vU:qs[f]? = some (qs[f]'(by rw [G.ao];exact HS)):=a' _;generalize qs[f]'(by rw [G.ao];exact HS)=H_ at vU;have EB:=ht.ej f H_ g vU yz;have NQ:=cg (xs:=qs.map V.ref) (j:=f) (by rw [dm,vU];rfl);have Tz:=cg (xs:=aH.map fun k:Nat=>V.int k) (j:=u) (v:=.int (f:Int)) (by rw [dm,FX];rfl);have aiG:=j'.Gz (cB yz);have e0:=ce ns (160 + (k:Int)) (m:=(g.length:Int) + 1) (by omega);have d6:=hx ns (160 + (k:Int)) (m:=(g.length:Int) + 1) (by omega);nofun;obtain ⟨v,aK⟩:∃ v:Nat,di ns (160 + (k:Int)) ((g.length:Int) + 1)=(v:Int):=⟨_,(pv e0).symm⟩;refine ⟨_,.inl (aD.of hl),?_⟩;rw [aU];refine ⟨a,ns,_,_,rfl,hv,i_,⟨by omega,by omega⟩,by omega,?_⟩;rw [bq];refine ⟨_,_,rfl,aD.of hl,_,Tz,_,_,rfl,aD.of ht.af,_,NQ,.inl ⟨_,aD.of EB⟩,_,_,rfl,aD.of ht.af,_,NQ,_,rfl,_,.inl (aD.of EB),?_⟩;rw [aU];refine ⟨a,ns,_,_,rfl,hv,i_,⟨by omega,by omega⟩,by omega,H_,rfl,_,_,rfl,EB,?_⟩;rw [aK,nd];have LV:v <= g.length:=by omega
    have em:(g.map fun k:Nat=>V.int k).take v ++ V.int (k:Int) :: (g.map fun k:Nat=>V.int k).drop v=(ins g v k).map fun k:Nat=>V.int k:=(GP (fun k:Nat=>V.int k) g v k).symm
    refine ⟨by omega,by omega,by rw [aU];omega,hp (show (g.map fun k:Nat=>V.int k).length <= 8 by rw [aU];omega) (by decide),gY.fC (ht.ia H_ (cB vU)),dR.upd,?_,_,rfl⟩;rw [em];exact ⟨qs,_,ht.put vU HS,j'.put yz uc ah2⟩
   .have e0:=ce ns (120 + (k:Int)) (m:=(bA.length:Int) + 1) (by omega);have d6:=hx ns (120 + (k:Int)) (m:=(bA.length:Int) + 1) (by omega);nofun;obtain ⟨v,aK⟩:∃ v:Nat,di ns (120 + (k:Int)) ((bA.length:Int) + 1)=(v:Int):=⟨_,(pv e0).symm⟩;refine ⟨.inl ⟨_,aD.of ht.af⟩,_,.inl (aD.of ht.af),?_⟩;rw [lA];refine ⟨a,ns,_,_,rfl,hv,i_,⟨by omega,by omega⟩,by omega,by decide,fun p av=>⟨_,_,rfl,(bp av) _ _ ht.af,?_⟩⟩;rw [aK,nd];have LV:v <= bA.length:=by omega
    have em:(qs.map V.ref).take v ++ V.ref p :: (qs.map V.ref).drop v=(ins qs v p).map V.ref:=(GP V.ref qs v p).symm;refine ⟨by omega,by omega,by rw [lA];omega,hp (show (qs.map V.ref).length <= 8 by rw [lA];omega) (by decide),(gY.trans (bp av)).fC xj,(dR.upd).upd,?_,_,rfl⟩;rw [em];exact ⟨_,_,ht.new (g:=[k]) gY av LV,j'.new v⟩
  .rintro σ I bh;ac_rfl
   obtain ⟨s2,cV,⟨qs,bA,G,j'⟩,dD,eE,eB,dU,dn,rfl⟩:=bh;subst aJ;exact bJ _ _ ⟨s2,cV,⟨qs,bA,G,j'⟩,_,_,_,_,_,rfl⟩
 rintro cC az ⟨s2,cV,⟨qs,bA,G,j'⟩,dD,eE,eB,dU,dn,rfl⟩;subst aJ;refine cZ (fun aA I=>ac az I/\aP I/\∃ bF,az bF=none/\I bF=some (.lst [])/\aA=[~~~a,some (.int n),~~~wl,~~~gl,dD,eE,eB,dU,dn,~~~bF,none,none]) (fun b3 bJ=>?_) fun cN aJ=>?_
 .nofun;exact ⟨fk _,fun bF gs=>bJ _ _ ⟨bp gs,cV.upd,bF,gs,db,rfl⟩⟩
 rintro gc bk ⟨s3,dK,bF,gs,hn,rfl⟩;have aho:=j'.len;have lA:(qs.map V.ref).length=bA.length:=by rw [aU,G.ao]
 subst aJ;refine cZ (fun aA I=>ac az I/\aP I/\(∃ kE ay,mE I bF kE qs ay/\w8 n ds ay)/\∃ eB dn iv pb,aA=[~~~a,some (.int n),~~~wl,~~~gl,dD,eE,eB,dU,dn,~~~bF,iv,pb]) (fun b3 bJ=>?_) fun cN aJ=>?_
 .nofun;refine ⟨_,.inl (aD.of (s3 _ _ G.af)),by omega,by rw [lA];omega,?_⟩;rw [show (((qs.map V.ref).length:Nat):Int).toNat=bA.length by rw [lA];rfl];refine dP.range (fun j σ I=>ac az I/\aP I/\(∃ (kE:List Addr) (ay:List gu),I bF=some (.lst (kE.map V.ref))/\kE.length=j/\ay.length=j/\(∀ (i:Nat) (q:Addr) (s:gu),kE[i]? = some q->ay[i]? = some s->∃ m,qs[i]? = some m/\I q=some (.tup [.int s.lo,.int s.ah,.ref m]))/\ay.map (·.d5)=bA.take j/\∀ s ∈ ay,(∀ i ∈ s.d5,∀ d,ds[i]? = some d->d.least <= s.lo)/\1 <= s.lo/\s.lo <= 21/\s.lo <= s.ah/\s.ah <= 40)/\∃ eB dn iv pb,σ=[~~~a,some (.int n),~~~wl,~~~gl,dD,eE,eB,dU,dn,~~~bF,iv,pb]) ⟨s3,dK,⟨[],[],hn,rfl,rfl,fun i q s h=>by simp at h,by rw [o5];rfl,fun s h=>by simp at h⟩,_,_,_,_,rfl⟩ ?_ ?_
  .rintro j σ I aO bh;ac_rfl
   obtain ⟨s4,dR,⟨kE,ay,hl,zj,gP,r3,wI,y6⟩,eB,dn,iv,pb,rfl⟩:=bh;have oe:bA[j]? = some bA[j]:=a' aO;have eG:qs[j]? = some (qs[j]'(by rw [G.ao];exact aO)):=a' _;subst aJ;generalize qs[j]'(by rw [G.ao];exact aO)=jK at eG;generalize Tf:bA[j]=g at oe;have nY:=cB oe;have gw:∀ i ∈ g,∃ e,ds[i]? = some e:=fun i ah=>⟨_,a' (j'.lt nY ah)⟩
   have ht:=G.same s4;have sk:=ht.ej j jK g eG oe;have wo:=cg (xs:=qs.map V.ref) (j:=j) (by rw [dm,eG];rfl);have gY:=s2.trans s4;have i_:=S.same gY;have Bn:=gY _ _ cy;have aje:=j'.Gz nY;obtain ⟨cQ,W4⟩:∃ cQ:Nat->Int,cQ=fun i=>((ds[i]?).map (·.least)).getD 0:=⟨_,rfl⟩
   have C7:∀ i e,ds[i]? = some e->cQ i=e.least:=fun i e he=>by rw [W4];show ((ds[i]?).map (·.least)).getD 0=_;rw [he];rfl
   obtain ⟨nV,LZ,zJ⟩:=AH (g.map cQ) (fun z=>j'.ne g nY (List.map_eq_nil_iff.mp z));have Aq:1 <= nV/\nV <= 4:=by
    obtain ⟨i,ah,rfl⟩:=cp.mp LZ;obtain ⟨e,he⟩:=gw i ah;rw [C7 i e he];exact ⟨(D.al e (cB he)).1.le.1,hle e (cB he)⟩
   have dv:=ce ns (130 + (j:Int)) (m:=3) (by decide);have ew:=hx ns (130 + (j:Int)) (m:=3) (by decide);simp only [gd,dN,jI,jX,oj];exists (fun aA cJ=>ac I cJ/\aP cJ/\∃ lo:Int,(nV <= lo/\lo <= nV + 2)/\aA=[~~~a,some (.int n),~~~wl,~~~gl,dD,eE,some (.int (j:Int)),dU,dn,~~~bF,some (.int lo),pb]),0
   .nofun;refine ⟨_,aD.of ht.af,_,wo,_,rfl,⟨_,aD.of sk⟩,?_⟩;refine da.lg (xs:=g.map fun k:Nat=>V.int k) (zs:=(g.map cQ).map V.int) (aD.of sk) (c4 (show (g.map fun k:Nat=>V.int k).length <= 8 by rw [aU];omega) (by decide)) (by rw [aU,aU,aU]) (fun l v z N aK aQ bu=>?_) (fun pl cY=>?_)
    .obtain ⟨i,ah,rfl⟩:=cA aK;obtain ⟨y,a7,rfl⟩:=cA aQ;obtain ⟨ja,e7,rfl⟩:=cA a7;rw [ah] at e7;cases e7;obtain ⟨e,he⟩:=gw i (cB ah);obtain ⟨gB,r5,Fz⟩:=vI i e he;rw [C7 i e he] at bu;nofun;exact ⟨Sub.name,_,aD.of Bn,_,r5,_,rfl,_,cM.of (gY _ _ Fz),_,cg (j:=6) rfl,bu⟩
    .have Lk:=bp (o:=.lst ((g.map cQ).map V.int)) cY;refine ⟨_,rfl,_,aD.of db,nV,LZ,zJ,a,ns,_,_,rfl,hv,i_.same Lk,⟨by omega,by omega⟩,by decide,_,rfl,bJ _ _ ⟨Lk,dR.upd,_,⟨by omega,by omega⟩,rfl⟩⟩
   rintro lq cJ ⟨s5,iB,aiU,yV,rfl⟩;have Iq:=i_.same s5;subst aJ;simp only [dN];exists (fun aA dH=>dH=cJ/\∃ lo:Int,(nV <= lo/\lo <= 21)/\aA=[~~~a,some (.int n),~~~wl,~~~gl,dD,eE,some (.int (j:Int)),dU,dn,~~~bF,some (.int lo),pb]),0
   .refine dy (decide (di ns (150 + (j:Int)) 12=0)) (fun Q aV=>?_) (fun _=>?_) (fun _=>?_)
    .nofun;refine ⟨a,ns,_,_,rfl,hv,Iq,⟨by omega,by omega⟩,by decide,rfl,?_⟩;rw [show decide (V.int (di ns (150 + (j:Int)) 12)=V.int 0)=decide (di ns (150 + (j:Int)) 12=0) from decide_eq_decide.mpr (by simp)];exact aV
    .nofun;exact bJ _ _ ⟨rfl,_,by omega,rfl⟩
    .simp only [il];exact bJ _ _ ⟨rfl,_,by omega,rfl⟩
   rintro rt dH ⟨rfl,lo,nX,rfl⟩;have jw:=ce ns (180 + (j:Int)) (m:=6) (by decide);have jl:=hx ns (180 + (j:Int)) (m:=6) (by decide);subst aJ;simp only [dN];exists (fun aA hH=>ac dH hH/\aP hH/\∃ mo:Int,(1 <= mo/\mo <= 20)/\aA=[~~~a,some (.int n),~~~wl,~~~gl,dD,eE,some (.int (j:Int)),dU,dn,~~~bF,some (.int lo),some (.int mo)]),0
   .obtain ⟨mo,rF,mL⟩:=ZG jw jl;nofun;exact ⟨by decide,fun p av=>⟨a,ns,_,_,rfl,hv,Iq.same (bp av),⟨by omega,by omega⟩,by decide,_,_,rfl,aD.of db,_,mL,bJ _ _ ⟨bp av,iB.upd,mo,rF,rfl⟩⟩⟩
   rintro lW hH ⟨gV,kh,mo,rF,rfl⟩;have zQ:=s5.trans gV;have wm:=Iq.same gV;have sv:=zQ _ _ hl;have mj:=ce ns (140 + (j:Int)) (m:=mo) (by omega);have pq:=hx ns (140 + (j:Int)) (m:=mo) (by omega);subst aJ;nofun;refine ⟨.inl ⟨_,aD.of sv⟩,a,ns,_,_,rfl,hv,wm,⟨by omega,by omega⟩,by omega,_,rfl,_,aD.of (zQ _ _ ht.af),_,wo,by decide,fun p av=>⟨_,(bp av) _ _ sv,hp (show (kE.map V.ref).length <= 8 by rw [aU];omega) (by decide),((s4.trans zQ).trans (bp av)).fC gs,(kh.upd).upd,⟨kE ++ [p],by rw [db,fz];rfl,by rw [c6,zj];rfl,ay ++ [⟨lo,lo + di ns (140 + (j:Int)) mo,g⟩],by rw [c6,gP];rfl,fun i q s a1 a2=>?_,?_,fun s ax=>?_⟩,?_⟩⟩
   .have Y9:bF ≠ p:=dB sv av;rcases lN a1 with ⟨e_,ec⟩ | ⟨e_,rfl⟩
    .rcases lN a2 with ⟨bB,bT⟩ | ⟨bB,_⟩
     .obtain ⟨m,hm,e⟩:=r3 i q s ec bT;have fi:=zQ _ _ e;refine ⟨m,hm,?_⟩;rw [aF (b8 fi sv (by intro z;cases z)),aF (dB fi av)];exact fi
     .omega
    .rcases lN a2 with ⟨bB,_⟩ | ⟨_,rfl⟩
     .omega
     .refine ⟨jK,by rw [e_,zj];exact eG,?_⟩;rw [aF (eg Y9),db]
   .rw [fz,wI,ov,oe];rfl
   .rcases f5.mp ax with z | z
    .exact y6 s z
    .rw [eC.mp z];refine ⟨fun i ah e he=>?_,by show 1 <= lo;omega,nX.2,by show lo <= lo + di ns (140 + (j:Int)) mo;omega,by show lo + di ns (140 + (j:Int)) mo <= 40;omega⟩;have:=zJ (cQ i) (cp.mpr ⟨i,ah,rfl⟩);rw [C7 i e he] at this;show e.least <= lo;omega
   .repeat (first | exact ⟨_,rfl⟩ | refine ⟨⟨_,rfl⟩,?_⟩)
  .rintro σ I bh;ac_rfl
   obtain ⟨s4,dR,⟨kE,ay,hl,zj,gP,r3,wI,y6⟩,eB,dn,iv,pb,rfl⟩:=bh;subst aJ;rw [iq] at wI;have ht:=G.same s4;refine bJ _ _ ⟨s4,dR,⟨kE,ay,⟨hl,by omega,by rw [G.ao];omega,fun i q m s a1 a2 eR=>?_⟩,⟨by rw [wI];exact j',fun s ax=>(y6 s ax).1,fun s ax=>(y6 s ax).2⟩⟩,_,_,_,_,rfl⟩;obtain ⟨c3,qL,e⟩:=r3 i q s a1 eR;rw [a2] at qL;cases qL;refine ⟨e,ht.ej i m s.d5 a2 ?_⟩;rw [<- wI,dm,eR];rfl
 rintro lq cJ ⟨s4,dR,⟨kE,ay,mV,abR⟩,eB,dn,iv,pb,rfl⟩;subst aJ;nofun;exact q bF kE qs ay cJ (s2.trans s4) dR mV abR
noncomputable def hP (ds:List a0) (i:Nat):Str:=((ds[i]?).map (·.name)).getD (aa "")
noncomputable def eH (ds:List a0) (s:gu):List Str:=s.d5.map (hP ds)
noncomputable def hF (ds:List a0) (s:gu):List Str:=[aa "stage",num s.lo,num s.ah] ++ eH ds s
noncomputable def gC (ds:List a0) (ay:List gu):List (List Str):=ay.map (hF ds)
noncomputable def qq (ds:List a0) (ay:List gu):Str:=dV nl ((gC ds ay).map (dV cE))
structure HG (ds:List a0) (ay:List gu):Prop where
 ln:ay.length <= 8
 bd:∀ s ∈ ay,(0 <= s.lo/\s.lo < 1000)/\(0 <= s.ah/\s.ah < 1000)/\s.d5 ≠ []/\s.d5.length <= 8/\∀ i ∈ s.d5,∃ d,ds[i]? = some d
 nm:∀ d ∈ ds,d.name.length <= 8
theorem Ts (ds:List a0) (s:gu) (h:s.d5 ≠ []):aa "stage " ++ num s.lo ++ aa " " ++ num s.ah ++ aa " " ++ dV cE (eH ds s)=dV cE (hF ds s):=by
 apply xk;have au:(aa "stage ").cps.toList=[115,116,97,103,101,32]:=by ac_nf
 have aI:(aa "stage").cps.toList=[115,116,97,103,101]:=by ac_nf
 have bO:(aa " ").cps.toList=[32]:=by ac_nf
 unfold hF eH;obtain ⟨i,r,aw⟩:=sx h;rw [aw,x3,qp];simp only [nh,nq,qp,eV,qh,Bj,uI,kL,au,aI,bO,o8]
def Ks:bN:=fun vs H Q _=>∃ wl ds bF qs ms ay,vs=[.ref wl,.ref bF]/\iE H wl ds/\mE H bF qs ms ay/\HG ds ay/\aP H/\Q (.str (qq ds ay)) H
def ahH:bN:=fun vs H Q _=>∃ wl ds bF qs ms ay,vs=[.ref wl,.ref bF]/\iE H wl ds/\mE H bF qs ms ay/\HG ds ay/\∀ I,ac H I->Q (.str (qq ds ay)) I
theorem ahe:cv P base T 1 t.yR t.xS zA Ks:=by
 refine cH.forget (sp:=ahH) ?_ fun vs H Q E h=>?_
 .exists T.Cu.ok u9,9
  obtain ⟨wl,ds,bF,qs,ms,ay,rfl,⟨oS,cy,c1,HQ⟩,mV,X,q⟩:=h;have adI:=X.ln;have vI:∀ (i:Nat) (d:a0),ds[i]? = some d->∃ oc,fH (oS.map V.ref) (i:Int)=some (.ref oc)/\H oc=some (.tup (dJ d)):=fun i d hd=>by
   have gM:oS[i]? = some (oS[i]'(by rw [c1];exact (b6.mp hd).1)):=a' _;exact ⟨_,cg (by rw [dm,gM];rfl),HQ i _ d gM hd⟩
  have wD:∀ k:Nat,k <= 1000->k <= sizeLine:=fun k h=>c4 h (by decide)
  refine ⟨_,(aR (b2 (i:=2) u9.aG (fg aE))
   (aR (be fm rfl (Gc (U 1)) (ly (K:=K) (n:=3) rfl rfl (lc (cz (i:=3) u9.aG) (lc (cz (i:=4) u9.aG) (lc (cz (i:=5) u9.aG) k4)))) (a5 (en (gk iM kO kT ks (U 2) (ai (bD kV (bD kV (bD kV (bD kV (bD kV cD (nz ub rfl T.uS vr (ai (U 3) aE))) cD) (nz ub rfl T.uS vr (ai (U 4) aE))) cD) (gk tu BC zb uF cD (ai (hE rfl (Gc (U 5)) (gQ (sc:=bz Hd) rfl (by ac_nf)) (N:=A4) (sel:=[none,some 0]) (gF (M:=["_law_ways_here","_law_stages_here","_law_rows","_law_low","_law_high","_law_some"]) (by ac_nf)) (fy.of (fun _ _ _ _=>(cz (i:=0) (er (N:=A4) (by ac_nf) rfl))) (fun _ _ _ _=>⟨_,h4,by walk_at "B"⟩) (fun _ _ _ _=>⟨_,(bX eK (bX dE (U 1) (U 0)) aL),by walk_at "B"⟩))) aE))) aE)))))
   (a5 (cj (gk tu BC zb uF cD (ai (U 2) aE)))))),?_⟩
  refine cZ (fun aA I=>ac H I/\∃ ck,H ck=none/\I ck=some (.lst (aW []))/\aA=[~~~wl,~~~bF,~~~ck,none,none,none]) (fun b3 bJ=>?_) fun cN aJ=>?_
  .nofun;exact ⟨fk _,fun ck fp=>bJ _ _ ⟨bp fp,ck,fp,db,rfl⟩⟩
  rintro gg H1 ⟨s1,ck,fp,dk,rfl⟩;subst aJ;refine cZ (fun aA I=>ac H I/\I ck=some (.lst (aW ((gC ds ay).map (dV cE))))/\∃ fV dD eE,aA=[~~~wl,~~~bF,~~~ck,fV,dD,eE]) (fun b3 bJ=>?_) fun cN aJ=>?_
  .nofun;refine ⟨⟨_,aD.of (s1 _ _ mV.at_)⟩,?_⟩;refine dP.list (xs:=qs.map V.ref) (fun i σ I=>ac H I/\I ck=some (.lst (aW ((gC ds (ay.take i)).map (dV cE))))/\∃ fV dD eE,σ=[~~~wl,~~~bF,~~~ck,fV,dD,eE]) ?_ ?_ ?_ ?_
   .exact ⟨s1,by rw [o5];exact dk,_,_,_,rfl⟩
   .rintro i σ I ah ⟨bQ,_⟩;exact aD.of (bQ _ _ mV.at_)
   .rintro i v σ I aK bh;ac_rfl
    obtain ⟨bQ,dZ,fV,dD,eE,rfl⟩:=bh;obtain ⟨pR,gM,rfl⟩:=cA aK;have ah:i < ay.length:=by rw [<- mV.cy];exact (b6.mp gM).1
    have tD:ay[i]? = some ay[i]:=a' ah;have qc:ms[i]? = some (ms[i]'(by rw [mV.c1];exact ah)):=a' _;obtain ⟨au,aI⟩:=mV.al i pR _ _ gM qc tD;subst aJ;generalize ms[i]'(by rw [mV.c1];exact ah)=m at qc au aI;generalize ajY:ay[i]=s at tD au aI;obtain ⟨SV,Mj,bne,Bs,s7⟩:=X.bd s (cB tD);have af:=u' (n:=s.lo) (by omega) (by omega);have ao:=u' (n:=s.ah) (by omega) (by omega);have t1:(aa "stage ").length=6:=by ac_nf
    have gn:(aa " ").length=1:=by ac_nf
    have jT:∀ y ∈ eH ds s,y.length <= 8:=fun y a7=>by
     obtain ⟨k,aB,rfl⟩:=cp.mp a7;obtain ⟨d,hd⟩:=s7 k aB;unfold hP;rw [hd];exact X.nm d (cB hd)
    have i6:(dV cE (eH ds s)).length <= 100:=by
     have:=ot cE 8 (eH ds s) jT;rw [pf] at this;have aM:(eH ds s).length=s.d5.length:=by unfold eH;rw [aU]
     have:(eH ds s).length * 9 <= 72:=by omega
     omega
    nofun;refine ⟨_,cM.of (bQ _ _ au),rfl,_,_,rfl,_,_,rfl,_,_,rfl,rfl,.inl ⟨_,aD.of dZ⟩,_,rfl,O3 (by omega),wD _ (by rw [t1];omega),wD _ (by simp only [nS,t1,gn];omega),_,rfl,O3 (by omega),wD _ (by simp only [nS,t1,gn];omega),wD _ (by simp only [nS,t1,gn];omega),m,rfl,⟨_,aD.of (bQ _ _ aI)⟩,?_⟩;refine da.lg (xs:=s.d5.map fun k:Nat=>V.int k) (zs:=aW (eH ds s)) (aD.of (bQ _ _ aI)) (c4 (show (s.d5.map fun k:Nat=>V.int k).length <= 8 by rw [aU];exact Bs) (by decide)) (by rw [fo,aU];unfold eH;rw [aU]) (fun l v z N aK aQ bu=>?_) (fun pl cY=>?_)
    .obtain ⟨k,aB,rfl⟩:=cA aK;unfold aW eH at aQ;obtain ⟨y,a7,rfl⟩:=cA aQ;obtain ⟨ro,gv,rfl⟩:=cA a7;rw [aB] at gv;cases gv;obtain ⟨d,hd⟩:=s7 k (cB aB);obtain ⟨oc,aco,eq⟩:=vI k d hd;have Yk:hP ds k=d.name:=by unfold hP;rw [hd];rfl
     rw [Yk] at bu;nofun;exact ⟨Sub.name,_,aD.of (bQ _ _ cy),_,aco,_,rfl,_,cM.of (bQ _ _ eq),_,cg (j:=1) rfl,bu⟩
    .have l_:(eH ds s).length <= 8:=by unfold eH;rw [aU];exact Bs
     refine ⟨pl,rfl,eH ds s,aD.of db,?_,?_⟩
     .have:=zx jT;rw [gn];omega
     .rw [show o3 (aa " ") (eH ds s)=dV cE (eH ds s) from uA _ _];have sQ:=Ts ds s bne;have ha:(aW ((gC ds (ay.take i)).map (dV cE))).length <= 8:=by
       unfold aW gC;rw [aU,aU,aU,hq];omega
      refine ⟨wD _ (by simp only [nS,t1,gn];omega),_,(bp cY) _ _ dZ,hp ha (by decide),(bQ.trans (bp cY)).fC fp,?_,?_⟩
      .rw [db,sQ,ov,tD];unfold gC aW;rw [fz,fz,fz];rfl
      .repeat (first | exact ⟨_,rfl⟩ | refine ⟨⟨_,rfl⟩,?_⟩)
   .rintro σ I bh;ac_rfl
    obtain ⟨bQ,dZ,fV,dD,eE,rfl⟩:=bh;subst aJ;rw [aU,mV.cy,iq] at dZ;exact bJ _ _ ⟨bQ,dZ,_,_,_,rfl⟩
  rintro cC az ⟨s2,dZ,fV,dD,eE,rfl⟩;subst aJ;nofun;have jb:∀ y ∈ (gC ds ay).map (dV cE),y.length <= 200:=fun y a7=>by
   obtain ⟨r,eP,rfl⟩:=cp.mp a7;obtain ⟨s,ax,rfl⟩:=cp.mp eP;obtain ⟨SV,Mj,bne,Bs,s7⟩:=X.bd s ax;have af:=u' (n:=s.lo) (by omega) (by omega);have ao:=u' (n:=s.ah) (by omega) (by omega);have jT:∀ y ∈ hF ds s,y.length <= 8:=fun y a7=>by
    unfold hF at a7;rcases f5.mp a7 with z | z
    .have z:y=aa "stage" \/ y=num s.lo\/y=num s.ah:=by simpa using z
     rcases z with rfl | rfl | rfl
     .ac_nf
     .exact c4 af (by decide)
     .exact c4 ao (by decide)
    .obtain ⟨k,aB,rfl⟩:=cp.mp z;obtain ⟨d,hd⟩:=s7 k aB;unfold hP;rw [hd];exact X.nm d (cB hd)
   have:=ot cE 8 (hF ds s) jT;rw [pf] at this;have aM:(hF ds s).length <= 11:=by
    unfold hF eH;rw [c6,aU];show 3 + s.d5.length <= 11;omega
   omega
  refine ⟨_,aD.of dZ,?_,?_⟩
  .have:=zx jb;rw [show (aa "\n").length=1 by ac_nf];have aM:((gC ds ay).map (dV cE)).length <= 8:=by
    unfold gC;rw [aU,aU];exact adI
   omega
  .rw [show o3 (aa "\n") ((gC ds ay).map (dV cE))=dV nl ((gC ds ay).map (dV cE)) from uA _ _];exact q _ s2
 .obtain ⟨wl,ds,bF,qs,ms,ay,rfl,L,mV,X,bE,q⟩:=h;exact ⟨bE,wl,ds,bF,qs,ms,ay,rfl,L,mV,X,fun I bQ=>⟨bQ,q⟩⟩
noncomputable def l2 (ds:List a0) (s:gu):ST:=⟨s.lo,s.ah,eH ds s⟩
noncomputable def Db (ds:List a0) (ay:List gu):List ST:=ay.map (l2 ds)
theorem j3 (h:ds[i]? = some d):hP ds i=d.name:=by unfold hP;rw [h];rfl
theorem Bk (aG:(ds.map (·.name)).Nodup) (ah:i < ds.length) (aO:j < ds.length) (e:hP ds i=hP ds j):i=j:=by
 rw [j3 (a' ah),j3 (a' aO)] at e;exact r_ aG ah aO (by rw [l1 (a' ah),l1 (a' aO)];exact e)
structure dr (n:Int) (ds:List a0) (ay:List gu):Prop where
 aG:(ds.map (·.name)).Nodup
 kj:w8 n ds ay
 Gw:ds.length <= 6
 cy:1 <= ds.length
 ok:∀ d ∈ ds,oO n d
theorem dr.d8 (h:dr n ds ay):(ay.map (·.d5)).flatten.Nodup:=h.kj.bf.pm.nodup_iff.mpr List.nodup_range
theorem dr.lt (h:dr n ds ay) (ax:s ∈ ay) (ah:i ∈ s.d5):i < ds.length:=h.kj.bf.lt (cp.mpr ⟨s,ax,rfl⟩) ah
theorem dr.len (h:dr n ds ay):ay.length <= 6:=by
 have:=h.kj.bf.len.1;rw [aU] at this;have:=h.Gw;omega
theorem dr.jZ (h:dr n ds ay):HG ds ay:=by
 refine ⟨by have:=h.len;omega,fun s ax=>?_,fun d hd=>((tj (h.ok d hd).nm).1).2⟩;have b:=h.kj.bd s ax;have hm:s.d5 ∈ ay.map (·.d5):=cp.mpr ⟨s,ax,rfl⟩;have bg:=h.kj.bf.Gz hm;have:=h.Gw;exact ⟨⟨by omega,by omega⟩,⟨by omega,by omega⟩,h.kj.bf.ne _ hm,by omega,fun i ah=>⟨_,a' (h.lt ax ah)⟩⟩
theorem dr.TQ (h:dr n ds ay) (ax:s ∈ ay):(eH ds s).Nodup:=by
 have ag:s.d5.Nodup:=h.d8.sublist (abu (cp.mpr ⟨s,ax,rfl⟩));unfold eH;refine List.pairwise_map.mpr (akl (fun {a b} aX ae mO e=>?_) ag);exact mO (Bk h.aG (h.lt ax aX) (h.lt ax ae) e)
theorem dr.told (h:dr n ds ay) (ax:ay[i]? = some s) {x:Str} (ag:x ∈ eH ds s):told (Db ds (ay.take i)) x=false:=by
 cases e:My.told (Db ds (ay.take i)) x with
 | false=>rfl
 | true=>
  exfalso;unfold My.told at e;obtain ⟨r,ak,aw⟩:=p6.mp e;obtain ⟨aj,nI,rfl⟩:=cp.mp ak;have aw:x ∈ eH ds aj:=by simpa [l2] using aw
  obtain ⟨k,aB,rfl⟩:=cp.mp ag;obtain ⟨ro,gv,u_⟩:=cp.mp aw;have:=Bk h.aG (h.lt (sV nI) gv) (h.lt (cB ax) aB) u_;subst this;obtain ⟨ah,tD⟩:=b6.mp ax;have hf:=h.d8;rw [<- Rj i ay,fz,abv,q8 ah,tD,eV,ti] at hf;exact (CN.mp hf).2.2 ro (Qf.mpr ⟨aj.d5,cp.mpr ⟨aj,nI,rfl⟩,gv⟩) ro (pg _ aB) rfl
theorem J7:∀ {r:List Str} {j:Nat} {ms:List Str},(∀ x ∈ r,x ∈ alike)->(ms ++ r).Nodup->dL alike r j ms=.ok (ms ++ r)
 | [],j,ms,_,_=>by
  show pF ms=_;rw [z3]
 | x :: r,j,ms,aX,aT=>by
  unfold dL;have ag:x ∉ ms:=fun z=>(CN.mp aT).2.2 x z x (l4 ..) rfl
  rw [if_pos ⟨aX x (l4 ..),ag⟩,J7 (fun y a7=>aX y (hL _ a7)) (by rw [o8];exact aT),o8];rfl
theorem dr.left (h:dr n ds ay) (ax:ay[i]? = some s) {x:Str} (ag:x ∈ eH ds s):x ∈ gE ds (Db ds (ay.take i)):=by
 unfold gE;refine lT.mpr ⟨?_,by rw [h.told ax ag];rfl⟩;obtain ⟨k,aB,rfl⟩:=cp.mp ag;have gv:=h.lt (cB ax) aB;rw [j3 (a' gv)];exact cp.mpr ⟨_,jg gv,rfl⟩
theorem dr.aca (h:dr n ds ay) (ax:ay[i]? = some s):pp ds (Db ds (ay.take i)) (hF ds s)=.ok (l2 ds s):=by
 have hm:=cB ax;have b:=h.kj.bd s hm;have b4:=h.kj.bf.ne s.d5 (cp.mpr ⟨s,hm,rfl⟩);obtain ⟨k,r,aw⟩:=sx b4;have jT:eH ds s=hP ds k :: r.map (hP ds):=by unfold eH;rw [aw];rfl
 have hw:hF ds s=aa "stage" :: num s.lo :: num s.ah :: hP ds k :: r.map (hP ds):=by unfold hF;rw [jT];rfl
 have cK:lp ds (gE ds (Db ds (ay.take i))) (hF ds s)=.ok (eH ds s):=by
  have hf:hP ds k ∈ eH ds s:=by rw [jT];exact l4 ..
  have a_:aC (hF ds s) 3=hP ds k:=by rw [hw];rfl
  have cL:(hF ds s).drop 4=r.map (hP ds):=by rw [hw];rfl
  unfold lp;rw [a_,cL,if_pos (h.left ax hf),J7 (fun x ag=>?_) (by have:=h.TQ hm;rw [jT] at this;exact this),jT]
  .rfl
  .have AS:x ∈ eH ds s:=by rw [jT];exact hL _ ag
   refine lT.mpr ⟨h.left ax AS,decide_eq_true ?_⟩;obtain ⟨dQ,S_,rfl⟩:=cp.mp ag;have Gb:dQ ∈ s.d5:=by rw [aw];exact hL _ S_
   have SF:k ∈ s.d5:=by rw [aw];exact l4 ..
   have cy:=a' (h.lt hm SF);have c1:=a' (h.lt hm Gb);have al:=h.kj.bf.al s.d5 (cp.mpr ⟨s,hm,rfl⟩) dQ Gb k SF _ _ c1 cy;show (h6 ds (hP ds dQ)).map hZ=(h6 ds (hP ds k)).map hZ;rw [j3 cy,j3 c1,iN h.aG cy,iN h.aG c1];have:=sn.mp al;show some (hZ _)=some (hZ _);unfold hZ;by_cases c:(ds[dQ]'(h.lt hm Gb)).k=2
   .rw [if_pos c,if_pos (this.mp c)]
   .rw [if_neg c,if_neg (fun z=>c (this.mpr z))]
 have h0:aC (hF ds s) 0=aa "stage" := by rw [hw];rfl
 have af:aC (hF ds s) 1=num s.lo:=by rw [hw];rfl
 have ao:aC (hF ds s) 2=num s.ah:=by rw [hw];rfl
 have au:kd (num s.lo) 1 60=some s.lo:=Kc (pV (by omega) (by omega) (by omega) (by omega));have aI:kd (num s.ah) s.lo 60=some s.ah:=Kc (pV (by omega) (by omega) (by omega) (by omega));unfold pp;rw [h0,af,ao,cK,if_pos (eC.mpr rfl),au];show (kd (num s.ah) s.lo 60).elim _ _=_;rw [aI];rfl
theorem dr.parse (h:dr n ds ay):∀ (m i:Nat),ay.length - i=m->i <= ay.length->qZ ds ((gC ds ay).drop i) i (Db ds (ay.take i))=.ok (Db ds ay)
 | 0,i,hm,ah=>by
  have:i=ay.length:=by omega
  subst this;have aM:(gC ds ay).length=ay.length:=by unfold gC;rw [aU]
  rw [<- aM,uE,aM,iq];rfl
 | m + 1,i,hm,ah=>by
  have e7:i < ay.length:=by omega
  have ax:ay[i]? = some ay[i]:=a' e7;have aM:i < (gC ds ay).length:=by unfold gC;rw [aU];exact e7
  have bg:(gC ds ay)[i]=hF ds ay[i]:=(b6.mp (show (gC ds ay)[i]? = some (hF ds ay[i]) by unfold gC;rw [dm,ax];rfl)).2;rw [q8 aM,bg];unfold qZ;have ia:=h.len;rw [if_neg (by unfold Db;rw [aU,hq];omega),h.aca ax];have b9:=h.parse m (i + 1) (by omega) e7;rw [jC ax] at b9;unfold Db at b9 ⊢;rw [fz] at b9;exact b9
theorem dr.none (h:dr n ds ay):(gE ds (Db ds ay)).head? = si/\tT ds (Db ds ay)=si/\s_ n ds (Db ds ay)=si:=by
 refine ⟨?_,?_,?_⟩
 .have:gE ds (Db ds ay)=[]:=by
   unfold gE;refine NF.mpr fun x ag=>?_
   obtain ⟨d,hd,rfl⟩:=cp.mp ag;obtain ⟨k,aB⟩:=jv hd;have tA:=(b6.mp aB).1;have hf:=h.kj.bf.pm.mem_iff.mpr (om.mpr tA);obtain ⟨g,bg,TR⟩:=Qf.mp hf;obtain ⟨s,ax,rfl⟩:=cp.mp bg;have:My.told (Db ds ay) d.name=true:=by
    unfold My.told;refine p6.mpr ⟨l2 ds s,cp.mpr ⟨s,ax,rfl⟩,?_⟩;have:d.name ∈ eH ds s:=cp.mpr ⟨k,TR,j3 aB⟩;simpa [l2] using this
   rw [this];simp
  rw [this];rfl
 .unfold tT;refine DN.mpr fun d hd=>?_
  unfold wM;cases aB:et (Db ds ay) d.name with
  | none=>rfl
  | some k=>
   rw [uN];cases ak:(Db ds ay)[k]? with
   | none=>rfl
   | some r=>
    rw [uN];have ag:My.told (Db ds ay) d.name=true:=by
     have:=Nr (Db ds ay) d.name;rw [<- this];unfold et at aB;cases e:cu (gJ ((Db ds ay).map (·.mem))) (bc d.name) with
     | none=>rw [e] at aB;cases aB
     | some v=>rfl
    obtain ⟨ro,dj,_,gv,eP,hm⟩:=lG ag;rw [aB] at gv;cases gv;rw [ak] at eP;cases eP;obtain ⟨s,ax,rfl⟩:=cA ak;obtain ⟨i,ah,A8⟩:=cp.mp hm;have SJ:=cB ax;have ha:=h.lt SJ ah;rw [j3 (a' ha)] at A8;obtain ⟨j,aO⟩:=jv hd;have:i=j:=r_ h.aG ha (b6.mp aO).1 (by rw [l1 (a' ha),l1 aO,A8]);subst this;have:=h.kj.le s SJ i ah d aO;show (if s.lo < d.least then some (d,k) else si)=si;rw [if_neg (show ¬ s.lo < d.least by omega)]
 .unfold s_;refine DN.mpr fun e he=>?_
  obtain ⟨r,k⟩:=e;have ak:r ∈ Db ds ay:=List.fst_mem_of_mem_zipIdx he;obtain ⟨s,ax,rfl⟩:=cp.mp ak;unfold qW;refine DN.mpr fun x ag=>DN.mpr fun y a7=>?_
  obtain ⟨i,ah,rfl⟩:=cp.mp ag;obtain ⟨j,aO,rfl⟩:=cp.mp a7;unfold ni;rw [if_neg];rintro ⟨ff,eT⟩;have li:=a' (h.lt ax ah);have CI:=a' (h.lt ax aO);unfold lC at eT;rw [j3 li,j3 CI,iN h.aG li,iN h.aG CI] at eT;have:=h.kj.bf.t8 s.d5 (cp.mpr ⟨s,ax,rfl⟩) i ah j aO (fun z=>ff (by rw [z])) _ _ li CI;replace eT:mt n _ _=true:=eT;rw [this] at eT;cases eT
def LJ (P:Program) (w:World) (t:bR):bN:=fun vs H Q _=>∃ c n ds ay,vs=[.ref c,.str (qq ds ay)]/\fu t H c n ds/\(4 <= n/\n <= 99)/\dr n ds ay/\aP H/\∀ a I,ac H I->aP I->hh P w t I a c n ds (Db ds ay)->Q (.ref a) I
theorem dr.plain (h:dr n ds ay):∀ r ∈ gC ds ay,r ≠ []/\r.length <= 11/\∀ x ∈ r,ow x:=fun r ak=>by
 obtain ⟨s,ax,rfl⟩:=cp.mp ak;obtain ⟨SV,Mj,bne,Bs,s7⟩:=h.jZ.bd s ax;refine ⟨by unfold hF;simp,?_,fun x ag=>?_⟩
 .unfold hF eH;rw [c6,aU];show 3 + s.d5.length <= 11;omega
 .unfold hF at ag;rcases f5.mp ag with z | z
  .have z:x=aa "stage" \/ x=num s.lo\/x=num s.ah:=by simpa using z
   rcases z with rfl | rfl | rfl
   .unfold ow;ac_nf
   .exact kx (by omega) (by omega)
   .exact kx (by omega) (by omega)
  .obtain ⟨k,aB,rfl⟩:=cp.mp z;obtain ⟨d,hd⟩:=s7 k aB;rw [j3 hd];exact Cp (h.ok d (cB hd)).nm
theorem dr.rows (h:dr n ds ay) (b4:ay ≠ []):gX (qq ds ay)=gC ds ay:=by
 unfold qq;exact SU (by unfold gC;simpa using b4) (fun r ak=>(h.plain r ak).1) (fun r ak=>(h.plain r ak).2.2)
theorem dr.ne (h:dr n ds ay):ay ≠ []:=fun e=>by
 have:=h.kj.bf.len.2;rw [e] at this;simp at this;have:=h.cy;omega
theorem dr.txt (h:dr n ds ay):(qq ds ay).length <= 20000:=by
 have jb:∀ y ∈ (gC ds ay).map (dV cE),y.length <= 200:=fun y a7=>by
  obtain ⟨r,ak,rfl⟩:=cp.mp a7;obtain ⟨_,ao,a_⟩:=h.plain r ak;have:=ot cE 8 r fun x ag=>(a_ x ag).1
  rw [pf] at this;omega
 have:=ot nl 200 _ jb;rw [uh,aU] at this;have aM:(gC ds ay).length <= 6:=by unfold gC;rw [aU];exact h.len
 unfold qq;omega
theorem V4:cv P base T 7 t.u4 t.uf vM (LJ P w t):=by
 refine (adV T).imp fun vs H Q E h=>?_
 obtain ⟨c,n,ds,ay,rfl,C,aT,X,bE,q⟩:=h;obtain ⟨ff,eT,Oy⟩:=X.none;have b4:∀ d ∈ ds,d.name ≠ aa "" := fun d hd e=>by
  have h:=(tj (X.ok d hd).nm).1.1;rw [e] at h;exact absurd h (by ac_nf)
 have bJ:wb ds:=fun d hd=>by
  obtain ⟨af,ao⟩:=tj (X.ok d hd).nm;exact ⟨⟨c4 af.2 (by decide),fun c aw=>by have:=ao c aw;omega⟩,(X.ok d hd).k,(X.ok d hd).of.1,by have:=(X.ok d hd).of;omega⟩
 have av:=X.parse ay.length 0 rfl (fk _);rw [UT,o5,show Db ds []=[] from rfl] at av;refine ⟨c,n,ds,_,_,rfl,C,by omega,bJ,b4,X.txt,by rw [X.rows X.ne];unfold gC;rw [aU];have:=X.len;omega,fun r ak=>?_,bE,by rw [X.rows X.ne];exact av,Wq.mp ff,eT,Oy,fun a I aj jr el=>q a I aj jr el⟩;rw [X.rows X.ne] at ak;obtain ⟨af,ao,a_⟩:=X.plain r ak;exact ⟨af,by omega,fun y a7=>c4 (a_ y a7).1 (by decide)⟩
theorem Qa (aG:(ds.map (·.name)).Nodup) (ax:∀ i ∈ s.d5,i < ds.length) {k:Nat} (aB:ds[k]? = some d):d.name ∈ eH ds s↔k ∈ s.d5:=by
 have tA:=(b6.mp aB).1;refine ⟨fun h=>?_,fun h=>cp.mpr ⟨k,h,j3 aB⟩⟩;obtain ⟨j,aO,e⟩:=cp.mp h;rw [<- j3 aB] at e;rw [<- Bk aG (ax j aO) tA e];exact aO
theorem ahF (h0:0 <= i) (af:i < 4):∃ r:Int,(2 <= r/\r <= 20)/\fH [V.int 2,V.int 4,V.int 9,V.int 20] i=some (.int r):=by
 have:i=0\/i=1\/i=2\/i=3:=by omega
 rcases this with rfl | rfl | rfl | rfl
 .exact ⟨2,by decide,cg (j:=0) rfl⟩
 .exact ⟨4,by decide,cg (j:=1) rfl⟩
 .exact ⟨9,by decide,cg (j:=2) rfl⟩
 .exact ⟨20,by decide,cg (j:=3) rfl⟩
def PH (K:ba) (a:Addr) (ns:List Int):bN:=fun vs H Q _=>∃ (turn:Int) (wl:Addr) (ds:List a0),vs=[.ref a,.int turn,.ref wl]/\Sc K a ns H/\(0 <= turn/\turn <= 100)/\iE H wl ds/\ds.length <= 12 /\
 ∀ p xs I,ac H I->aP I->H p=none->I p=some (.lst (aW xs))->xs.length <= 13->(∀ x ∈ xs,x ∈ ds.map (·.name))->Q (.ref p) I
theorem Yz (a:Addr) (ns:List Int) (hv:ns.length <= 63):cv P base T 2 t.zf t.AO yg (PH K a ns):=by
 refine cG (GU T a ns hv) fun fe=>?_;exists T.CE.ok zB,9
 obtain ⟨turn,wl,ds,rfl,S,alk,U2,gx,q⟩:=h;obtain ⟨qs,rC,R8,xM⟩:=U2;refine ⟨_,(aR (b2 (i:=3) zB.aG (bX dE (fg (ai aL (ai aL (ai aL (ai aL aE))))) (cf fe ak T.fA T.fc.bK T.fw (ai (U 0) (ai aL (ai aL aE))))))
   (aR (b2 (i:=4) zB.aG (fg aE))
   (aR (be fm rfl (l8 rfl T.lJ (ai (fq g0 rfl T.gU gK (ai (U 2) aE)) aE)) (cz (i:=5) zB.aG) (a5 (dI (cP eo (cf fe ak T.fA T.fc.bK T.fw (ai (U 0) (ai (bD d2 (bD d2 aL (bD jq aL (U 1))) (U 5)) (ai (U 3) aE)))) aL (cm _)) (a5 (en (gk iM Dq QG GD (U 4) (ai (cf fe ak T.fA T.fc.bK T.fw (ai (U 0) (ai (bD d2 (bD d2 aL (U 1)) (bD jq aL (U 5))) (ai (bD d2 (fq g0 rfl T.gU gK (ai (U 4) aE)) aL) aE)))) (ai (bX eK (bX dE (U 2) (U 5)) aL) aE))))) eh)))
   (aR (dI (fj.pt (iD (cP kz (fq g0 rfl T.gU gK (ai (U 4) aE)) aL (cm _)) (jA (cP eo (cf fe ak T.fA T.fc.bK T.fw (ai (U 0) (ai (bD d2 aL (U 1)) (ai aL aE)))) aL (cm _))))) (a5 (en (gk iM kO kT ks (U 4) (ai (bX dE (U 4) aL) aE)))) eh)
   (a5 (cj (U 4))))))),?_⟩
 refine cZ (fun aA I=>ac H I/\Sc K a ns I/\∃ oY:Int,(2 <= oY/\oY <= 20)/\aA=[~~~a,some (.int turn),~~~wl,some (.int oY),none,none]) (fun b3 bJ=>?_) fun cN aJ=>?_
 ·(nofun; repeat (dsimp only [iI];nofun));refine ⟨by decide,fun p av=>⟨S.new av,by decide,by decide,by decide,?_⟩⟩;obtain ⟨r,adU,aa4⟩:=ahF (ce ns 4 (m:=4) (by decide)) (hx ns 4 (m:=4) (by decide));exact ⟨_,aD.of db,_,aa4,bJ _ _ ⟨bp av,S.new av,r,adU,rfl⟩⟩
 rintro gg H1 ⟨s1,k_,oY,lr,rfl⟩;subst aJ;refine cZ (fun aA I=>ac H I/\Sc K a ns I/\∃ p,H p=none/\I p=some (.lst (aW []))/\aA=[~~~a,some (.int turn),~~~wl,some (.int oY),~~~p,none]) (fun b3 bJ=>?_) fun cN aJ=>?_
 .nofun;exact ⟨by decide,fun p av=>bJ _ _ ⟨s1.trans (bp av),k_.new av,p,s1.free av,db,rfl⟩⟩
 rintro cC az ⟨s2,k1,p,av,d6,rfl⟩;subst aJ;refine cZ (fun aA I=>ac H I/\Sc K a ns I/\∃ xs y,xs.length <= 12/\(∀ x ∈ xs,x ∈ ds.map (·.name))/\I p=some (.lst (aW xs))/\aA=[~~~a,some (.int turn),~~~wl,some (.int oY),~~~p,y]) (fun b3 bJ=>?_) fun cN aJ=>?_
 .have dZ:=s2 _ _ rC;have gO:(qs.map V.ref).length=ds.length:=by rw [aU,R8]
  nofun;refine ⟨_,.inl (aD.of dZ),by omega,by omega,?_⟩;rw [gO,nd];refine dP.range (fun i σ I=>ac H I/\Sc K a ns I/\∃ xs y,xs.length <= i/\(∀ x ∈ xs,x ∈ ds.map (·.name))/\I p=some (.lst (aW xs))/\σ=[~~~a,some (.int turn),~~~wl,some (.int oY),~~~p,y]) ⟨s2,k1,[],_,fk _,fun x ag=>by simp at ag,d6,rfl⟩ ?_ ?_
  .rintro i σ I ah bh;ac_rfl
   obtain ⟨aj,o6,xs,y,iF,jy,jB,rfl⟩:=bh;have hd:=a' ah;have aN:=a' (show i < qs.length by omega);have abG:=aj _ _ (xM i _ _ aN hd);have d_:=aj _ _ rC;have oP:(aW xs).length=xs.length:=fo ..;subst aJ;nofun;refine dy (decide (di ns (400 + 17 * turn + (0 + (i:Int))) oY=0)) (fun hS aV=>?_) (fun ae=>?_) (fun ae=>?_)
   ·(nofun; repeat (dsimp only [iI];nofun));exact ⟨.inr ⟨by omega,by omega⟩,o6,by omega,by omega,by omega,by simpa using aV⟩
   ·(nofun; repeat (dsimp only [iI];nofun));have dv:=ce ns (900 + turn + 5 * (i:Int)) (m:=(xs.length:Int) + 1) (by omega);have ew:=hx ns (900 + turn + 5 * (i:Int)) (m:=(xs.length:Int) + 1) (by omega);refine ⟨.inl ⟨_,aD.of jB⟩,.inl ⟨by omega,by omega⟩,_,.inl (aD.of jB),o6,by omega,by omega,by omega,_,aD.of d_,_,cg (by rw [dm,aN];rfl),_,rfl,_,cM.of abG,_,cg (j:=1) rfl,_,jB,?_⟩;rw [oP];generalize di ns (900 + turn + 5 * (i:Int)) ((xs.length:Int) + 1)=g at dv ew;have e7:g.toNat <= xs.length:=by omega
    have e:(aW xs).take g.toNat ++ V.str ds[i].name :: (aW xs).drop g.toNat=aW (ins xs g.toNat ds[i].name):=by
     unfold aW;rw [GP];rfl
    rw [e];refine ⟨dv,by omega,by omega,hp (show xs.length <= 12 by omega) (by decide),aj.fC av,o6.set jB (by intro _ _ z;cases z),_,by rw [FN e7];omega,fun x ag=>?_,db,_,rfl⟩;rcases lS ag with rfl | ag
    .exact cp.mpr ⟨_,jg ah,rfl⟩
    .exact jy x ag
   .nofun;exact ⟨aj,o6,xs,by omega,jy,jB,_,rfl⟩
  .rintro σ I bh;ac_rfl
   obtain ⟨aj,o6,xs,y,iF,jy,jB,rfl⟩:=bh;subst aJ;exact bJ _ _ ⟨aj,o6,xs,y,by omega,jy,jB,rfl⟩
 rintro gc bk ⟨s3,oV,xs,y,iF,jy,hz,rfl⟩;subst aJ;refine cZ (fun aA I=>ac H I/\Sc K a ns I/\∃ xs y,xs.length <= 13/\(∀ x ∈ xs,x ∈ ds.map (·.name))/\I p=some (.lst (aW xs))/\aA=[~~~a,some (.int turn),~~~wl,some (.int oY),~~~p,y]) (fun b3 bJ=>?_) fun cN aJ=>?_
 .have oP:(aW xs).length=xs.length:=fo ..;nofun;refine dy (decide (0 < xs.length) && decide (di ns (1300 + turn) 7=0)) (fun hS aV=>?_) (fun ae=>?_) (fun ae=>?_)
  ·(nofun; repeat (dsimp only [iI];nofun));refine ⟨_,.inl (aD.of hz),?_⟩;rw [oP];by_cases b_:0 < xs.length
   .rw [if_pos (decide_eq_true (by omega))];rw [decide_eq_true b_,kG] at aV;exact ⟨oV,by omega,by omega,by decide,aV⟩
   .rw [if_neg (by simpa using b_)];rw [decide_eq_false b_,k2] at aV;exact aV
  .nofun;have h0:0 < xs.length:=by
    rw [hy,decide_eq_true_eq] at ae;exact ae.1
   obtain ⟨x,r,rfl⟩:∃ x r,xs=x :: r:=by
    cases xs with
    | nil=>cases h0
    | cons x r=>exact ⟨x,r,rfl⟩
   refine ⟨.inl ⟨_,aD.of hz⟩,_,aD.of hz,_,cg (j:=0) rfl,_,hz,by rw [oP];exact hp iF (by decide),?_⟩;refine bJ _ _ ⟨s3.fC av,oV.set hz (by intro _ _ z;cases z),(x :: r) ++ [x],y,by rw [c6];exact Nat.succ_le_succ iF,fun z aQ=>?_,?_,rfl⟩
   .rcases f5.mp aQ with aQ | aQ
    .exact jy z aQ
    .rw [eC.mp aQ];exact jy x (.head _)
   .rw [db];unfold aW;rw [fz];rfl
  .nofun;exact bJ _ _ ⟨s3,oV,xs,y,by omega,jy,hz,rfl⟩
 rintro lq cJ ⟨s4,i_,xs,y,iF,jy,X8,rfl⟩;subst aJ;nofun;exact q p xs cJ s4 i_.2 av X8 iF jy
noncomputable def mw (ay:List gu) (j:Nat):List Nat:=((ay[j]?).map (·.d5)).getD []
theorem G6 {x:gu} (h:ay[j]? = some x):mw ay j=x.d5:=by unfold mw;rw [h];rfl
noncomputable def SN (ds:List a0) (i:Nat):Bool:=decide ((ds[i]?).map (·.k)=some 2)
noncomputable def Ni (ds:List a0) (ay:List gu) (j:Nat):Bool:=SN ds ((mw ay j).headD 0)
theorem dr.six {n:Int} {ds:List a0} {ay:List gu} (h:dr n ds ay) {j:Nat} (aO:j < ay.length):ay[j].d5 ≠ []/\ay[j].d5.length <= 8:=by
 obtain ⟨_,_,a,b,_⟩:=h.jZ.bd _ (jg aO);exact ⟨a,b⟩
section
variable {n:Int} {ds:List a0} {ay:List gu}
theorem dr.tell (X:dr n ds ay) {d:a0} (hd:d ∈ ds):My.told (Db ds ay) d.name=true:=by
 have h:gE ds (Db ds ay)=[]:=Wq.mp X.none.1;unfold gE at h;have:=NF.mp h d.name (cp.mpr ⟨d,hd,rfl⟩);simpa using this
theorem wC {j k:Nat} (h:k ∈ mw ay j):∃ x,ay[j]? = some x/\k ∈ x.d5:=by
 unfold mw at h;cases e:ay[j]? with
 | none=>rw [e] at h;simp at h
 | some x=>rw [e] at h;exact ⟨x,rfl,h⟩
theorem dr.uniq (X:dr n ds ay) {j i k:Nat} (af:k ∈ mw ay j) (ao:k ∈ mw ay i):j=i:=by
 have half:∀ {a b:Nat},a < b->k ∈ mw ay a->k ∈ mw ay b->False:=fun {a b} mO aX ae=>by
  obtain ⟨x,ag,FR⟩:=wC aX;obtain ⟨y,a7,aaR⟩:=wC ae;have hf:=X.told a7 (x:=hP ds k) (cp.mpr ⟨k,aaR,rfl⟩);have AS:x ∈ ay.take b:=cB (by rw [sq mO];exact ag);have:My.told (Db ds (ay.take b)) (hP ds k)=true:=by
   unfold My.told;refine p6.mpr ⟨l2 ds x,cp.mpr ⟨x,AS,rfl⟩,?_⟩;have hm:hP ds k ∈ eH ds x:=cp.mpr ⟨k,FR,rfl⟩;simpa [l2] using hm
  rw [hf] at this;cases this
 rcases Nat.lt_trichotomy j i with h | h | h
 .exact (half h af ao).elim
 .exact h
 .exact (half h ao af).elim
theorem dr.xx (X:dr n ds ay) {j k:Nat} {d:a0} (hd:ds[k]? = some d):et (Db ds ay) d.name=some j↔k ∈ mw ay j:=by
 obtain ⟨hG,r,_,aB,ix,hm⟩:=lG (X.tell (cB hd));unfold Db at ix;rw [dm] at ix;obtain ⟨x,ag,rfl⟩:=uL.mp ix;have hm:d.name ∈ eH ds x:=hm;have FR:k ∈ x.d5:=(Qa X.aG (fun i ah=>X.lt (cB ag) ah) hd).mp hm;have fY:k ∈ mw ay hG:=by rw [G6 ag];exact FR
 rw [aB];constructor
 .intro e;cases e;exact fY
 .intro h;rw [X.uniq h fY]
theorem dr.sort (X:dr n ds ay) {j:Nat} (aO:j < ay.length):h2 ds (Db ds ay) j=if Ni ds ay j=true then eu else kp:=by
 have ag:=a' aO;obtain ⟨q5,r,e⟩:=sx (X.six aO).1;have iH:q5 ∈ ay[j].d5:=by rw [e];exact .head _
 have jY:=a' (X.lt (jg aO) iH);unfold h2 Db;rw [dm,ag];show dx ds (l2 ds ay[j])=_;unfold dx l2 eH;rw [e,eV,j3 jY];show (((h6 ds _).map hZ).getD _)=_;rw [iN X.aG jY];show hZ _=_;unfold hZ Ni SN;rw [G6 ag,e];show _=if decide ((ds[q5]?).map (·.k)=some 2)=true then eu else kp;rw [jY,BM];by_cases h:(ds[q5]'(X.lt (jg aO) iH)).k=2
 .rw [if_pos h,if_pos (decide_eq_true (congrArg some h))]
 .rw [if_neg h,if_neg (fun z=>h (dh (of_decide_eq_true z)))]
end
theorem Jr {ds:List a0} {ay:List gu} {j:Nat} {x:gu} (h:ay[j]? = some x):(Db ds ay)[j]? = some (l2 ds x):=by unfold Db;rw [dm,h];rfl
theorem iE.ql {H I:aq} {wl:Addr} {ds:List a0} (h:iE H wl ds) (s:ip H I):iE I wl ds:=by
 obtain ⟨qs,au,aI,bO⟩:=h;exact ⟨qs,s.lst au,aI,fun i q d a b=>s.tup (bO i q d a b)⟩
theorem mE.ql {H I:aq} {bF:Addr} {qs ms:List Addr} {ay:List gu} (h:mE H bF qs ms ay) (s:ip H I):mE I bF qs ms ay:=
 ⟨s.lst h.at_,h.cy,h.c1,fun i q m x a b c=>⟨s.tup (h.al i q m x a b c).1,s.lst (h.al i q m x a b c).2⟩⟩
theorem dr.tK {n:Int} {ds:List a0} {ay:List gu} (X:dr n ds ay):ox ds (Db ds ay):=by
 refine ⟨fun d hd=>X.tell hd,fun r ak=>?_,fun r ak=>?_,by have:=X.Gw;omega⟩
 .obtain ⟨x,ag,rfl⟩:=cp.mp ak;show (eH ds x).length <= 12;unfold eH;rw [aU];have:=(X.jZ.bd x ag).2.2.2.1;omega
 .obtain ⟨x,ag,rfl⟩:=cp.mp ak;obtain ⟨j,aO,e⟩:=C5 ag;have:=X.sort aO;unfold h2 at this;rw [Jr (a' aO),e] at this;have this:dx ds (l2 ds x)=_:=this;rw [this];split
  .exact .inl rfl
  .exact .inr rfl
theorem Q5 (d:a0):fH (dJ d) 0=some (.str (dC d.k)):=cg (j:=0) rfl
theorem TY (d:a0):fH (dJ d) 4=some (.int d.off):=cg (j:=4) rfl
theorem PP:aa "car" ≠ aa "foot" := by ac_nf
theorem Gj:aa "car" ≠ aa "tram" := by ac_nf
theorem WP:aa "foot" ≠ aa "tram" := by ac_nf
theorem QJ (x y z:V):i3 [] [(bc (aa "car"),x),(bc (aa "foot"),y),(bc (aa "tram"),z)]=[(bc (aa "car"),x),(bc (aa "foot"),y),(bc (aa "tram"),z)]:=by
 unfold i3;simp only [YF,Yr];rw [qC x (k:=bc (aa "car")) (by rfl),qC y (by simp [cu,PP]),qC z (by simp [cu,Gj,WP])];rfl
theorem acN (aB:d.k < 3):cu (i3 [] [(bc (aa "car"),V.int 1),(bc (aa "foot"),V.int 0),(bc (aa "tram"),V.int 2)]) (bc (dC d.k))=some (.int (dM d)):=by
 rw [QJ];unfold dM
 match h:d.k,aB with
 | 0,_=>simp [cu,dC]
 | 1,_=>simp [cu,dC,PP]
 | 2,_=>simp [cu,dC,Gj,WP]
theorem Tw (aB:d.k < 3):cu (i3 [] [(bc (aa "car"),V.int 2),(bc (aa "foot"),V.int d.off),(bc (aa "tram"),V.int 1)]) (bc (dC d.k))=some (.int (d0 d)):=by
 rw [QJ];unfold d0
 match h:d.k,aB with
 | 0,_=>simp [cu,dC]
 | 1,_=>simp [cu,dC,PP]
 | 2,_=>simp [cu,dC,Gj,WP]
def Vp:bN:=fun vs H Q _=>∃ a d,vs=[.ref a]/\H a=some (.tup (dJ d))/\d.k < 3/\aP H/\Q (.int (dM d)) H
def aaO:bN:=fun vs H Q _=>∃ a d,vs=[.ref a]/\H a=some (.tup (dJ d))/\d.k < 3/\∀ I,ac H I->Q (.int (dM d)) I
def WM:bN:=fun vs H Q _=>∃ a d,vs=[.ref a]/\H a=some (.tup (dJ d))/\d.k < 3/\aP H/\Q (.int (d0 d)) H
def Wv:bN:=fun vs H Q _=>∃ a d,vs=[.ref a]/\H a=some (.tup (dJ d))/\d.k < 3/\∀ I,ac H I->Q (.int (d0 d)) I
theorem ail:cv P base T 1 t.I8 t.FZ pB Vp:=by
 refine cH.forget (sp:=aaO) ?_ fun vs H Q E h=>?_
 .exists T.IE.ok aaI,9
  obtain ⟨a,d,rfl,hw,eO,q⟩:=h;have bq:=g7 ak;refine ⟨_,(a5 (cj (kJ bq (AZ (Uf cD aL (Uf cD aL (Uf cD aL Bv))) rfl rfl (by simp) (by decide)) (bX eK (U 0) aL) (fun _ _=>rfl)))),?_⟩;nofun;simp only [qD];nofun;intro p av;have s2:ac H (upd (upd H p (.bw [])) p (.bw (i3 [] [(bc (aa "car"),V.int 1),(bc (aa "foot"),V.int 0),(bc (aa "tram"),V.int 2)]))):=(bp av).fC av;refine ⟨db,[(bc (aa "car"),V.int 1),(bc (aa "foot"),V.int 0),(bc (aa "tram"),V.int 2)],rfl,by show 3 <= 15;decide,_,cM.of (s2 _ _ hw),_,Q5 d,.int (dM d),?_,q _ s2⟩;have:=gb.k (k:=bc (dC d.k)) (db (H:=upd H p (.bw [])) (a:=p) (o:=.bw (i3 [] [(bc (aa "car"),V.int 1),(bc (aa "foot"),V.int 0),(bc (aa "tram"),V.int 2)])));rw [acN eO] at this;exact this
 .obtain ⟨a,d,rfl,hw,eO,bE,q⟩:=h;exact ⟨bE,a,d,rfl,hw,eO,fun I bQ=>⟨bQ,q⟩⟩
theorem UU:cv P base T 1 t.FD t.DU pB WM:=by
 refine cH.forget (sp:=Wv) ?_ fun vs H Q E h=>?_
 .exists T.Ck.ok abC,9
  obtain ⟨a,d,rfl,hw,eO,q⟩:=h;have bq:=g7 ak;refine ⟨_,(a5 (cj (kJ bq (AZ (Uf cD aL (Uf cD (bX eK (U 0) aL) (Uf cD aL Bv))) rfl rfl (by simp) (by decide)) (bX eK (U 0) aL) (fun _ _=>rfl)))),?_⟩;nofun;simp only [qD];nofun;intro p av;have s0:=bp (o:=.bw []) av;have s2:ac H (upd (upd H p (.bw [])) p (.bw (i3 [] [(bc (aa "car"),V.int 2),(bc (aa "foot"),V.int d.off),(bc (aa "tram"),V.int 1)]))):=s0.fC av;refine ⟨_,cM.of (s0 _ _ hw),_,TY d,db,[(bc (aa "car"),V.int 2),(bc (aa "foot"),V.int d.off),(bc (aa "tram"),V.int 1)],rfl,by show 3 <= 15;decide,_,cM.of (s2 _ _ hw),_,Q5 d,.int (d0 d),?_,q _ s2⟩;have:=gb.k (k:=bc (dC d.k)) (db (H:=upd H p (.bw [])) (a:=p) (o:=.bw (i3 [] [(bc (aa "car"),V.int 2),(bc (aa "foot"),V.int d.off),(bc (aa "tram"),V.int 1)])));rw [Tw eO] at this;exact this
 .obtain ⟨a,d,rfl,hw,eO,bE,q⟩:=h;exact ⟨bE,a,d,rfl,hw,eO,fun I bQ=>⟨bQ,q⟩⟩
noncomputable def cx:Nat->Str
 | 0=>aa "stop"
 | 1=>aa "ready"
 | 2=>aa "free"
 | _=>aa "fade"
theorem u2:∀ {a b:Nat},a < 4->b < 4->cx a=cx b->a=b:=by
 have h:∀ a < 4,∀ b < 4,cx a=cx b->a=b:=by ac_nf
 exact fun {a b} aX ae=>h a aX b ae
noncomputable def dA (n:Int) (ds:List a0) (rows:List ST) (d:a0) (s:dG):Nat:=match s.b0 with
 | some i=>if et rows d.name=some i then 2 else 0
 | none=>if et rows d.name=some s.lf/\s.ct < d0 d then 3 else if et rows d.name=some s.bf/\fJ n ds rows s.lf s.bf - s.ct <= dM d then 1 else 0
theorem u3 {rows:List ST} (d:a0) (s:dG):dA n ds rows d s < 4:=by
 unfold dA;split
 .split <;> decide
 .split
  .decide
  .split <;> decide
theorem DI {rows:List ST} (d:a0) (s:dG):gR n ds rows s d=cx (dA n ds rows d s):=by
 unfold gR dA;cases s.b0 with
 | some i=>
  simp only [q_];split <;> rfl
 | none=>
  simp only [rn];split
  .rfl
  .split <;> rfl
noncomputable def iW (n:Int) (ds:List a0) (rows:List ST) (d:a0) (s:dG):Int:=match s.b0 with
 | some _=>s.cQ
 | none=>if et rows d.name=some s.lf then s.ct + 1 else s.ct - (fJ n ds rows s.lf s.bf - dM d) + 1
def tv (n:Int) (ds:List a0) (rows:List ST) (s:dG):Prop:=s.b0=none->0 <= s.ct/\s.ct < fJ n ds rows s.lf s.bf
def lK (d:a0) (c c':Nat):Prop:=(c=0->c'=if 0 < dM d then 1 else 2)/\(c=1->c'=2)/\(c=2->c'=if 0 < d0 d then 3 else 0)/\(c=3->c'=0)
theorem yj {rows:List ST} (ah:rows[i]? = some r) (aO:rows[j]? = some s) {x:Int} (ag:x ∈ ie n ds r.mem s.mem):x <= fJ n ds rows i j:=by
 obtain ⟨nV,af,ao⟩:=AH (ie n ds r.mem s.mem) (by unfold ie;simp);rw [DF ah aO ⟨af,ao⟩];exact ao x ag
section
variable {n:Int} {ds:List a0} {ay:List gu}
theorem dr.xw (X:dr n ds ay) (ak:(Db ds ay)[g]? = some r) {x:Str} (ag:x ∈ ds.map (·.name)):x ∈ r.mem↔et (Db ds ay) x=some g:=by
 obtain ⟨d,hd,rfl⟩:=cp.mp ag;obtain ⟨k,aB⟩:=jv hd;unfold Db at ak;rw [dm] at ak;obtain ⟨y,a7,rfl⟩:=uL.mp ak;rw [X.xx aB,G6 a7];exact Qa X.aG (fun i ah=>X.lt (cB a7) ah) aB
theorem dr.chg (X:dr n ds ay) {i j:Nat} (ah:i < (Db ds ay).length) (aO:j < (Db ds ay).length) {m:Nat} {d:a0} (hd:ds[m]? = some d) :
  0 <= fJ n ds (Db ds ay) i j/\(et (Db ds ay) d.name=some i->d0 d <= fJ n ds (Db ds ay) i j)/\(et (Db ds ay) d.name=some j->dM d <= fJ n ds (Db ds ay) i j)/\∀ {c3:Nat} {e:a0},ds[c3]? = some e->mt n e d=true->et (Db ds ay) d.name=some j->et (Db ds ay) e.name ≠ some j->e.off - d.near <= fJ n ds (Db ds ay) i j:=by
 have rX:=a' ah;have h_:=a' aO;have qf:∀ {m:Nat} {d:a0},ds[m]? = some d->d.name ∈ ds.map (·.name):=fun h=>cp.mpr ⟨_,cB h,rfl⟩
 refine ⟨yj rX h_ (by unfold ie;simp),fun h=>?_,fun h=>?_,fun {c3 e} he hm fY b4=>?_⟩
 .have ag:=(X.xw rX (qf hd)).mpr h;have e:oH ds d.name=d0 d:=by unfold oH;rw [iN X.aG hd];rfl
  rw [<- e];exact yj rX h_ (by unfold ie;exact pg _ (pg _ (iz _ (cp.mpr ⟨_,ag,rfl⟩))))
 .have ag:=(X.xw h_ (qf hd)).mpr h;have e:qa ds d.name=dM d:=by unfold qa;rw [iN X.aG hd];rfl
  rw [<- e];exact yj rX h_ (by unfold ie;exact pg _ (iz _ (cp.mpr ⟨_,ag,rfl⟩)))
 .have ag:=(X.xw h_ (qf hd)).mpr fY;have a7:e.name ∉ (Db ds ay)[j].mem:=fun z=>b4 ((X.xw h_ (qf he)).mp z)
  have bg:oy ds e.name d.name=if e.off - d.near > 0 then e.off - d.near else 0:=by unfold oy;rw [iN X.aG he,iN X.aG hd]
  have lb:lC n ds e.name d.name=true:=by unfold lC;rw [iN X.aG he,iN X.aG hd];exact hm
  have:=yj (n:=n) (ds:=ds) (x:=oy ds e.name d.name) rX h_ (by
   unfold ie;refine iz _ (List.mem_flatMap.mpr ⟨_,qf he,?_⟩);unfold oI;rw [if_neg a7];exact cp.mpr ⟨_,lT.mpr ⟨ag,lb⟩,rfl⟩)
  rw [bg] at this;split at this <;> omega
theorem Hu (R:ox ds (Db ds ay)) (k:Ev ds (Db ds ay) s) (g:tv n ds (Db ds ay) s) (h:rY n ds (Db ds ay) s own aj) :
  (s.b0=none/\aj.b0=none/\aj.lf=s.lf/\aj.bf=s.bf/\aj.ct=s.ct + 1/\s.ct + 1 < fJ n ds (Db ds ay) s.lf s.bf) \/
  (s.b0=none/\aj.b0=some s.bf/\aj.cQ=1/\s.ct + 1=fJ n ds (Db ds ay) s.lf s.bf) \/
  (∃ i,s.b0=some i/\aj.b0=some i/\aj.cQ=s.cQ + 1) \/
  (∃ i j r,s.b0=some i/\(Db ds ay)[i]? = some r/\r.lo <= s.cQ/\i ≠ j/\i < (Db ds ay).length/\j < (Db ds ay).length/\((aj.b0=none/\aj.lf=i/\aj.bf=j/\aj.ct=0/\0 < fJ n ds (Db ds ay) i j)\/(aj.b0=some j/\aj.cQ=1/\fJ n ds (Db ds ay) i j <= 0))):=by
 rcases h with ⟨h0,r,ak,rfl⟩ | ⟨i,r,ax,ak,gP,rfl⟩ | ⟨i,r,j,h_,ax,ak,gP,P,aO,rfl⟩
 .obtain ⟨g1,g2⟩:=g h0;unfold m_;by_cases c:s.ct + 1 < fJ n ds (Db ds ay) s.lf s.bf
  .rw [if_pos c];exact .inl ⟨h0,h0,rfl,rfl,rfl,c⟩
  .rw [if_neg c];exact .inr (.inl ⟨h0,rfl,rfl,by omega⟩)
 .exact .inr (.inr (.inl ⟨i,ax,ax,rfl⟩))
 .have cS:=k.told R;have hA:i ≠ j:=fun e=>by
   obtain ⟨x,ag,eM⟩:=CZ cS P.1;exact (k.b0 i ax).2 x ag (e ▸ eM)
  have nX:r.lo <= s.cQ:=by
   unfold pQ at gP;rw [sT,sT] at gP;have:=of_decide_eq_false gP.1.2;omega
  refine .inr (.inr (.inr ⟨i,j,r,ax,ak,nX,hA,(b6.mp ak).1,(b6.mp aO).1,?_⟩));unfold m_;by_cases c:(0:Int) < fJ n ds (Db ds ay) i j
  .have c':(oC s i j (dx ds h_)).ct < fJ n ds (Db ds ay) (oC s i j (dx ds h_)).lf (oC s i j (dx ds h_)).bf:=c;rw [if_pos c'];exact .inl ⟨rfl,rfl,rfl,rfl,c⟩
  .have c':¬ (oC s i j (dx ds h_)).ct < fJ n ds (Db ds ay) (oC s i j (dx ds h_)).lf (oC s i j (dx ds h_)).bf:=c;rw [if_neg c'];exact .inr ⟨rfl,rfl,by omega⟩
theorem JX (R:ox ds (Db ds ay)) (k:Ev ds (Db ds ay) s) (g:tv n ds (Db ds ay) s) (h:rY n ds (Db ds ay) s own aj):tv n ds (Db ds ay) aj:=fun aT=>by
 rcases Hu R k g h with ⟨h0,af,ao,a_,cL,ej⟩ | ⟨h0,af,_⟩ | ⟨i,_,af,_⟩ | ⟨i,j,r,_,_,_,_,_,_,h⟩
 .have:=(g h0).1;rw [ao,a_,cL];omega
 .rw [af] at aT;cases aT
 .rw [af] at aT;cases aT
 .rcases h with ⟨_,ao,a_,cL,ej⟩ | ⟨af,_⟩
  .rw [ao,a_,cL];omega
  .rw [af] at aT;cases aT
theorem Yg (d:a0):0 <= dM d:=by unfold dM;split <;> decide
theorem Wy (X:dr n ds ay) {s aj:dG} {own:Bool} (k:Ev ds (Db ds ay) s) (g:tv n ds (Db ds ay) s) (h:rY n ds (Db ds ay) s own aj) {m:Nat} {d:a0} (hd:ds[m]? = some d) :
  (dA n ds (Db ds ay) d aj=dA n ds (Db ds ay) d s->dA n ds (Db ds ay) d s ≠ 0->iW n ds (Db ds ay) d aj=iW n ds (Db ds ay) d s + 1) /\
  (dA n ds (Db ds ay) d aj ≠ dA n ds (Db ds ay) d s->lK d (dA n ds (Db ds ay) d s) (dA n ds (Db ds ay) d aj)/\(dA n ds (Db ds ay) d s=1->dM d <= iW n ds (Db ds ay) d s)/\(dA n ds (Db ds ay) d s=3->d0 d <= iW n ds (Db ds ay) d s)/\(dA n ds (Db ds ay) d s=2->d.least <= iW n ds (Db ds ay) d s)/\(dA n ds (Db ds ay) d aj ≠ 0->iW n ds (Db ds ay) d aj=1)):=by
 have R:=X.tK;have gZ:=Yg d;rcases Hu R k g h with ⟨h0,af,ao,a_,cL,ej⟩ | ⟨h0,af,ao,a_⟩ | ⟨i,h0,af,ao⟩ | ⟨i,j,r,h0,ak,nX,hA,ha,i6,h⟩
 .obtain ⟨a1,a2,eR⟩:=k.ch h0;obtain ⟨e_,ec,hR,_⟩:=X.chg a1 a2 hd;have BH:=(g h0).1;unfold dA iW;rw [h0,af];simp only [ao,a_,cL];generalize fJ n ds (Db ds ay) s.lf s.bf=C at *;by_cases bB:et (Db ds ay) d.name=some s.lf
  .have bT:et (Db ds ay) d.name ≠ some s.bf:=fun z=>eR (dh (bB.symm.trans z))
   have ec:=ec bB;simp only [bB,true_and,if_true];have rH:¬ (some s.lf=some s.bf):=fun z=>eR (dh z)
   simp only [rH,false_and,if_false];by_cases dv:s.ct < d0 d <;> by_cases ew:s.ct + 1 < d0 d <;> simp [dv,ew,lK] <;> omega
  .simp only [bB,false_and,if_false];by_cases bT:et (Db ds ay) d.name=some s.bf
   .simp only [bT,true_and];have hR:=hR bT;by_cases dv:C - s.ct <= dM d <;> by_cases ew:C - (s.ct + 1) <= dM d <;> simp [dv,ew,lK] <;> omega
   .simp only [bT,false_and,if_false];simp
 .obtain ⟨a1,a2,eR⟩:=k.ch h0;obtain ⟨e_,ec,hR,_⟩:=X.chg a1 a2 hd;unfold dA iW;rw [h0,af];simp only [ao];generalize fJ n ds (Db ds ay) s.lf s.bf=C at *;by_cases bB:et (Db ds ay) d.name=some s.lf
  .have rH:¬ (some s.lf=some s.bf):=fun z=>eR (dh z)
   have ec:=ec bB;simp only [bB,rH,true_and,false_and,if_false,if_true];by_cases dv:s.ct < d0 d <;> simp [dv,lK] <;> omega
  .simp only [bB,false_and,if_false];by_cases bT:et (Db ds ay) d.name=some s.bf
   .simp only [bT,true_and,if_true];by_cases dv:C - s.ct <= dM d <;> simp [dv,lK] <;> omega
   .simp only [bT,false_and,if_false];simp
 .unfold dA iW;rw [h0,af];simp only [ao];simp
 .obtain ⟨e_,ec,hR,_⟩:=X.chg ha i6 hd;have hle:et (Db ds ay) d.name=some i->d.least <= s.cQ:=fun eM=>by
   have jT:=(X.xx hd).mp eM;obtain ⟨x,ag,aB⟩:=wC jT;rw [Jr ag] at ak;cases ak;exact T3 (X.kj.le x (cB ag) m aB d hd) nX
  rcases h with ⟨au,aI,bO,eD,gh⟩ | ⟨au,aI,bO⟩
  .unfold dA iW;rw [h0,au];simp only [aI,bO,eD];generalize fJ n ds (Db ds ay) i j=C at *;by_cases bB:et (Db ds ay) d.name=some i
   .have rH:¬ (some i=some j):=fun z=>hA (dh z)
    have ec:=ec bB;have hle:=hle bB;simp only [bB,rH,true_and,false_and,if_false,if_true];by_cases dv:0 < d0 d <;> simp [dv,lK] <;> omega
   .simp only [bB,false_and,if_false];by_cases bT:et (Db ds ay) d.name=some j
    .simp only [bT,true_and];have hR:=hR bT;simp only [Int.sub_zero];by_cases dv:C <= dM d <;> simp [dv,lK] <;> omega
    .simp only [bT,false_and,if_false];simp
  .unfold dA iW;rw [h0,au];simp only [aI];generalize fJ n ds (Db ds ay) i j=C at *;by_cases bB:et (Db ds ay) d.name=some i
   .have rH:¬ (some i=some j):=fun z=>hA (dh z)
    have ec:=ec bB;have hle:=hle bB;simp only [bB,rH,if_false,if_true];simp [lK];omega
   .simp only [bB,if_false];by_cases bT:et (Db ds ay) d.name=some j
    .have hR:=hR bT;simp only [bT,if_true];simp [lK];omega
    .simp only [bT,if_false];simp
theorem Xn (X:dr n ds ay) (k:Ev ds (Db ds ay) s) (g:tv n ds (Db ds ay) s):(dA n ds (Db ds ay) d s=1->iW n ds (Db ds ay) d s <= dM d)/\(dA n ds (Db ds ay) d s=3->iW n ds (Db ds ay) d s <= d0 d):=by
 unfold dA iW;cases h0:s.b0 with
 | some i=>
  constructor <;> intro z <;> dsimp only at z <;> (split at z <;> cases z)
 | none=>
  obtain ⟨g1,g2⟩:=g h0;obtain ⟨a1,a2,eR⟩:=k.ch h0;constructor
  .intro z;dsimp only at z ⊢;split at z
   .cases z
   .rename_i bB;split at z
    .rename_i bT;have:et (Db ds ay) d.name ≠ some s.lf:=fun u=>eR (dh (u.symm.trans bT.1))
     rw [if_neg this];omega
    .cases z
  .intro z;dsimp only at z ⊢;split at z
   .rename_i bB;rw [if_pos bB.1];omega
   .split at z <;> cases z
structure o_ (d:a0) (aH:List (Nat × Int)):Prop where
 vv:∀ (k:Nat) (x y:Nat × Int),aH[k]? = some x->aH[k + 1]? = some y->lK d x.1 y.1/\(x.1=1->dM d <= x.2)/\(x.1=3->d0 d <= x.2)/\(x.1=2->d.least <= x.2)
 up:∀ x ∈ aH,(x.1=1->x.2 <= dM d)/\(x.1=3->x.2 <= d0 d)
 lt:∀ x ∈ aH,x.1 < 4
noncomputable def lD (aH:List (Nat × Int)) (c:Nat):List (Nat × Int):=match aH.getLast? with
 | some x=>if x.1=c then aH.dropLast ++ [(c,x.2 + 1)] else aH ++ [(c,1)]
 | none=>[(c,1)]
noncomputable def gm (cs:List Nat):List (Nat × Int):=cs.foldl lD []
theorem Ml (cs:List Nat) (c:Nat):gm (cs ++ [c])=lD (gm cs) c:=by unfold gm;rw [JA];rfl
theorem o_.same (h:o_ d (bA ++ [(c,a)])) (bq:(c=1->oF <= dM d)/\(c=3->oF <= d0 d)):o_ d (bA ++ [(c,oF)]):=by
 refine ⟨fun k x y ag a7=>?_,fun x ag=>?_,fun x ag=>?_⟩
 .have aB:k < bA.length:=by
   have:=(b6.mp a7).1;rw [c6,ju] at this;omega
  rw [gD aB] at ag;by_cases bT:k + 1 < bA.length
  .rw [gD bT] at a7;exact h.vv k x y (by rw [gD aB];exact ag) (by rw [gD bT];exact a7)
  .have e:k + 1=bA.length:=by omega
   rw [e,i5 (bW _),mU] at a7;cases a7;exact h.vv k x (c,a) (by rw [gD aB];exact ag) (by rw [e,i5 (bW _),mU];rfl)
 .rcases f5.mp ag with z | z
  .exact h.up x (pg _ z)
  .rw [eC.mp z];exact bq
 .rcases f5.mp ag with z | z
  .exact h.lt x (pg _ z)
  .rw [eC.mp z];exact h.lt (c,a) (iz _ (eC.mpr rfl))
theorem o_.new (h:o_ d (bA ++ [(c,a)])) (hf:lK d c c'/\(c=1->dM d <= a)/\(c=3->d0 d <= a)/\(c=2->d.least <= a)) (aM:c' < 4) (bq:(c'=1->1 <= dM d)/\(c'=3->1 <= d0 d)):o_ d (bA ++ [(c,a)] ++ [(c',1)]):=by
 refine ⟨fun k x y ag a7=>?_,fun x ag=>?_,fun x ag=>?_⟩
 .by_cases bT:k + 1 < (bA ++ [(c,a)]).length
  .rw [gD (by omega)] at ag;rw [gD bT] at a7;exact h.vv k x y ag a7
  .have e:k + 1=(bA ++ [(c,a)]).length:=by
    have:=(b6.mp a7).1;rw [c6 (bs:=[(c',1)]),ju] at this;omega
   rw [e,i5 (bW _),mU] at a7;cases a7;have u_:k=bA.length:=by rw [c6,ju] at e;omega
   rw [gD (by omega),u_,i5 (bW _),mU] at ag;cases ag;exact hf
 .rcases f5.mp ag with z | z
  .exact h.up x z
  .rw [eC.mp z];exact bq
 .rcases f5.mp ag with z | z
  .exact h.lt x z
  .rw [eC.mp z];exact aM
def Pe (n:Int) (ds:List a0) (rows:List ST) (u v:dG):Prop:=∃ xs own,Ev ds rows (ra rows u xs)/\rY n ds rows (ra rows u xs) own v
structure Run (n:Int) (ds:List a0) (rows:List ST) (ss:List dG):Prop where
 h0:∀ s,ss[0]? = some s->s.b0=some 0/\s.cQ=1
 b7:∀ (k:Nat) (u v:dG),ss[k]? = some u->ss[k + 1]? = some v->Pe n ds rows u v
theorem Run.snoc {rows:List ST} (h:Run n ds rows (ss ++ [u])) (aK:Pe n ds rows u v):Run n ds rows (ss ++ [u] ++ [v]):=by
 refine ⟨fun s ax=>h.h0 s ?_,fun k x y ag a7=>?_⟩
 .rw [gD (by rw [c6,ju];omega)] at ax;exact ax
 .by_cases bT:k + 1 < (ss ++ [u]).length
  .rw [gD (by omega)] at ag;rw [gD bT] at a7;exact h.b7 k x y ag a7
  .have e:k + 1=(ss ++ [u]).length:=by
    have:=(b6.mp a7).1;rw [c6 (bs:=[v]),ju] at this;omega
   rw [e,i5 (bW _),mU] at a7;cases a7;have u_:k=ss.length:=by rw [c6,ju] at e;omega
   rw [gD (by omega),u_,i5 (bW _),mU] at ag;cases ag;exact aK
theorem Run.wA (X:dr n ds ay) (h:Run n ds (Db ds ay) ss):∀ (k:Nat) (s:dG),ss[k]? = some s->tv n ds (Db ds ay) s
 | 0,s,ax=>fun z=>by rw [(h.h0 s ax).1] at z;cases z
 | k + 1,s,ax=>by
  have aB:k < ss.length:=by have:=(b6.mp ax).1;omega
  obtain ⟨xs,own,af,ao⟩:=h.b7 k _ s (a' aB) ax;have UI:=Run.wA X h k _ (a' aB);exact JX X.tK af UI ao
theorem Run.order (X:dr n ds ay) {ss:List dG} (h:Run n ds (Db ds ay) ss) {m:Nat} {d:a0} (hd:ds[m]? = some d):∀ (k:Nat) (s:dG),ss[k]? = some s->∃ bA a,gm ((ss.take (k + 1)).map (dA n ds (Db ds ay) d))=bA ++ [(dA n ds (Db ds ay) d s,a)]/\o_ d (bA ++ [(dA n ds (Db ds ay) d s,a)])/\(dA n ds (Db ds ay) d s ≠ 0->a=iW n ds (Db ds ay) d s)
 | 0,s,ax=>by
  obtain ⟨au,aI⟩:=h.h0 s ax;refine ⟨[],1,?_,⟨fun k x y ag a7=>?_,fun x ag=>?_,fun x ag=>?_⟩,fun _=>?_⟩
  .rw [jC ax,o5];rfl
  .simp at a7
  .rw [uI,eC] at ag;rw [ag];unfold dA;rw [au];constructor <;> intro z <;> (dsimp only at z;split at z <;> cases z)
  .rw [uI,eC] at ag;rw [ag];exact u3 d s
  .unfold iW;rw [au,aI]
 | k + 1,s,ax=>by
  have aB:k < ss.length:=by have:=(b6.mp ax).1;omega
  have bq:=a' aB;obtain ⟨bA,a,i1,i2,qz⟩:=Run.order X h hd k _ bq;obtain ⟨xs,own,af,ao⟩:=h.b7 k _ s bq ax;have N6:=Run.wA X h k _ bq;have ahj:=JX X.tK af N6 ao;have ZX:=JR X.tK af ao;obtain ⟨bB,bT⟩:=Wy X af N6 ao hd;obtain ⟨sC,yi⟩:=Xn X ZX ahj (d:=d);have eq1:dA n ds (Db ds ay) d (ra (Db ds ay) ss[k] xs)=dA n ds (Db ds ay) d ss[k]:=rfl;have eq2:iW n ds (Db ds ay) d (ra (Db ds ay) ss[k] xs)=iW n ds (Db ds ay) d ss[k]:=rfl;rw [eq1,eq2] at bB bT;have e:gm ((ss.take (k + 1 + 1)).map (dA n ds (Db ds ay) d))=lD (bA ++ [(dA n ds (Db ds ay) d ss[k],a)]) (dA n ds (Db ds ay) d s):=by
   rw [jC ax,fz,<- i1];exact Ml _ _
  rw [e];unfold lD;rw [UQ,ab'];dsimp only;by_cases je:dA n ds (Db ds ay) d ss[k]=dA n ds (Db ds ay) d s
  .rw [if_pos je];rw [je] at i2 qz;refine ⟨bA,a + 1,rfl,i2.same ?_,fun z=>?_⟩
   .constructor
    .intro z;have:=bB je.symm (by rw [je,z];decide);have:=sC z;have:=qz (by rw [z];decide);omega
    .intro z;have:=bB je.symm (by rw [je,z];decide);have:=yi z;have:=qz (by rw [z];decide);omega
   .have:=bB je.symm (by rw [je];exact z);have:=qz z;omega
  .rw [if_neg je];obtain ⟨f1,f2,dY,f4,ea⟩:=bT (eg je);refine ⟨bA ++ [(dA n ds (Db ds ay) d ss[k],a)],1,rfl,i2.new ⟨f1,fun z=>?_,fun z=>?_,fun z=>?_⟩ (u3 d s) ⟨fun z=>?_,fun z=>?_⟩,fun z=>(ea z).symm⟩
   .rw [qz (by rw [z];decide)];exact f2 z
   .rw [qz (by rw [z];decide)];exact dY z
   .rw [qz (by rw [z];decide)];exact f4 z
   .have:=ea (by rw [z];decide);have:=sC z;omega
   .have:=ea (by rw [z];decide);have:=yi z;omega
theorem Dv {rows:List ST} (oi:et rows d.name=some pP):dA n ds rows d s=2↔s.b0=some pP:=by
 unfold dA;cases z:s.b0 with
 | some i=>
  rw [oi];by_cases c:pP=i
  .simp [c]
  .have c':¬ i=pP:=fun z=>c z.symm
   simp [c,c']
 | none=>
  simp only;split
  .simp
  .split <;> simp
structure tR (need:Int) (he:Nat) (ss:List dG) (t:Nat) (L:Int):Prop where
 lt:L < t
 al:∀ s,ss[t]? = some s->(s.b0=some he->need < t - L)/\(s.b0=none->s.bf=he->s.ct + 1 <= t - L)
theorem tR.zero {rows:List ST} (h:Run n ds rows ss) (aT:need <= 99):tR need he ss 0 (-1000):=by
 refine ⟨by decide,fun s ax=>⟨fun _=>by omega,fun z=>?_⟩⟩;rw [(h.h0 s ax).1] at z;cases z
theorem Run.safe (X:dr n ds ay) {ss:List dG} (h:Run n ds (Db ds ay) ss) {m c3:Nat} {d e:a0} (hd:ds[m]? = some d) (he:ds[c3]? = some e) (hm:mt n d e=true) {pP nZ:Nat} (oi:et (Db ds ay) d.name=some pP) (tg:et (Db ds ay) e.name=some nZ) (b4:pP ≠ nZ) {need:Int} (aT:need=max 0 (d.off - e.near)) {t:Nat} {L:Int} {s:dG} (ax:ss[t]? = some s) (S:tR need nZ ss t L):tR need nZ ss (t + 1) (if dA n ds (Db ds ay) d s=2 then t else L):=by
 have eJ:=S.lt;have sZ:=Dv (n:=n) (ds:=ds) (s:=s) oi;refine ⟨by split <;> omega,fun aj nI=>?_⟩;obtain ⟨xs,own,af,ao⟩:=h.b7 t s aj ax nI;have wA:=Run.wA X h t s ax;obtain ⟨k_,k1⟩:=S.al s ax;rcases Hu X.tK af wA ao with ⟨h0,au,aI,bO,eD,gh⟩ | ⟨h0,au,aI,bO⟩ | ⟨i,h0,au,aI⟩ | ⟨i,j,r,h0,ak,nX,hA,ha,i6,eM⟩
 .have h0:s.b0=none:=h0;have bO:aj.bf=s.bf:=bO;have eD:aj.ct=s.ct + 1:=eD;rw [if_neg (by rw [sZ,h0];intro z;cases z)];refine ⟨fun z=>(by rw [au] at z;cases z),fun _ z=>?_⟩;have:=k1 h0 (bO ▸ z);omega
 .have h0:s.b0=none:=h0;have au:aj.b0=some s.bf:=au;have bO:s.ct + 1=fJ n ds (Db ds ay) s.lf s.bf:=bO;rw [if_neg (by rw [sZ,h0];intro z;cases z)];refine ⟨fun z=>?_,fun z=>(by rw [au] at z;cases z)⟩;have tG:s.bf=nZ:=dh (au.symm.trans z);have:=k1 h0 tG;obtain ⟨a1,a2,eR⟩:=af.ch h0;have a1:s.lf < _:=a1;have a2:s.bf < _:=a2;obtain ⟨e_,_,_,o1⟩:=X.chg a1 a2 he;have:=o1 hd hm (by rw [tg,tG]) (by rw [oi,tG];exact fun z=>b4 (dh z));omega
 .have h0:s.b0=some i:=h0;refine ⟨fun z=>?_,fun z=>(by rw [au] at z;cases z)⟩;have ah:i=nZ:=dh (au.symm.trans z);rw [if_neg (by rw [sZ,h0,ah];exact fun z=>b4 (dh z).symm)];have:=k_ (by rw [h0,ah]);omega
 .obtain ⟨e_,_,_,o1⟩:=X.chg ha i6 he;rcases eM with ⟨f1,f2,dY,f4,ea⟩ | ⟨f1,f2,dY⟩
  .refine ⟨fun z=>(by rw [f1] at z;cases z),fun _ _=>?_⟩;rw [f4];split <;> omega
  .refine ⟨fun z=>?_,fun z=>(by rw [f1] at z;cases z)⟩;have aO:j=nZ:=dh (f1.symm.trans z);have:=o1 hd hm (by rw [tg,aO]) (by rw [oi,aO];exact fun z=>b4 (dh z));split <;> omega
end
theorem RE (h:xs[xs.length - 1]? = some v):fH xs (-1)=some v:=by
 have aM:0 < xs.length:=by have:=(b6.mp h).1;omega
 unfold fH mA;rw [if_neg (by decide),if_pos (by omega)];rw [show ((-1 + (xs.length:Int)).toNat)=xs.length - 1 by omega];exact h
structure js (H:aq) (p:Addr) (qs:List Addr) (aH:List (Nat × Int)):Prop where
 at_:H p=some (.lst (qs.map V.ref))
 len:qs.length=aH.length
 al:∀ (i:Nat) (q:Addr) (x:Nat × Int),qs[i]? = some q->aH[i]? = some x->H q=some (.tup [.str (cx x.1),.int x.2])
theorem js.same {p:Addr} {aH:List (Nat × Int)} (h:js H p qs aH) (s:ac H I):js I p qs aH:=
 ⟨s _ _ h.at_,h.len,fun i q x a b=>s _ _ (h.al i q x a b)⟩
theorem js.d5 {H:aq} {p:Addr} {qs:List Addr} {aH:List (Nat × Int)} (h:js H p qs aH) {i:Nat} {x:Nat × Int} (ag:aH[i]? = some x):∃ q,(qs.map V.ref)[i]? = some (.ref q)/\H q=some (.tup [.str (cx x.1),.int x.2]):=by
 have ah:i < qs.length:=by rw [h.len];exact (b6.mp ag).1
 have aN:=a' ah;exact ⟨_,by rw [dm,aN];rfl,h.al i _ x aN ag⟩
theorem js.snoc {p q:Addr} {aH:List (Nat × Int)} (h:js H p qs aH) (au:I p=some (.lst (qs.map V.ref ++ [V.ref q]))) (aI:I q=some (.tup [.str (cx c),.int a])) (bO:∀ b u,b ≠ p->H b=some u->I b=some u):js I p (qs ++ [q]) (aH ++ [(c,a)]):=by
 refine ⟨by rw [au,fz];rfl,by rw [c6,c6,h.len];rfl,fun i ef x aN ag=>?_⟩;by_cases bB:i < qs.length
 .rw [gD bB] at aN;rw [gD (by rw [<- h.len];exact bB)] at ag;have:=h.al i ef x aN ag;exact bO _ _ (b8 this h.at_ (by intro z;cases z)) this
 .have ah:i=qs.length:=by
   have:=(b6.mp aN).1;rw [c6,ju] at this;omega
  subst ah;rw [i5 (bW _),mU] at aN;rw [h.len,i5 (bW _),mU] at ag;cases aN;cases ag;exact aI
theorem js.last {p q:Addr} (h:js H p qs (bA ++ [(c,a)])) (au:I p=some (.lst ((qs.map V.ref).set (qs.length - 1) (V.ref q)))) (aI:I q=some (.tup [.str (cx c),.int b])) (bO:∀ b u,b ≠ p->H b=some u->I b=some u):js I p (qs.set (qs.length - 1) q) (bA ++ [(c,b)]):=by
 have aM:=h.len;rw [c6,ju] at aM;refine ⟨by rw [au,List.map_set],by rw [IA,c6,ju,aM],fun i ef x aN ag=>?_⟩;by_cases bB:i < bA.length
 .rw [A6 (by omega)] at aN;rw [gD bB] at ag;have:=h.al i ef x aN (by rw [gD bB];exact ag);exact bO _ _ (b8 this h.at_ (by intro z;cases z)) this
 .have ah:i=bA.length:=by
   have:=(b6.mp ag).1;rw [c6,ju] at this;omega
  subst ah;rw [show qs.length - 1=bA.length by omega,H8 (by omega)] at aN;rw [i5 (bW _),mU] at ag;cases aN;cases ag;exact aI
theorem Qm (cs:List Nat):(gm cs).length <= cs.length:=by
 have h:∀ (cs:List Nat) (aH:List (Nat × Int)),(cs.foldl lD aH).length <= aH.length + cs.length:=fun cs=>by
  induction cs with
  | nil=>intro aH;exact bW _
  | cons c cs b9=>
   intro aH;refine c4 (b9 _) ?_;have:(lD aH c).length <= aH.length + 1:=by
    unfold lD;split
    .split
     .rw [c6,List.length_dropLast,ju];omega
     .rw [c6,ju];omega
    .exact Nat.le_add_left _ _
   rw [hQ];omega
 have:=h cs [];rw [tX,Y4] at this;exact this
theorem Zt {cs:List Nat} (h:∀ c ∈ cs,c < 4):∀ x ∈ gm cs,x.1 < 4:=by
 have g:∀ (cs:List Nat) (aH:List (Nat × Int)),(∀ c ∈ cs,c < 4)->(∀ x ∈ aH,x.1 < 4)->∀ x ∈ cs.foldl lD aH,x.1 < 4:=fun cs=>by
  induction cs with
  | nil=>intro aH _ hf;exact hf
  | cons c cs b9=>
   intro aH aw hf;refine b9 _ (fun c' h'=>aw c' (.tail _ h')) ?_;have oU:=aw c (.head _);unfold lD;split
   .split
    .intro x ag;rcases f5.mp ag with z | z
     .exact hf x ((List.dropLast_sublist _).subset z)
     .rw [eC.mp z];exact oU
    .intro x ag;rcases f5.mp ag with z | z
     .exact hf x z
     .rw [eC.mp z];exact oU
   .intro x ag;rw [eC.mp ag];exact oU
 exact g cs [] h (fun x ag=>by cases ag)
def Un:bN:=fun vs H Q _=>∃ (bF:Addr) (cs:List Nat),vs=[.ref bF]/\H bF=some (.lst (cs.map fun c=>V.str (cx c)))/\(∀ c ∈ cs,c < 4)/\cs.length <= 1000/\aP H/\∀ p qs I,ac H I->aP I->js I p qs (gm cs)->Q (.ref p) I
theorem Ya:cv P base T 1 t.CJ t.Ic GN Un:=by
 exists T.Cj.ok DW,9
 obtain ⟨bF,cs,rfl,gs,xY,lh,bE,q⟩:=h;have bq:=g7 ak;refine ⟨_,(aR (b2 (i:=1) DW.aG (fg aE))
   (aR (be fm rfl (Gc (U 0)) (cz (i:=2) DW.aG) (a5 (dI (fj.pt (iD (cP kz (fq g0 rfl T.gU gK (ai (U 1) aE)) aL (cm _)) (jA (cP eo (bX eK (bX dE (U 1) (GE tC aL)) aL) (U 2) (cm _))))) (a5 (HA (pz (ai (U 2) (ai (bD d2 (bX eK (bX dE (U 1) (GE tC aL)) aL) aL) aE))) (TP (U 1) (GE tC aL) UK))) (a5 (en (gk iM kO kT ks (U 1) (ai (pz (ai (U 2) (ai aL aE))) aE)))))))
   (a5 (cj (U 1))))),?_⟩
 nofun;refine ⟨fk _,fun p av=>⟨⟨_,aD.of (bp av _ _ gs)⟩,?_⟩⟩;refine dP.list (xs:=cs.map fun c=>V.str (cx c)) (fun i σ I=>ac H I/\aP I/\∃ qs,js I p qs (gm (cs.take i))/\∃ y,σ=[~~~bF,~~~p,y]) ?_ ?_ ?_ ?_
 .exact ⟨bp av,bE.upd,[],⟨db,rfl,fun i q x h=>(by simp at h)⟩,_,rfl⟩
 .rintro i σ I ah ⟨s1,_⟩;exact aD.of (s1 _ _ gs)
 .rintro i v σ I aK bh;ac_rfl
  obtain ⟨s1,cw,qs,F,y,rfl⟩:=bh;obtain ⟨c,aw,rfl⟩:=cA aK;have JE:=xY c (cB aw);have VJ:gm (cs.take (i + 1))=lD (gm (cs.take i)) c:=by rw [jC aw,Ml]
  have dt:=Zt (cs:=cs.take i) (fun c h=>xY c (sV h));have qP:∀ {b:Addr} {u:f6},H b=some u->b ≠ p:=fun {b u} e z=>by rw [z,av] at e;cases e
  subst aJ;rw [VJ];simp only [gd,jI,jX];generalize pZ:gm (cs.take i)=aH at F dt ⊢;have ku:aH.length <= 1000:=by rw [<- pZ];exact c4 (Qm _) (by rw [hq];omega)
  have gO:=F.len;have m2:∀ {r:Addr},I r=none->r ≠ p:=fun {r} ak z=>by rw [z,F.at_] at ak;cases ak
  rcases List.eq_nil_or_concat aH with rfl | ⟨bA,⟨b_,qM⟩,MQ⟩
  .refine dy false (fun hS aV=>?_) (fun aw=>nomatch aw) (fun _=>?_)
   .nofun;refine ⟨_,.inl (aD.of F.at_),?_⟩;rw [if_neg (by rw [aU,gO];decide)];exact aV
   .nofun;refine ⟨oQ ⟨_,aD.of F.at_⟩,by decide,fun r ak=>⟨_,by rw [aF (eg (m2 ak))];exact F.at_,by rw [aU,gO];decide,fun b u e=>?_,cw.upd.upd,_,F.snoc (c:=c) (a:=1) db (by rw [aF (m2 ak)];exact db) (fun b u af e=>by rw [aF af];exact bp ak _ _ e),_,rfl⟩⟩;rw [aF (qP e)];exact (s1.trans (bp ak)) _ _ e
  .rw [List.concat_eq_append] at MQ;subst MQ;have eX:(bA ++ [(b_,qM)])[bA.length]? = some (b_,qM):=by rw [i5 (bW _),mU];rfl
   obtain ⟨kZ,px,rZ⟩:=F.d5 eX;rw [c6,ju] at gO;have mL:fH (qs.map V.ref) (-1)=some (.ref kZ):=RE (by rw [aU,gO,Nat.add_sub_cancel];exact px);have af7:lD (bA ++ [(b_,qM)]) c=if b_=c then bA ++ [(c,qM + 1)] else bA ++ [(b_,qM)] ++ [(c,1)]:=by
    unfold lD;rw [UQ,ab']
   rw [af7];refine dy (decide (b_=c)) (fun hS aV=>?_) (fun ae=>?_) (fun ae=>?_)
   .nofun;refine ⟨_,.inl (aD.of F.at_),?_⟩;rw [if_pos (by rw [aU,gO];exact decide_eq_true (by omega))];refine ⟨_,aD.of F.at_,_,mL,_,rfl,_,cM.of rZ,_,cg (j:=0) rfl,rfl,?_⟩;rw [show decide (V.str (cx b_)=V.str (cx c))=decide (b_=c) from decide_eq_decide.mpr ⟨fun z=>u2 (dt (b_,qM) (iz _ (eC.mpr rfl))) JE (V.str.inj z),fun z=>by rw [z]⟩];exact aV
   .have n0:b_=c:=of_decide_eq_true ae;subst n0;rw [if_pos rfl];nofun;refine ⟨_,aD.of F.at_,_,mL,_,rfl,_,cM.of rZ,_,cg (j:=1) rfl,_,rfl,by decide,fun r ak=>⟨_,by rw [aF (eg (m2 ak))];exact F.at_,qs.length - 1,?_,fun b u e=>?_,cw.upd.upd,_,F.last (c:=b_) (b:=qM + 1) db (by rw [aF (m2 ak)];exact db) (fun b u af e=>by rw [aF af];exact bp ak _ _ e),_,rfl⟩⟩
    .unfold mA;rw [if_neg (by decide),if_pos (by rw [aU];omega),aU];congr 1;omega
    .rw [aF (qP e)];exact (s1.trans (bp ak)) _ _ e
   .have n0:¬ b_=c:=of_decide_eq_false ae;rw [if_neg n0];nofun;refine ⟨oQ ⟨_,aD.of F.at_⟩,by decide,fun r ak=>⟨_,by rw [aF (eg (m2 ak))];exact F.at_,by rw [aU,F.len];exact hp ku (by decide),fun b u e=>?_,cw.upd.upd,_,F.snoc (c:=c) (a:=1) db (by rw [aF (m2 ak)];exact db) (fun b u af e=>by rw [aF af];exact bp ak _ _ e),_,rfl⟩⟩;rw [aF (qP e)];exact (s1.trans (bp ak)) _ _ e
 .rintro σ I bh;ac_rfl
  obtain ⟨s1,cw,qs,F,y,rfl⟩:=bh;subst aJ;rw [aU,iq] at F;nofun;exact q _ qs _ s1 cw F
noncomputable def jc (d:a0):Nat:=if 0 < dM d then 1 else 2
noncomputable def l9 (d:a0):Nat:=if 0 < d0 d then 3 else 0
noncomputable def sU (d:a0):Nat->List Nat
 | 0=>[jc d]
 | 1=>[2]
 | 2=>[l9 d]
 | _=>[0,jc d]
noncomputable def mH (cs:List Nat):List V:=cs.map fun c=>V.str (cx c)
def Y_ (H:aq) (bd:Addr) (d:a0):Prop:=∃ kvs,H bd=some (.bw kvs)/\∀ c < 4,∃ b,cu kvs (bc (cx c))=some (.ref b)/\H b=some (.lst (mH (sU d c)))
theorem ah' (aw:c < 4) (h:lK d c c'):c' ∈ sU d c:=by
 obtain ⟨h0,af,ao,a_⟩:=h
 match c,aw with
 | 0,_=>rw [h0 rfl];exact .head _
 | 1,_=>rw [af rfl];exact .head _
 | 2,_=>rw [ao rfl];exact .head _
 | 3,_=>rw [a_ rfl];exact .head _
theorem lF (aX:a < 4) (ae:b < 4) (h:a ≠ b):cx a ≠ cx b:=fun z=>h (u2 aX ae z)
theorem aeA (x0 cT e' fV:V):i3 [] [(bc (cx 0),x0),(bc (cx 1),cT),(bc (cx 2),e'),(bc (cx 3),fV)]=[(bc (cx 0),x0),(bc (cx 1),cT),(bc (cx 2),e'),(bc (cx 3),fV)]:=by
 have Gu:=lF (a:=0) (b:=1) (by decide) (by decide) (by decide);have Hl:=lF (a:=0) (b:=2) (by decide) (by decide) (by decide);have Er:=lF (a:=0) (b:=3) (by decide) (by decide) (by decide);have vd:=lF (a:=1) (b:=2) (by decide) (by decide) (by decide);have He:=lF (a:=1) (b:=3) (by decide) (by decide) (by decide);have IM:=lF (a:=2) (b:=3) (by decide) (by decide) (by decide);unfold i3;simp only [YF,Yr];rw [qC x0 (k:=bc (cx 0)) (by rfl),qC cT (by simp [cu,Gu]),qC e' (by simp [cu,Hl,vd]),qC fV (by simp [cu,Er,He,IM])];rfl
theorem adQ (f:Nat->V) (aw:c < 4):cu ([(bc (cx 0),f 0),(bc (cx 1),f 1),(bc (cx 2),f 2),(bc (cx 3),f 3)]:List (Key × V)) (bc (cx c))=some (f c):=by
 have Gu:=lF (a:=0) (b:=1) (by decide) (by decide) (by decide);have Hl:=lF (a:=0) (b:=2) (by decide) (by decide) (by decide);have Er:=lF (a:=0) (b:=3) (by decide) (by decide) (by decide);have vd:=lF (a:=1) (b:=2) (by decide) (by decide) (by decide);have He:=lF (a:=1) (b:=3) (by decide) (by decide) (by decide);have IM:=lF (a:=2) (b:=3) (by decide) (by decide) (by decide)
 match c,aw with
 | 0,_=>simp [cu]
 | 1,_=>simp [cu,Gu]
 | 2,_=>simp [cu,Hl,vd]
 | 3,_=>simp [cu,Er,He,IM]
theorem YQ (h:c ∈ l):pE (.str (cx c)) (mH l)=true:=by
 unfold pE mH;rw [K_];exact p6.mpr ⟨c,h,by simp [jF]⟩
theorem CM (aw:c < 4) (hm:m < 4):decide (cx c=cx m)=decide (c=m):=decide_eq_decide.mpr ⟨fun z=>u2 aw hm z,fun z=>by rw [z]⟩
def QH:bN:=fun vs H Q _=>∃ (kM bF:Addr) (d:a0) (cs:List Nat),vs=[.ref kM,.ref bF]/\H kM=some (.tup (dJ d))/\d.k < 3/\H bF=some (.lst (cs.map fun c=>V.str (cx c)))/\(∀ c ∈ cs,c < 4)/\cs.length <= 1000/\o_ d (gm cs)/\aP H/\∀ I,ac H I->aP I->Q (.bl true) I
theorem ahv:cv P base T 2 t.xy t.yw yl QH:=by
 refine cG (ail T) fun UC=>cG (UU T) fun aih=>cG (Ya T) fun XO=>?_;exists T.C9.ok mG,9
 obtain ⟨kM,bF,d,cs,rfl,oJ,xg,gs,xY,lh,O,bE,q⟩:=h;have bq:=g7 ak;refine ⟨_,(aR (b2 (i:=2) mG.aG (cf UC ak T.Z8 T.IE.bK T.Yo (ai (U 0) aE)))
   (aR (b2 (i:=3) mG.aG (cf aih ak T.ada T.Ck.bK T.Td (ai (U 0) aE)))
   (aR (b2 (i:=4) mG.aG (cf XO ak T.ls T.Cj.bK T.U' (ai (U 1) aE)))
   (aR (b2 (i:=5) mG.aG (bX dE (fg (ai cD (ai cD aE))) (nz zq rfl T.v' wd (ai (hj kz (U 2) aL (cm _)) aE))))
   (aR (b2 (i:=6) mG.aG (bX dE (fg (ai cD (ai cD aE))) (nz zq rfl T.v' wd (ai (hj kz (U 3) aL (cm _)) aE))))
   (aR (b2 (i:=7) mG.aG (AZ (Uf cD (fg (ai (U 5) aE)) (Uf cD (fg (ai cD aE)) (Uf cD (fg (ai (U 6) aE)) (Uf cD (fg (ai cD (ai (U 5) aE))) Bv)))) rfl rfl (by simp) (by decide)))
   (aR (be fm rfl (l8 rfl T.lJ (ai (fq g0 rfl T.gU gK (ai (U 4) aE)) aE)) (cz (i:=8) mG.aG) (aR (HA (bX dE (U 4) (U 8)) (ly (K:=K) (n:=2) rfl rfl (lc (cz (i:=9) mG.aG) (lc (cz (i:=10) mG.aG) k4))))
   (aR (b2 (i:=11) mG.aG (afQ jd jd aL (U 8) (bD jR (fq g0 rfl T.gU gK (ai (U 4) aE)) aL)))
   (aR (dI (fj.pt (iD (cP kz (U 8) aL (cm _)) (jA (cP x9 (U 9) (kJ bq (U 7) (bX eK (bX dE (U 4) (bD jR (U 8) aL)) aL) (fun _ _=>rfl)) (by with_unfolding_all rfl))))) (a5 (cj iJ)) eh)
   (aR (dI (fj.pt (iD (cP eo (U 9) cD (cm _)) (jA (fj.pt (p8 (cP kz (U 10) (U 2) (cm _)) (rS (fj.pt (iD (ki (U 11)) (jA (cP jd (U 10) (U 2) (cm _))))))))))) (a5 (cj iJ)) eh)
   (aR (dI (fj.pt (iD (cP eo (U 9) cD (cm _)) (jA (fj.pt (p8 (cP kz (U 10) (U 3) (cm _)) (rS (fj.pt (iD (ki (U 11)) (jA (cP jd (U 10) (U 3) (cm _))))))))))) (a5 (cj iJ)) eh)
   (a5 (dI (fj.pt (iD (cP eo (U 9) cD (cm _)) (iD (ki (U 11)) (jA (cP jd (U 10) (bX eK (U 0) aL) (cm _)))))) (a5 (cj iJ)) eh))))))))
   (a5 (cj iJ))))))))),?_⟩
 refine cZ (fun aA I=>I=H/\aA=[~~~kM,~~~bF,some (.int (dM d)),none,none,none,none,none,none,none,none,none]) (fun b3 bJ=>?_) fun cN aJ=>?_
 .nofun;exact ⟨kM,d,rfl,oJ,xg,bE,bJ _ _ ⟨rfl,rfl⟩⟩
 rintro gg H1 ⟨rfl,rfl⟩;subst aJ;refine cZ (fun aA I=>I=H1/\aA=[~~~kM,~~~bF,some (.int (dM d)),some (.int (d0 d)),none,none,none,none,none,none,none,none]) (fun b3 bJ=>?_) fun cN aJ=>?_
 .nofun;exact ⟨kM,d,rfl,oJ,xg,bE,bJ _ _ ⟨rfl,rfl⟩⟩
 rintro cC az ⟨rfl,rfl⟩;subst aJ;refine cZ (fun aA I=>ac az I/\aP I/\∃ bt qs,js I bt qs (gm cs)/\aA=[~~~kM,~~~bF,some (.int (dM d)),some (.int (d0 d)),~~~bt,none,none,none,none,none,none,none]) (fun b3 bJ=>?_) fun cN aJ=>?_
 .nofun;exact ⟨bF,cs,rfl,gs,xY,lh,bE,fun p qs I s3 dK F=>bJ _ _ ⟨s3,dK,p,qs,F,rfl⟩⟩
 rintro gc bk ⟨s3,dK,bt,qs,F,rfl⟩;subst aJ;refine cZ (fun aA I=>ac az I/\aP I/\js I bt qs (gm cs)/\aA=[~~~kM,~~~bF,some (.int (dM d)),some (.int (d0 d)),~~~bt,some (.str (cx (jc d))),none,none,none,none,none,none]) (fun b3 bJ=>?_) fun cN aJ=>?_
 .nofun;refine ⟨by decide,fun p av=>⟨_,aD.of db,V.str (cx (jc d)),?_,bJ _ _ ⟨s3.trans (bp av),dK.upd,F.same (bp av),rfl⟩⟩⟩;unfold jc;by_cases c:0 < dM d
  .rw [if_pos (decide_eq_true c),if_pos c];exact cg (j:=1) rfl
  .rw [if_neg (by simpa using c),if_neg c];exact cg (j:=0) rfl
 rintro lq cJ ⟨s4,dR,adC,rfl⟩;subst aJ;refine cZ (fun aA I=>ac az I/\aP I/\js I bt qs (gm cs)/\aA=[~~~kM,~~~bF,some (.int (dM d)),some (.int (d0 d)),~~~bt,some (.str (cx (jc d))),some (.str (cx (l9 d))),none,none,none,none,none]) (fun b3 bJ=>?_) fun cN aJ=>?_
 .nofun;refine ⟨by decide,fun p av=>⟨_,aD.of db,V.str (cx (l9 d)),?_,bJ _ _ ⟨s4.trans (bp av),dR.upd,adC.same (bp av),rfl⟩⟩⟩;unfold l9;by_cases c:0 < d0 d
  .rw [if_pos (decide_eq_true c),if_pos c];exact cg (j:=1) rfl
  .rw [if_neg (by simpa using c),if_neg c];exact cg (j:=0) rfl
 rintro rt dH ⟨s5,iB,agd,rfl⟩;subst aJ;refine cZ (fun aA I=>ac az I/\aP I/\js I bt qs (gm cs)/\∃ bd,Y_ I bd d/\aA=[~~~kM,~~~bF,some (.int (dM d)),some (.int (d0 d)),~~~bt,some (.str (cx (jc d))),some (.str (cx (l9 d))),~~~bd,none,none,none,none]) (fun b3 bJ=>?_) fun cN aJ=>?_
 .nofun;intro p av;simp only [qD];nofun;refine ⟨by decide,fun nO h0=>⟨by decide,fun e0 af=>⟨by decide,fun d6 ao=>⟨by decide,fun hz a_=>?_⟩⟩⟩⟩;have kZ:ac dH (upd dH p (.bw [])):=bp av;have na:aP (upd dH p (.bw [])):=iB.upd;have Jv:upd dH p (.bw []) p=some (.bw []):=db;generalize upd dH p (.bw [])=zH at *;have nb:aP (upd zH nO (.lst [V.str (cx (jc d))])):=na.upd;have bL:=bp (o:=.lst [V.str (cx (jc d))]) h0;have Cs:upd zH nO (.lst [V.str (cx (jc d))]) nO=some (.lst (mH (sU d 0))):=db;generalize upd zH nO (.lst [V.str (cx (jc d))])=Ih at *;have sN:aP (upd Ih e0 (.lst [V.str (aa "free")])):=nb.upd;have dO:=bp (o:=.lst [V.str (aa "free")]) af;have at2:upd Ih e0 (.lst [V.str (aa "free")]) e0=some (.lst (mH (sU d 1))):=db;generalize upd Ih e0 (.lst [V.str (aa "free")])=Fb at *;have aG:aP (upd Fb d6 (.lst [V.str (cx (l9 d))])):=sN.upd;have fP:=bp (o:=.lst [V.str (cx (l9 d))]) ao;have acw:upd Fb d6 (.lst [V.str (cx (l9 d))]) d6=some (.lst (mH (sU d 2))):=db;generalize upd Fb d6 (.lst [V.str (cx (l9 d))])=Fg at *;have nM:=bp (o:=.lst [V.str (aa "stop"),V.str (cx (jc d))]) a_;have NH:upd Fg hz (.lst [V.str (aa "stop"),V.str (cx (jc d))]) hz=some (.lst (mH (sU d 3))):=db;have ve:aP (upd Fg hz (.lst [V.str (aa "stop"),V.str (cx (jc d))])):=aG.upd;generalize upd Fg hz (.lst [V.str (aa "stop"),V.str (cx (jc d))])=I9 at *;have qK:ac zH I9:=((bL.trans dO).trans fP).trans nM;have BH:=((dO.trans fP).trans nM) _ _ Cs;have e_:=(fP.trans nM) _ _ at2;have ec:=nM _ _ acw;have cF:=qK _ _ Jv;have apart:∀ {b:Addr} {xs:List V},I9 b=some (.lst xs)->b ≠ p:=fun {b xs} e z=>by rw [z,cF] at e;cases e
  have k3:ac dH (upd I9 p (.bw (i3 [] [(bc (cx 0),V.ref nO),(bc (cx 1),V.ref e0),(bc (cx 2),V.ref d6),(bc (cx 3),V.ref hz)]))):=(kZ.trans qK).fC av;refine ⟨cF,[(bc (cx 0),V.ref nO),(bc (cx 1),V.ref e0),(bc (cx 2),V.ref d6),(bc (cx 3),V.ref hz)],rfl,by show 4 <= 15;decide,bJ _ _ ⟨s5.trans k3,ve.upd,agd.same k3,p,⟨_,db,fun c aw=>?_⟩,rfl⟩⟩;rw [aeA];refine ⟨_,adQ (fun c=>V.ref (match c with | 0=>nO | 1=>e0 | 2=>d6 | _=>hz)) aw,?_⟩
  match c,aw with
  | 0,_=>exact (aF (apart BH)).trans BH
  | 1,_=>exact (aF (apart e_)).trans e_
  | 2,_=>exact (aF (apart ec)).trans ec
  | 3,_=>exact (aF (apart NH)).trans NH
 rintro lW hH ⟨gV,kh,rd,bd,ahD,rfl⟩;subst aJ;simp only [dN];have ku:(gm cs).length <= 1000:=c4 (Qm _) lh;have gO:=rd.len;refine ag2 (fun aA I=>I=hH) (fun b3 bJ=>?_) ?_
 .nofun;refine ⟨_,.inl (aD.of rd.at_),by omega,by rw [aU];omega,?_⟩;rw [aU,gO,nd];refine dP.range (fun k σ I=>I=hH/\∃ oM M0 Oq Hy,σ=[~~~kM,~~~bF,some (.int (dM d)),some (.int (d0 d)),~~~bt,some (.str (cx (jc d))),some (.str (cx (l9 d))),~~~bd,oM,M0,Oq,Hy]) ⟨rfl,_,_,_,_,rfl⟩ ?_ ?_
  .rintro k σ I aB bh;ac_rfl
   obtain ⟨rfl,oM,M0,Oq,Hy,rfl⟩:=bh;have aB:k < (gm cs).length:=aB;obtain ⟨x,ag⟩:∃ x,(gm cs)[k]? = some x:=⟨_,a' aB⟩;obtain ⟨kZ,px,rZ⟩:=rd.d5 ag;obtain ⟨sC,aew⟩:=O.up x (cB ag);have uG:=O.lt x (cB ag);have gw:∀ y,(gm cs)[k + 1]? = some y->(x.1=1->dM d <= x.2)/\(x.1=3->d0 d <= x.2)/\(x.1=2->d.least <= x.2):=fun y a7=>(O.vv k x y ag a7).2
   subst aJ;simp only [gd,dN,jI,jX,oj];exists (fun aA H1=>H1=I/\aA=[~~~kM,~~~bF,some (.int (dM d)),some (.int (d0 d)),~~~bt,some (.str (cx (jc d))),some (.str (cx (l9 d))),~~~bd,some (.int k),some (.str (cx x.1)),some (.int x.2),Hy]),2
   .nofun;exact ⟨_,aD.of rd.at_,_,cg px,_,rfl,_,cM.of rZ,rfl,_,_,rfl,_,_,rfl,rfl,bV _ _ ⟨rfl,rfl⟩⟩
   rintro ji ft ⟨rfl,rfl⟩;subst aJ;simp only [dN];exists (fun aA I=>I=ft/\aA=[~~~kM,~~~bF,some (.int (dM d)),some (.int (d0 d)),~~~bt,some (.str (cx (jc d))),some (.str (cx (l9 d))),~~~bd,some (.int k),some (.str (cx x.1)),some (.int x.2),some (.bl (decide (0 < k) && decide (k + 1 < (gm cs).length)))]),2
   .nofun;by_cases c:0 < k
    .rw [if_pos (decide_eq_true (by omega))];refine ⟨_,.inl (aD.of rd.at_),?_⟩;rw [show decide ((k:Int) < ((qs.map V.ref).length:Int) - 1)=(decide (0 < k) && decide (k + 1 < (gm cs).length)) by
      rw [aU,gO,decide_eq_true c,kG];exact decide_eq_decide.mpr (by omega)]
     exact bV _ _ ⟨rfl,rfl⟩
    .rw [if_neg (by simpa using c)];exact bV _ _ ⟨rfl,by rw [decide_eq_false c,k2]⟩
   rintro sP iG ⟨rfl,rfl⟩;subst aJ;simp only [dN];refine dy false (fun hS aV=>?_) (fun aw=>nomatch aw) (fun _=>?_)
   .nofun;by_cases c:0 < k
    .rw [if_pos (decide_eq_true (by omega))];obtain ⟨y,a7⟩:∃ y,(gm cs)[k - 1]? = some y:=⟨_,a' (by omega)⟩;obtain ⟨bL,ab3,aei⟩:=rd.d5 a7;obtain ⟨kvs,fa,al⟩:=id ahD;obtain ⟨b,su,iU⟩:=al y.1 (O.lt y (cB a7));have TK:=(O.vv (k - 1) y x a7 (by rw [show k - 1 + 1=k by omega];exact ag)).1;refine ⟨_,aD.of rd.at_,_,by rw [show (k:Int) - 1=((k - 1:Nat):Int) by omega];exact cg ab3,_,rfl,_,cM.of aei,_,cg (j:=0) rfl,_,by have:=gb.k (k:=bc (cx y.1)) fa;rw [su] at this;exact this,_,rfl,_,.inl (aD.of iU),rfl,?_,?_⟩
     .unfold mH;rw [adR];exact m7.mpr fun _ _=>rfl
     .rw [YQ (ah' (O.lt y (cB a7)) TK)];exact aV
    .rw [if_neg (by simpa using c)];exact aV
   simp only [il,dN];refine dy false (fun hS aV=>?_) (fun aw=>nomatch aw) (fun _=>?_)
   .nofun;rw [show decide (cx x.1=aa "ready")=decide (x.1=1) from CM (m:=1) uG (by decide)];by_cases c:x.1=1
    .rw [if_pos (decide_eq_true c),if_neg (by have:=sC c;simp;omega)];by_cases ci:(decide (0 < k) && decide (k + 1 < (gm cs).length))=true
     .rw [if_pos ci];rw [hy] at ci;have:=(gw _ (a' (of_decide_eq_true ci.2))).1 c;rw [decide_eq_false (by omega)];exact aV
     .rw [if_neg ci];exact aV
    .rw [if_neg (by simpa using c)];exact aV
   simp only [il,dN];refine dy false (fun hS aV=>?_) (fun aw=>nomatch aw) (fun _=>?_)
   .nofun;rw [show decide (cx x.1=aa "fade")=decide (x.1=3) from CM (m:=3) uG (by decide)];by_cases c:x.1=3
    .rw [if_pos (decide_eq_true c),if_neg (by have:=aew c;simp;omega)];by_cases ci:(decide (0 < k) && decide (k + 1 < (gm cs).length))=true
     .rw [if_pos ci];rw [hy] at ci;have:=(gw _ (a' (of_decide_eq_true ci.2))).2.1 c;rw [decide_eq_false (by omega)];exact aV
     .rw [if_neg ci];exact aV
    .rw [if_neg (by simpa using c)];exact aV
   simp only [il,dN];refine dy false (fun hS aV=>?_) (fun aw=>nomatch aw) (fun _=>?_)
   .nofun;rw [show decide (cx x.1=aa "free")=decide (x.1=2) from CM (m:=2) uG (by decide)];by_cases c:x.1=2
    .rw [if_pos (decide_eq_true c)];by_cases ci:(decide (0 < k) && decide (k + 1 < (gm cs).length))=true
     .rw [if_pos ci];rw [hy] at ci;have:=(gw _ (a' (of_decide_eq_true ci.2))).2.2 c;refine ⟨_,cM.of (gV _ _ oJ),_,cg (j:=6) rfl,_,rfl,?_⟩;rw [decide_eq_false (by omega)];exact aV
     .rw [if_neg ci];exact aV
    .rw [if_neg (by simpa using c)];exact aV
   .nofun;exact ⟨_,rfl⟩
  .rintro σ I ⟨rfl,_⟩;exact bJ _ _ rfl
 rintro ji ft rfl;nofun;exact q _ gV kh
structure pk (n:Int) (ds:List a0) (rows:List ST) (H:aq) (ck:Addr) (rs:List Addr) (ss:List dG):Prop where
 at_:H ck=some (.lst (rs.map V.ref))
 len:rs.length=ss.length
 al:∀ (i:Nat) (q:Addr) (s:dG),rs[i]? = some q->ss[i]? = some s->H q=some (.bw (h3 ds (gR n ds rows s)))
theorem pk.same {rows:List ST} (h:pk n ds rows H ck rs ss) (s:ac H I):pk n ds rows I ck rs ss:=
 ⟨s _ _ h.at_,h.len,fun i q x a b=>s _ _ (h.al i q x a b)⟩
theorem pk.d5 {n:Int} {ds:List a0} {rows:List ST} {H:aq} {ck:Addr} {rs:List Addr} {ss:List dG} (h:pk n ds rows H ck rs ss) {i:Nat} {s:dG} (ax:ss[i]? = some s):∃ q,(rs.map V.ref)[i]? = some (.ref q)/\H q=some (.bw (h3 ds (gR n ds rows s))):=by
 have ah:i < rs.length:=by rw [h.len];exact (b6.mp ax).1
 have aN:=a' ah;exact ⟨_,by rw [dm,aN];rfl,h.al i _ s aN ax⟩
noncomputable def sl (xs ys:List V):Bool:=(fL 7).all fun j=>jF (xs.getD j .bU) (ys.getD j .bU)
theorem H4 (d:a0):∀ (j:Nat) (x:V),(dJ d)[j]? = some x->kB x=true
 | 0,_,h=>by cases h;rfl
 | 1,_,h=>by cases h;rfl
 | 2,_,h=>by cases h;rfl
 | 3,_,h=>by cases h;rfl
 | 4,_,h=>by cases h;rfl
 | 5,_,h=>by cases h;rfl
 | 6,_,h=>by cases h;rfl
 | j + 7,_,h=>by simp [dJ] at h
theorem abh {K:ba} {q p:Addr} {d e:a0} (aN:H q=some (.tup (dJ d))) (av:H p=some (.tup (dJ e))):ih K H 8 (.ref q) (.ref p) (sl (dJ d) (dJ e)):=by
 have:=ih.tup (k:=7) (e:=fun j=>jF ((dJ d).getD j .bU) ((dJ e).getD j .bU)) (cM.of (K:=K) aN) (cM.of av) (fun j x y af ao=>by
  rw [iV,iV,af,ao];exact ih.flat (H4 d j x af) (H4 e j y ao))
 rwa [show ((fL (min (dJ d).length (dJ e).length)).all (fun j=>jF ((dJ d).getD j .bU) ((dJ e).getD j .bU)) && (dJ d).length == (dJ e).length)=sl (dJ d) (dJ e) from Bool.and_true _] at this
theorem Ww (d:a0):sl (dJ d) (dJ d)=true:=by
 unfold sl;refine m7.mpr fun j aO=>?_
 have aO:=om.mp aO;have e:(dJ d)[j]? = some ((dJ d).getD j .bU):=by
  rw [iV,a' (show j < (dJ d).length from aO)];rfl
 exact SG (H4 d j _ e)
theorem agE {d e:a0} (h:d.name ≠ e.name):sl (dJ d) (dJ e)=false:=by
 rw [Bool.eq_false_iff];intro z;unfold sl at z;have:=m7.mp z 1 (om.mpr (show 1 < 7 by decide));have:decide (d.name=e.name)=true:=this;exact h (of_decide_eq_true this)
def Px (K:ba):bN:=fun vs H Q _=>∃ (ck:Addr) (rs:List Addr) (ss:List dG) (a b:Addr) (n:Int) (ds:List a0) (ay:List gu) (i j:Nat) (d e:a0),vs=[.ref ck,.ref a,.ref b]/\dr n ds ay/\pk n ds (Db ds ay) H ck rs ss/\ss.length <= 1000/\Run n ds (Db ds ay) ss/\ds[i]? = some d/\ds[j]? = some e/\i ≠ j/\mt n d e=true/\H a=some (.tup (dJ d))/\H b=some (.tup (dJ e))/\d.off - e.near <= 99/\aP H/\Q (.bl true) H
theorem agx:cv P base T 1 t.xe t.AB y_ (Px K):=by
 exists T.G3.ok uy,9
 obtain ⟨ck,rs,ss,a,b,n,ds,ay,i,j,d,e,rfl,X,hK,gs,nU,hd,he,hA,lb,aX,ae,akL,bE,q⟩:=h;have bq:=g7 ak;have fv:=X.aG;refine ⟨_,(aR (b2 (i:=3) uy.aG (GE tC aL))
   (aR (b2 (i:=4) uy.aG (fq (JI rfl) rfl T.Bi yo (ai aL (ai (bD jR (bX eK (U 1) aL) (bX eK (U 2) aL)) aE))))
   (aR (be fm rfl (l8 rfl T.lJ (ai (fq g0 rfl T.gU gK (ai (U 0) aE)) aE)) (cz (i:=5) uy.aG) (aR (dI (cP eo (kJ bq (bX dE (U 0) (U 5)) (bX eK (U 1) aL) (fun _ _=>rfl)) cD (cm _)) (a5 (b2 (i:=3) uy.aG (U 5))) eh)
   (a5 (dI (fj.pt (iD (cP eo (kJ bq (bX dE (U 0) (U 5)) (bX eK (U 2) aL) (fun _ _=>rfl)) cD (cm _)) (jA (cP Kt (bD jR (U 5) (U 3)) (U 4) (cm _))))) (a5 (cj iJ)) eh))))
   (a5 (cj iJ))))),?_⟩
 obtain ⟨pP,j_,_,oi,_,_⟩:=lG (X.tell (cB hd));obtain ⟨nZ,re,_,tg,_,_⟩:=lG (X.tell (cB he));have vO:pP ≠ nZ:=fun z=>by
  subst z;obtain ⟨x,ag,af⟩:=wC ((X.xx hd).mp oi);obtain ⟨y,a7,ao⟩:=wC ((X.xx he).mp tg);rw [ag] at a7;cases a7;have:=X.kj.bf.t8 _ (cp.mpr ⟨x,cB ag,rfl⟩) i af j ao hA d e hd he;rw [lb] at this;cases this
 have gO:=hK.len;nofun;refine ⟨_,cM.of aX,_,cg (j:=4) rfl,_,cM.of ae,_,cg (j:=5) rfl,_,rfl,_,rfl,_,.inl (aD.of hK.at_),by omega,by rw [aU];omega,?_⟩;rw [aU,gO,nd];generalize aaB:(if d.off - e.near > 0 then d.off - e.near else 0)=need;have aT:need=max 0 (d.off - e.near):=by rw [<- aaB];split <;> omega
 refine dP.range (fun tt σ I=>I=H/\∃ L,tR need nZ ss tt L/\∃ y,σ=[~~~ck,~~~a,~~~b,some (.int L),some (.int need),y]) ⟨rfl,-1000,tR.zero nU (by omega),_,rfl⟩ ?_ ?_
 .rintro tt σ I cS bh;ac_rfl
  obtain ⟨rfl,L,S,y,rfl⟩:=bh;have cS:tt < ss.length:=cS;have ax:=a' cS;obtain ⟨kZ,px,rZ⟩:=hK.d5 ax;have o6:=Run.safe X nU hd he lb oi tg vO aT ax S;have t7:=gb.k (k:=bc d.name) rZ;subst aJ;rw [zu (f:=gR n ds (Db ds ay) ss[tt]) fv hd,DI] at t7;have ge:=gb.k (k:=bc e.name) rZ;rw [zu (f:=gR n ds (Db ds ay) ss[tt]) fv he,DI] at ge;have fd:=Dv (n:=n) (ds:=ds) (s:=ss[tt]) oi;have Tx:=Dv (n:=n) (ds:=ds) (s:=ss[tt]) tg;simp only [gd,dN,jI,jX,oj];exists (fun aA H1=>H1=I/\aA=[~~~ck,~~~a,~~~b,some (.int (if dA n ds (Db ds ay) d ss[tt]=2 then (tt:Int) else L)),some (.int need),some (.int tt)]),2
  .refine dy (decide (dA n ds (Db ds ay) d ss[tt]=2)) (fun hS aV=>?_) (fun aw=>?_) (fun aw=>?_)
   .nofun;refine ⟨_,aD.of hK.at_,_,cg px,_,cM.of aX,_,cg (j:=1) rfl,_,rfl,_,t7,rfl,?_⟩;rw [show decide (V.str (cx (dA n ds (Db ds ay) d ss[tt]))=V.str (aa "free"))=decide (dA n ds (Db ds ay) d ss[tt]=2) from decide_eq_decide.mpr ⟨fun z=>u2 (u3 d _) (by decide) (V.str.inj z),fun z=>by rw [z];rfl⟩];exact aV
   .rw [if_pos (of_decide_eq_true aw)] at bV;nofun;exact bV _ _ ⟨rfl,rfl⟩
   .rw [if_neg (of_decide_eq_false aw)] at bV;nofun;exact bV _ _ ⟨rfl,rfl⟩
  rintro ji ft ⟨rfl,rfl⟩;subst aJ;dsimp only;refine dy false (fun hS aV=>?_) (fun aw=>nomatch aw) (fun _=>?_)
  .nofun;refine ⟨_,aD.of hK.at_,_,cg px,_,cM.of ae,_,cg (j:=1) rfl,_,rfl,_,ge,rfl,?_⟩;rw [show decide (V.str (cx (dA n ds (Db ds ay) e ss[tt]))=V.str (aa "free"))=decide (dA n ds (Db ds ay) e ss[tt]=2) from decide_eq_decide.mpr ⟨fun z=>u2 (u3 e _) (by decide) (V.str.inj z),fun z=>by rw [z];rfl⟩];by_cases c:dA n ds (Db ds ay) e ss[tt]=2
   .rw [if_pos (decide_eq_true c)];have fD:=Tx.mp c;have:=(S.al _ ax).1 fD;rw [if_neg (show ¬ dA n ds (Db ds ay) d ss[tt]=2 from fun z=>vO (dh ((fd.mp z).symm.trans fD))),decide_eq_false (by omega)];exact aV
   .rw [if_neg (by simpa using c)];exact aV
  .nofun;exact ⟨_,o6,rfl,_,rfl⟩
 .rintro σ I ⟨rfl,_⟩;nofun;exact q
def Rp (K:ba) (Pt:Addr):bN:=fun vs H Q _=>∃ a ns,vs=[.ref a]/\Sc K a ns H/\ns.length <= 63/\m5 Pt H/\∀ I,Q (.bl true) I
theorem Yl {Pt:Addr} (dg:qo base t.qV Pt) (jb:base.BuiltinsAt mg Pt):cv P base T 12 t.II t.xd ["_law_script"] (Rp K Pt):=by
 exists T.aec.ok jp,9
 obtain ⟨a,ns,rfl,Ar,hv,ahr,q⟩:=h;have bq:=g7 ak;have Qg:=Xi ak;have ZO:cH P w K mg base dz 11 t.xh t.Bd BD (Pd K a ns):=(UA T a ns hv).mono (by decide);have Vz:cH P w K mg base dz 11 t.Ah t.Cl zg (AC K):=(Ub T).mono (by decide);have ah4:cH P w K mg base dz 11 t.BO t.x2 ["text"] (PR t):=(XN T).mono (by decide);have ahW:cH P w K mg base dz 11 t.A9 t.yu yZ (MB K):=(abt T).mono (by decide);have ahb:cH P w K mg base dz 11 t.yR t.xS zA Ks:=(ahe T).mono (by decide);have aau:cH P w K mg base dz 11 t.u4 t.uf vM (LJ P w t):=(V4 T).mono (by decide);have ahU:cH P w K mg base dz 10 t.vL t.Bp vi (NI P w t):=(acE T).mono (by decide);have aiv:cH P w K mg base dz 11 t.vR t.zF BL (Ma P w K t Pt):=(agN T dg jb).mono (by decide);have To:cH P w K mg base dz 11 t.zf t.AO yg (PH K a ns):=(Yz T a ns hv).mono (by decide);have aai:cH P w K mg base dz 11 t.xy t.yw yl QH:=(ahv T).mono (by decide);have aft:cH P w K mg base dz 11 t.xe t.AB y_ (Px K):=(agx T).mono (by decide);have CD:cH P w K mg base dz 11 t.y5 t.AX BA (KH K):=(N4 T).mono (by decide);refine ⟨_,(aR (HA (cf ZO ak T.T1 T.EX.bK T.Xz (ai (U 0) (ai aL aE))) (ly (K:=K) (n:=2) rfl rfl (lc (cz (i:=1) jp.aG) (lc (cz (i:=2) jp.aG) k4))))
   (aR (b2 (i:=3) jp.aG (cf ahW ak T.W7 T.Iw.bK T.adq (ai (U 0) (ai (U 1) (ai (U 2) aE)))))
   (aR (b2 (i:=4) jp.aG (ry T.abB ahU ak rfl T.afx T.abK .nil cO (ai (cf aau ak T.Ix T.ul.bK T.Ur (ai (cf ah4 ak T.agX T.C1.bK T.Wb (ai (cf Vz ak T.KB T.EH.bK T.WB (ai (U 1) (ai (U 2) aE))) aE)) (ai (cf ahb ak T.T2 T.Cu.bK T.ZF (ai (U 2) (ai (U 3) aE))) aE))) aE)))
   (aR (b2 (i:=5) jp.aG (fg aE))
   (aR (be fm rfl (l8 rfl T.lJ (ai aL aE)) (cz (i:=6) jp.aG) (a5 (en (gk iM kO kT ks (U 5) (ai (e4 (U 4) T.eU T.Tr aiv ak T.aht .nil cO (ai (cf To ak T.ahA T.CE.bK T.Yc (ai (U 0) (ai (U 6) (ai (U 2) aE)))) aE)) aE)))))
   (aR (be fm rfl (Gc (U 2)) (EG (i:=7) jp.aG rfl (mM rfl)) (aR (dI (rv (ki (cf aai ak T.ae4 T.C9.bK T.Zd (ai (U 7) (ai (hE rfl (Gc (U 5)) (gQ (sc:=bz F6) rfl (by ac_nf)) (N:=["_law_row","_law_one"]) (sel:=[none,some 7]) (gF (M:=["_law_script","_law_places","_law_ways_here","_law_stages_here","_law_keeper","_law_rows","_law_turn","_law_one","_law_other"]) (by ac_nf)) (fy.of (fun _ _ _ _=>(cz (i:=0) (er (N:=["_law_row","_law_one"]) (by ac_nf) rfl))) (fun _ _ _ _=>⟨_,h4,by walk_at "B"⟩) (fun _ _ _ _=>⟨_,(kJ bq (U 0) (bX eK (U 1) aL) (fun _ _=>rfl)),by walk_at "B"⟩))) aE))))) (a5 (cj iJ)) eh)
   (a5 (be fm rfl (Gc (U 2)) (cz (i:=8) jp.aG) (a5 (dI (fj.pt (iD (cP (aag Qg) (U 7) (U 8) (cm _)) (iD (ki (cf CD ak T.R9 T.BN.bK T.Pk (ai (U 7) (ai (U 8) (ai (U 1) aE))))) (jA (rv (ki (cf aft ak T.adH T.G3.bK T.Z3 (ai (U 5) (ai (U 7) (ai (U 8) aE)))))))))) (a5 (cj iJ)) eh))))))
   (a5 (cj iJ)))))))),?_⟩
 refine cZ (fun aA I=>ac H I/\Sc K a ns I/\∃ wl n ds,iE I wl ds/\rV n ds/\(∀ d ∈ ds,d.least <= 4)/\(4 <= n/\n <= 99)/\(1 <= ds.length/\ds.length <= 6)/\aA=[~~~a,some (.int n),~~~wl,none,none,none,none,none,none]) (fun b3 bJ=>?_) fun cN aJ=>?_
 .nofun;exact ⟨5,rfl,by decide,Ar,fun iT wl n ds I s1 k_ au L D hle aT aM=>⟨iT,rfl,_,cM.of au,rfl,_,_,rfl,_,_,rfl,rfl,bJ _ _ ⟨s1,k_,wl,n,ds,L,D,hle,aT,by omega,rfl⟩⟩⟩
 rintro gg H1 ⟨s1,k_,wl,n,ds,L,D,hle,aT,gx,rfl⟩;have YO:∀ {ay:List gu},w8 n ds ay->dr n ds ay:=fun h=>⟨D.aG,h,gx.2,gx.1,fun d hd=>(D.al d hd).1⟩
 subst aJ;refine cZ (fun aA I=>ac H1 I/\Sc K a ns I/\∃ e0 bL jw cT,mE I e0 bL jw cT/\dr n ds cT/\aA=[~~~a,some (.int n),~~~wl,~~~e0,none,none,none,none,none]) (fun b3 bJ=>?_) fun cN aJ=>?_
 .nofun;exact ⟨a,ns,n,wl,ds,rfl,hv,k_.seq,k_.bE,L,D,hle,by omega,fun e0 bL jw cT I s3 dK EP ZW=>bJ _ _ ⟨s3,k_.same s3 dK,e0,bL,jw,cT,EP,YO ZW,rfl⟩⟩
 rintro cC az ⟨s2,k1,e0,bL,jw,cT,EP,X,rfl⟩;have L2:=L.same s2;have R:=X.tK;have b4:0 < cT.length:=LF.mpr X.ne;have ac2:=a' b4;subst aJ;refine cZ (fun aA I=>∃ eZ m' c k aC aZ,ac az eZ/\hh P w t eZ m' c n ds (Db ds cT)/\eZ k=none/\eZ aC=none/\eZ aZ=none/\ac eZ I/\Sc K a ns I/\eQ t I k m' aC aZ (Su ds (l2 ds cT[0]))/\aA=[~~~a,some (.int n),~~~wl,~~~e0,~~~k,none,none,none,none]) (fun b3 bJ=>?_) fun cN aJ=>?_
 .nofun;refine ⟨n,wl,ds,rfl,L2,D,by omega,by omega,k1.bE,n,ds,rfl,D.Le (by omega) (by omega),k1.bE,fun c I s3 dK se=>⟨wl,ds,e0,bL,jw,cT,rfl,L2.same s3,EP.same s3,X.jZ,dK,c,n,ds,cT,rfl,se,aT,X,dK,fun m' dH s5 iB OF k ar aB vz V_=>?_⟩⟩;have bQ:ac dH (upd (upd dH ar (.own k)) k (.ins t.c_ ar [])):=(bp vz).trans (bp (by rw [aF (eg V_)];exact aB));exact ⟨k,ar,m',c,n,ds,_,_,rfl,db,OF.same bQ,Jr ac2,R.c5 _ (cp.mpr ⟨_,jg b4,rfl⟩),iB.upd.upd,fun aC aZ hH eB kh n2 l6 agA=>⟨rfl,bJ _ _ ⟨dH,m',c,k,aC,aZ,s3.trans s5,OF,aB,bQ.free n2,bQ.free l6,fun b u e=>eB _ _ (dB e aB) (bQ _ _ e),k1.same (fun b u e=>eB _ _ (dB ((s3.trans s5) _ _ e) aB) (bQ _ _ ((s3.trans s5) _ _ e))) kh,agA,rfl⟩⟩⟩
 rintro gc bk ⟨eZ,m',c,k,aC,aZ,m1,el,iH,gA,hs,s3,oV,rN,rfl⟩;subst aJ;refine cZ (fun aA I=>ac bk I/\Sc K a ns I/\∃ ck,bk ck=none/\I ck=some (.lst [])/\aA=[~~~a,some (.int n),~~~wl,~~~e0,~~~k,~~~ck,none,none,none]) (fun b3 bJ=>?_) fun cN aJ=>?_
 .nofun;exact ⟨fk _,fun ck fp=>bJ _ _ ⟨bp fp,oV.new fp,ck,fp,db,rfl⟩⟩
 rintro lq cJ ⟨s4,i_,ck,fp,uv,rfl⟩;have hlen:(Db ds cT).length=cT.length:=by unfold Db;rw [aU]
 have LN:m5 Pt eZ:=ahr.step ((s1.trans s2).trans m1);have Lb:ac (h8 eZ) bk:=(JJ eZ).trans s3;have Us:ac (h8 eZ) cJ:=Lb.trans s4;have Oh:h8 eZ k=none:=Iy iH;have R1:h8 eZ aC=none:=Iy gA;have L_:h8 eZ aZ=none:=Iy hs;have Ng:h8 eZ Pt=none:=afh LN;have Zh:h8 eZ ck=none:=Lb.free fp;have afY:=el.ql (DJ eZ);have QD:=(L2.same m1).ql (DJ eZ);have ahR:Sc K a ns (h8 eZ):=agz (k1.same m1 (fun b u e=>oV.2 b u (s3 _ _ e))) (DJ eZ) (fun b u e=>oV.2 b u (s3 _ _ (JJ eZ _ _ e)));obtain ⟨d9,GA,ajp,ajJ,ajf⟩:=id rN;have aaQ:m5 Pt cJ:=(LN.step s3).step s4;have qX:=rN.same s4;have fv:(ds.map (·.name)).Nodup:=D.aG;subst aJ;simp only [dN];refine qm (fun aA I=>aP I/\ac (h8 eZ) I/\(∃ rs ss,pk n ds (Db ds cT) I ck rs ss/\Run n ds (Db ds cT) ss/\ss.length=70)/\∃ oE,aA=[~~~a,some (.int n),~~~wl,~~~e0,~~~k,~~~ck,oE,none,none]) (fun b3 bJ lr _ _=>?_) ?_
 .nofun;refine ⟨by decide,by decide,?_⟩;refine dP.range (fun j σ I=>aP I/\ac (h8 eZ) I/\m5 Pt I/\(∃ s ss rs,eQ t I k m' aC aZ s/\Ev ds (Db ds cT) s/\pk n ds (Db ds cT) I ck rs ss/\Run n ds (Db ds cT) (ss ++ [s])/\ss.length=j/\(∀ q ∈ rs,q ≠ aC/\q ≠ aZ))/\∃ oE,σ=[~~~a,some (.int n),~~~wl,~~~e0,~~~k,~~~ck,oE,none,none]) ?_ ?_ ?_
  .exact ⟨i_.2,Us,aaQ,⟨_,[],[],qX,⟨RY,fun x h=>(by cases h),fun i h=>(by cases h;exact ⟨by rw [hlen];exact b4,fun x h=>(by cases h)⟩),fun h=>(by cases h)⟩,⟨uv,rfl,fun i q s h=>(by simp at h)⟩,⟨fun s ax=>(by cases ax;exact ⟨rfl,rfl⟩),fun k u v bq aK=>(by simp at aK)⟩,rfl,fun q h=>(by cases h)⟩,_,rfl⟩
  .rintro j σ I aO bh;ac_rfl
   obtain ⟨HU,gY,P',⟨sK,ss,rs,Kb,mY,hK,nU,gs,wx⟩,oE,rfl⟩:=bh;have aO:j < 70:=aO;obtain ⟨aks,ady,GX,JM,Pc⟩:=id Kb;subst aJ;simp only [gd,dN,jI,jX,oj];nofun;refine ⟨oQ ⟨_,aD.of hK.at_⟩,ady,_,GX,mr _ _ _ _ _ _ _ _ (by ac_nf),_,wl,ds,rfl,ahR.same gY HU,by omega,QD.same gY,by omega,fun ap xs sF t1 YB aiY aff iF jy=>?_⟩;refine ⟨h8 eZ,k,m',aC,aZ,sK,c,n,ds,Db ds cT,ap,xs,rfl,Kb.same t1,afY,gY.trans t1,Oh,R1,L_,Ng,R,mY,aff,by omega,jy,P'.step t1,YB,fun aeT aj pa Mm Ii m2 S0 pJ qE BF=>?_⟩;obtain ⟨ajn,Kl,akc⟩:=P'.step t1;have OW:=NT jy mY;have PE:pa ck=some (.lst (rs.map V.ref)):=Ii _ _ (b8 hK.at_ GX (by intro z;cases z)) (b8 hK.at_ JM (by intro z;cases z)) (b8 hK.at_ Pc (by intro z;cases z)) (b8 (t1 _ _ hK.at_) Kl (by intro z;cases z)) (t1 _ _ hK.at_);have Ui:ac (h8 eZ) pa:=fun b u e=>Ii _ _ (dB e Oh) (dB e R1) (dB e L_) (dB e Ng) ((gY.trans t1) _ _ e)
   obtain ⟨aic,rp,Z_,aad,acm⟩:=id BF;have up:∀ {b:Addr} {u o:f6},pa b=some u->(∀ xs,u ≠ .lst xs)->upd pa ck o b=some u:=fun {b u o} e h=>by rw [aF (b8 e PE (h _))];exact e
   have gO:=hK.len;refine ⟨_,PE,by rw [aU,gO,gs];exact EC aO (by decide),pJ.upd,fun b u e=>by rw [aF (dB e Zh)];exact Ui _ _ e,?_,⟨aj,⟨aic,rp,up Z_ (fun _ z=>by cases z),up aad (fun _ z=>by cases z),up acm (fun _ z=>by cases z)⟩,JR R OW Mm,ss ++ [sK],rs ++ [aeT],⟨by rw [db,fz];rfl,by rw [c6,c6,gO];rfl,fun i q s aN ax=>?_⟩,nU.snoc ⟨xs,_,OW,Mm⟩,by rw [c6,gs];rfl,fun q aN=>?_⟩,_,rfl⟩
   .obtain ⟨ps,e,d4⟩:=qE;refine ⟨ps,up e (fun _ z=>by cases z),?_⟩;rcases d4 with d4 | ⟨c',d4,b5⟩
    .exact .inl d4
    .exact .inr ⟨c',d4,up b5 (fun _ z=>by cases z)⟩
   .refine up ?_ (fun _ z=>by cases z);by_cases bB:i < rs.length
    .rw [gD bB] at aN;rw [gD (by omega)] at ax;have e:=hK.al i q s aN ax;obtain ⟨dk,dZ⟩:=wx q (cB aN);exact Ii _ _ (b8 e GX (by intro z;cases z)) dk dZ (b8 (t1 _ _ e) Kl (by intro z;cases z)) (t1 _ _ e)
    .have ah:i=rs.length:=by
      have:=(b6.mp aN).1;rw [c6,ju] at this;omega
     subst ah;rw [i5 (bW _),mU] at aN;rw [gO,i5 (bW _),mU] at ax;cases aN;cases ax;exact S0
   .rcases f5.mp aN with z | z
    .exact wx q z
    .rw [eC.mp z];exact ⟨fun z=>(by rw [z,t1 _ _ JM] at m2;cases m2),fun z=>(by rw [z,t1 _ _ Pc] at m2;cases m2)⟩
  .rintro σ I bh;ac_rfl
   obtain ⟨HU,gY,_,⟨sK,ss,rs,_,_,hK,nU,gs,_⟩,oE,rfl⟩:=bh;subst aJ;refine bJ _ _ ⟨HU,gY,⟨rs,ss,hK,⟨fun s ax=>nU.h0 s ?_,fun k u v bq aK=>nU.b7 k u v ?_ ?_⟩,gs⟩,oE,rfl⟩
   .rw [gD (b6.mp ax).1];exact ax
   .rw [gD (b6.mp bq).1];exact bq
   .rw [gD (b6.mp aK).1];exact aK
 rintro rt dH bh;ac_rfl
 obtain ⟨iB,s5,⟨rs,ss,hK,nU,Q6⟩,oE,rfl⟩:=bh;subst aJ;simp only [dN];have agl:=QD.same s5;refine qm (fun aA I=>True) (fun b3 bJ lr _ _=>?_) ?_
 .obtain ⟨oc,rC,R8,xM⟩:=id agl;nofun;refine ⟨⟨_,aD.of rC⟩,?_⟩;refine dP.list (xs:=oc.map V.ref) (fun i σ I=>ac dH I/\aP I/\∃ P7 oM,σ=[~~~a,some (.int n),~~~wl,~~~e0,~~~k,~~~ck,oE,P7,oM]) ⟨fun _ _ e=>e,iB,_,_,rfl⟩ ?_ ?_ ?_
  .rintro i σ I ah ⟨gV,_⟩;exact aD.of (gV _ _ rC)
  .rintro i v σ I aK bh;ac_rfl
   obtain ⟨gV,kh,P7,oM,rfl⟩:=bh;obtain ⟨qK,rI,rfl⟩:=cA aK;have ha:i < ds.length:=by have:=(b6.mp rI).1;omega
   have qF:=a' ha;have rj:=xM i _ _ rI qF;subst aJ;simp only [gd,dN,jI,jX];refine Fm (fun tc ft=>tc=false/\ac dH ft/\aP ft) (fun hS aV=>?_) (fun ft r=>(by cases r.1)) (fun ft r=>?_)
   .nofun;have B7:=hK.len;have Gn:=hK.same gV;refine ⟨⟨_,aD.of Gn.at_⟩,?_⟩;refine da.lg (xs:=rs.map V.ref) (zs:=mH (ss.map (dA n ds (Db ds cT) ds[i]))) (aD.of Gn.at_) (by rw [aU,B7,Q6];decide) (by unfold mH;rw [aU,aU,aU,B7]) (fun j v z N aK aQ bu=>?_) (fun p av=>?_)
    .obtain ⟨ef,p2,rfl⟩:=cA aK;have aO:j < ss.length:=by rw [<- B7];exact (b6.mp p2).1
     have M9:=a' aO;have t7:=gb.k (k:=bc ds[i].name) (Gn.al j ef _ p2 M9);rw [zu (f:=gR n ds (Db ds cT) ss[j]) fv qF,DI] at t7;have aQ:z=V.str (cx (dA n ds (Db ds cT) ds[i] ss[j])):=by
      unfold mH at aQ;rw [dm,dm,M9] at aQ;exact (dh aQ).symm
     subst aQ;nofun;exact ⟨Sub.name,_,cM.of (gV _ _ rj),_,cg (j:=1) rfl,_,t7,bu⟩
    .obtain ⟨bA,oF,af,ao,_⟩:=nU.order X qF 69 _ (a' (by omega));rw [Jz (by omega)] at af;refine ⟨qK,p,ds[i],ss.map (dA n ds (Db ds cT) ds[i]),rfl,(gV.trans (bp av)) _ _ rj,(X.ok _ (jg ha)).k,db,fun c aw=>?_,by rw [aU,Q6];decide,by rw [af];exact ao,kh.upd,fun ft jN j9=>⟨true,rfl,aV _ _ ⟨rfl,(gV.trans (bp av)).trans jN,j9⟩⟩⟩;obtain ⟨aj,_,rfl⟩:=cp.mp aw;exact u3 _ _
   obtain ⟨_,jN,j9⟩:=r;nofun;refine ⟨⟨_,aD.of (jN _ _ rC)⟩,?_⟩;refine dP.list (xs:=oc.map V.ref) (fun j σ I=>ac dH I/\aP I/\∃ oM,σ=[~~~a,some (.int n),~~~wl,~~~e0,~~~k,~~~ck,oE,~~~qK,oM]) ⟨jN,j9,_,rfl⟩ ?_ ?_ ?_
   .rintro j σ I aO ⟨f',_⟩;exact aD.of (f' _ _ rC)
   .rintro j v σ I aK bh;ac_rfl
    obtain ⟨f',nD,oM,rfl⟩:=bh;obtain ⟨KV,L3,rfl⟩:=cA aK;have i6:j < ds.length:=by have:=(b6.mp L3).1;omega
    have Hh:=a' i6;have r':=xM j _ _ L3 Hh;subst aJ;simp only [gd,jI,jX];refine dy false (fun hS aV=>?_) (fun aw=>nomatch aw) (fun _=>?_)
    .nofun;have eq:=abh (K:=K) (f' _ _ rj) (f' _ _ r');by_cases hA:i=j
     .subst hA;refine ⟨_,eq,?_⟩;rw [Ww];exact aV
     .rw [agE (fun z=>hA (Bk fv ha i6 (by rw [j3 qF,j3 Hh];exact z)))] at eq;refine ⟨_,eq,?_⟩;have gB:=X.ok _ (jg ha);have NA:=X.ok _ (jg i6);rw [if_pos (show (!false)=true from rfl)];refine ⟨n,qK,KV,ds[i],ds[j],rfl,cM.of (f' _ _ rj),cM.of (f' _ _ r'),gB,NA,_,rfl,?_⟩;by_cases lb:mt n ds[i] ds[j]=true
      .rw [if_pos lb];refine ⟨ck,rs,ss,qK,KV,n,ds,cT,i,j,ds[i],ds[j],rfl,X,hK.same f',by omega,nU,qF,Hh,hA,lb,f' _ _ rj,f' _ _ r',?_,nD,true,rfl,aV⟩;have:=gB.of;have:=NA.zP;omega
      .rw [if_neg lb];exact aV
    .nofun;exact ⟨f',nD,_,rfl⟩
   .rintro σ I bh;ac_rfl
    obtain ⟨f',nD,oM,rfl⟩:=bh;subst aJ;exact ⟨f',nD,_,_,rfl⟩
  .rintro σ I _;exact bJ _ _ trivial
 rintro lW hH _;nofun;exact q _
end My
structure PySem.W.Fast:Prop where(tw2171931266382631445 tw11948040457872120731 tw11189645384863308719 tw9567125194474685200 tw3066063893979362475 tw333563851701468475 tw16440244279790098531 tw3612033937920980234 tw6257897143190574074 tw16640697074058599740 tw13003697604843604461 tw5306211052279939124 tw1026989777015323304 tw11622387394432408737 tw12282058832252111984 tw3928599059214619924 tw4121577416458937939 tw7030683855946116686 tw4466164654388303296 tw2129658965620043690 tw12692196106572124101 tw2944565211643109066 tw15541187981519648062 tw14402551822032482975 tw14611861003555363459 tw12605111545148540206 tw17501707705527557878 tw14134110088994559227 tw3481692876136882713 tw12867740721611606555 tw8240304785045345828 tw12615257256692925925 tw1692792226164528302 tw9688373065022315439 tw15470686334631446158 tw17891591035832204459 tw14628755260625699615 tw9739704130595742560 tw12566434044869353375 tw13480200311658535898 tw4413448906384927761 tw12810409973726580589 tw735509795979375136 tw3181776322493024154 tw16365795805933824917 tw1373945765823004585 tw17844645157123509816 tw3419918492025715343 tw5291559569309134861 tw11309814467665178026 tw817107978796335246 tw644421429773726999 tw17836880946138357721 tw6214502773640676179 tw2120559732499922289 tw17865845369398636042 tw10985303070505270144 tw8536424961745937584 tw13389756142415488606 tw3529657434211034038 tw7133740794894534069 tw16438624731686946017 tw13142659960106442264 tw12612845865267958446 tw11936000126459221982 tw14918899474760371636 tw9814101973893023413 tw4057975162424195378 tw13025509593389282349 tw16676232746901675620 tw2446343613305527931 tw18076760726000365721 tw18221703764560100992 tw12485448374528989743 tw7212409493231637003 tw17381190214917852262 tw10377950053697114082 tw12070576176405625979 tw16979199825639934308 tw13237608608780202575 tw14565328392447041920 tw9426508164731565446 tw12144553709032069252 tw15618688908586858101 tw8045985611263518708 tw3295268680817872527 tw6616825708165873024 tw18302540301348924832 tw2829438271928538663 tw1103228014442967024 tw7278535801303063376 tw18275727979598796817 tw9549436505158377250 tw11360260398094450426 tw9510606798597821057 tw15765564009344556503 tw8395401371478872610 tw368823330833190824 tw14024602103622452267 tw9640742950043492621 tw11294970583979087082 tw8090815410452221016 tw3642965366925628904 tw14764177111522532699 tw16297709200309978736 tw15641128429034697849 tw13355420533995672718 tw9310087882630956643 tw8033330784886800348 tw7143874602440561032 tw5894275565956081356 tw301702890773390347 tw5390302330936532012 tw9618260334303236768 tw9902392004411587913 tw17974708121108871872 tw14417838466920812663 tw5633474829782818992 tw17043839730822250234 tw9269858939056807572 tw7926216912592821578 tw2008903127320198059 tw6174499468781639791 tw12903239048027219484 tw14950033164120984235 tw9055426078787749118 tw4952238293506799618 tw11405234903512833602 tw15572365754658457395 tw13094758703371294219 tw16932441307482373971 tw14434288705546468997 tw2103851093329404320 tw5175988795754718777 tw17272608783578077831 tw13782844241333043903 tw4537732619278313013 tw7205285578495337937 tw5669490972493042419 tw8426431083207088310 tw7226005401353012445 tw4099344723379521132 tw16820475665156216948 tw4797452134744770877 tw14810727878487484221 tw7601283182419287389 tw8893189344724805959 tw15430376533495349329 tw12043727542389936372 tw9991837037170070766 tw13166723016630267830 tw17994593992968532546 tw17612546312374480073 tw610094551707235275 tw9080841742810506026 tw2226736312065875314 tw412438208344021471 tw6035335836716710096 tw1567118445008066933 tw6208902347327431677 tw1981863516518390871 tw11870578876256690883 tw11701741576667122019 tw1663150478000617537 tw11671027632297799096 tw2845800994132935412 tw115907269795839782 tw16776612726644412336 tw6637325199282191298 tw8252254989094936819 tw8695461209852403218 tw3311400754370715177 tw6156606912614934422 tw3548591982787923797 tw9715106758629852730 tw11201142893878710216 tw6465467041629545283 tw4339255761418830842 tw4168977996484557561 tw10992531577704143395 tw6707890568016231146 tw13044570688292615568 tw9369503630174837734 tw348711622621944472 tw13908507959796441955 tw16396289243890945901 tw11401532433325531135 tw7681370921927372255 tw18138455157015003700 tw3770268304505000301 tw834398645716967720 tw4958180037638245607 tw16643575822317958682 tw18009667735847168897 tw9598507824462269385 tw5879795247281201400 tw6204240335260123088 tw1873944073093995060 tw14570725425019587420 tw9291971096440512646 tw1299017389930045117 tw6082748149566769453 tw2840940279998326698 tw2220913828048121941 tw6704969238675799638 tw6313201947938826672 tw3742747077658589817 tw146004152449363104 tw7955781563309861820 tw7481137642463071413 tw8192921079607877706 tw13670620926913168783 tw18260346886019687952 tw15905587861001904996 tw16095300915310994308 tw10579547596190629675 tw13972530758600103622 tw12877689957905746219 tw11774012704222486338 tw9589557614104160887 tw7036524735146305775 tw6597546387953051776 tw8643919976958052492 tw15729407517564241041 tw13209128022246741282 tw14703040329361059222 tw9252495266395711356 tw18380803942143997588 tw451840283121641391 tw13529972137310943305 tw15862788702748131837 tw976943605970786234 tw17132406154598524832 tw5990281442933199109 tw1024338886529087053 tw16509790104659521347 tw6801149902525333027 tw7259050267605513091 tw3626284985749890109 tw8525606493057569535 tw2127122315562635255 tw5108414454581927730 tw5412946385071302701 tw10109736853544029701 tw9824915563902903955 tw6012782613944978836 tw11965932796469473998 tw8469550117563629958 tw14246851847435091020 tw12653426005531216940 tw4023379305164498020 tw5929061901868957457 tw9274259504317585987 tw17557260888809360283 tw12007973929632193241 tw17806457207775938699 tw14427072690822941343 tw13495031960205353792 tw17943761618150179179 tw12204314408454912318 tw17184857260853504550 tw18040890596125844940 tw9493592539844690330 tw13743385840827088964 tw13138565500637854001 tw13379606741553525810 tw10375414511580838497 tw1062621221367003018 tw13095538322124669314 tw7114424641538198259 tw18035060927494099021 tw10320163133511700370 tw15474891542124419555 tw9646593799951344742 tw15711688443062512141 tw12964749047626804208 tw17334650101322467 tw12424713841899518173 tw5388169513187810849 tw16017742809332658560 tw7932072397466437960 tw4755258614421436868 tw11002274511076640316 tw5630871336881769389 tw15214768524437862898 tw11900833564225087821 tw11724219647408985609 tw3827997282791764865 tw17754441183248827011 tw17692580353074746755 tw12403586354586108608 tw3331277763391842478 tw11212996813535581172 tw916678328832107838 tw11178105869865832605 tw18265486459039420818 tw15790146253041328796 tw12437967887889280607 tw10370324916460840312 tw17990644486192699157 tw16231888932805515022 tw6396095916124585893 tw9850539728510190109 tw10376200643459413162 tw1851584663837226036 tw2194105312076750875 tw8970125784193090883 tw10589131572797180623 tw4159052101022386439 tw4222763622196807089 tw2762673971099096630 tw8099725608004968975 tw14580619286445478394 tw17674454012827749453 tw16731379994954006540 tw14392221949200991976 tw10142578873554022257 tw2768023593781821534 tw16690318578063021487 tw8799045119570249745 tw16076754194532240027 tw1483883745964131918 tw8582365655730149360 tw10296292872052572323 tw13400537253795624767 tw15908163024805095347 tw12763688757972209782 tw10046291561931256162 tw2901613064817351944 tw3399616542627862212 tw15144063718930607892 tw330161982772799132 tw12921699668904551281 tw13245732210866153912 tw6598167947341831921 tw11396833150982570688 tw13962846887647568925 tw9883943932920636765 tw15888473336833747916 tw13685177264355171239 tw11625787984179040078 tw13112847744366235411 tw5277920160494259255 tw8345696191940926683 tw2755026963726038767 tw9304635597176017098 tw8190889297797030981 tw3393042457134433673 tw930241512438285639 tw10712145208359938997 tw9753009380849255939 tw15129788461660545629 tw622756811090676967 tw1506120573151109061 tw13152410060534531976 tw9342630137378051544 tw12661975988331052264 tw5915533503362500820 tw3502239598155967164 tw10090232095571638261 tw285229185811767110 tw14752908525896746526 tw714480751290145883 tw5784015913516432324 tw15607524070060145648 tw12498569223934234905 tw6948978414214562497 tw3180237609231247663 tw18072258718273103042 tw15116631090925400914 tw4138190746902680657 tw11849663737399498463 tw13597570482176078471 tw9346994716918861557 tw3683342426277683289 tw3202376424036561155 tw4908485465969111651 tw2650127683337232928 tw15502340994648136745 tw871151656360157543 tw5442515758365968456 tw188002316404428867 tw15213814500245597881 tw11559632032151240036 tw12645892274719057938 tw15386999677400421386 tw3150374832458544266 tw5190009901380835909 tw7679235108287895522 tw9901612335132267625 tw17037350529406300684 tw12452896718064322258 tw9587630511925549381 tw4046268435377648 tw17045295096270697104 tw18182714260382534491 tw17004857853779225884 tw18052806190791609443 tw4851457417615042057 tw10582222832938594990 tw11054913982715759202 tw11026503197552025158 tw7164765042401322721 tw16609472438793425900 tw15964289925093058336 tw5873722163030502977 tw10636985694740034363 tw2324192941826595274 tw11083959639618211148 tw10066969270726995577 tw12048283462332252650 tw11610484613681449362 tw17527621296679639269 tw17628942745537756482 tw2114559740071047258 tw16984075665585100824 tw14616295320978053061 tw11986785721647849989 tw12890286672329118934 tw3094902181247739735 tw4222109971980424268 tw11681455605105390499 tw17559607681271956110 tw6170876603105599648 tw3324220758310162833 tw8605938907173975859 tw12524858864654571845 tw6783901794875606001 tw16680745437439063382 tw16009129949910546058 tw3120035021289193564 tw2775383506557219991 tw16449514271973826729 tw6793886862473565164 tw17447068095224557305 tw4834221159031641155 tw3961252343820517911 tw12341076690548289947 tw12642329658111552563 tw13620166773338499770 tw15923904281701025249 tw17401453590308573317 tw1943888140472837910 tw7817301927550304609 tw878175614580267747 tw9664164388609489116 tw2390824981792906689 tw12129378817568259828 tw7558153219817881580 tw13478342924319384231 tw11288230193035727100 tw15639791308591472668 tw5184112304178620269 tw5503458634356547435 tw17889750860743203371 tw13993780649728392207 tw7225592041475198256 tw706309627116820346 tw1404150818291547466 tw7085065643871694263 tw11614071432819021987 tw8346802650751849689 tw3551065678094581722 tw17245587842751613420 tw3204211372722585238 tw8500784081362727587 tw1754586251629441250 tw7863943709711180156 tw5753971797357082036 tw2620116552109015569 tw11460368248151022940 tw10820410881522867362 tw9310801579902651268 tw11731249765903446993 tw4502983900820850403 tw10360469427014786485 tw12466876143664493003 tw6121128641886573123 tw7007351604934635838 tw7786008077302137048 tw12871130117634500295 tw1311426920967485050 tw2460607567124181822 tw12348612636730787644 tw4008393581142104082 tw15620990508421888372 tw5279789937908461251 tw18058863019597074719 tw2113702304418155101 tw5249293926695330202 tw2255953311526809620 tw9515207726336810746 tw11787544416563360374 tw5010559628099174343 tw13865691317310002279 tw12443490893825470534 tw17044747537015748725 tw14060474060568677196 tw15996970954383721420 tw273132180423343678 tw3307286429143636061 tw10963056714858143184 tw14448641453308964002 tw2340108003187472717 tw17612999091647637790 tw14436774378222623061 tw5680978199167322632 tw4841223040111274565 tw7101589534971255422 tw51505301479708779 tw9833107699653328723 tw17235487326064846459 tw6087191184446138381 tw14879329249383706600 tw11695841472176759821 tw18088971190217980444 tw540158970278134196 tw7644796604785170276 tw11566938334493752497 tw15697328618904046087 tw17255098698928715728 tw5440019553269707695 tw4251170706271252284 tw16585800076095133498 tw14483352158368504841 tw7351188619324607601 tw7863169793588985894 tw474722508488194828 tw13446113267681567863 tw15820955301328013751 tw12228917340671835727 tw523942946950721575 tw17051240535597019925 tw3667140917668627720 tw9794975290765422918 tw1846644461836804435 tw18350875864198534132 tw6527196949715956828 tw3212450428730174060 tw12416001786805322864 tw6511772533291967688 tw3780049509050458447 tw5638439916275761201 tw225377277539456898 tw16049967958874172540 tw11333273534632198458 tw6649831532000859690 tw6422439914960520659 tw14282571119660009631 tw2467061752337542930:True)
open PySem PySem.W PyProof.Rows
set_option maxRecDepth 100000 in
set_option maxHeartbeats 0 in
theorem PySem.Challenge.cw_lampway_k37_whole_safe_and_in_order_holds : PySem.Challenge.rw_lampway_k37_whole_safe_and_in_order.Holds := by
 w_on;o_law;k_head;(case hw=>w_witness2)
 k_fill
 refine L2.Xd (l:=PySem.Challenge.rw_lampway_k37_whole_safe_and_in_order) (n:=63) (k:=12) (x := "_law_script") (CX:=L2.dz) (sp:=My.Rp) rfl (by decide) rfl ⟨rfl,by decide,by decide⟩ (fun w h Y=>PySem.W.km_in_of Y) (fun w h Y=>PySem.W.km_tabs_of Y _ (List.Mem.head _)) (by intro p;kernel_rfl) ?F ?S ?C
 case F=>
  intro w mg fZ h ka G vu av;have T:∃ t,My.Txt w (L2.Ib ka) mg t/\ahL (L2.Ib ka) t.qV (L2.K1 av)=true:=by
   dsimp only [L2.Ib,L2.K1];refine' ⟨My.bR.mk,⟨?maa,?Fab,?mac,?Fad,?mae,?Faf,?mag,?Fah,?mai,?Faj,?mak,?Fal,?mam,?Fan,?mao,?Fap,?maq,?Far,?mas,?Fat,?mau,?Fav,?maw,?Fax,?may,?Faz,?mba,?Fbb,?mbc,?Fbd,?mbe,?Fbf,?mbg,?Fbh,?mbi,?Fbj,?mbk,?Fbl,?mbm,?Fbn,?mbo,?Fbp,?mbq,?Fbr,?mbs,?Fbt,?mbu,?Fbv,?mbw,?Fbx,?mby,?Fbz,?mca,?Fcb,?mcc,?Fcd,?mce,?Fcf,?mcg,?Fch,?mci,?Fcj,?mck,?Fcl,?mcm,?Fcn,?mco,?Fcp,?mcq,?Fcr,?mcs,?Fct,?mcu,?Fcv,?mcw,?Fcx,?mcy,?Fcz,?mda,?Fdb,?mdc,?Fdd,?mde,?Fdf,?mdg,?edh,?Fdi,?edj,?Fdk,?edl,?Fdm,?edn,?Fdo,?edp,?Fdq,?edr,?Fds,?edt,?Fdu,?mdv,?edw,?Fdx,?mdy,?edz,?Fea,?eeb,?Fec,?eed,?Fee,?eef,?Feg,?eeh,?Fei,?eej,?Fek,?eel,?Fem,?een,?Feo,?eep,?Feq,?eer,?Fes,?eet,?Feu,?eev,?Few,?mex,?eey,?Fez,?mfa,?efb,?Ffc,?efd,?Ffe,?eff,?Ffg,?mfh,?efi,?Ffj,?efk,?Ffl,?efm,?Ffn,?mfo,?efp,?Ffq,?efr,?Ffs,?eft,?Ffu,?mfv,?efw,?Ffx,?efy,?Ffz,?ega,?Fgb,?egc,?Fgd,?sge,?sgf,?sgg,?sgh,?sgi,?sgj,?sgk,?sgl,?ngm,?ngn,?ngo,?sgp,?sgq,?ngr,?ngs,?ngt,?ngu,?ngv,?ngw,?ngx,?ngy,?sgz,?sha,?shb,?shc,?shd,?she,?shf,?shg,?shh,?shi,?shj,?shk,?shl,?nhm,?nhn,?nho,?nhp,?nhq,?nhr,?nhs,?nht,?shu,?nhv,?nhw,?nhx,?nhy,?nhz,?nia,?nib,?sic,?sid,?sie,?sif,?nig,?nih,?nii,?nij,?nik,?nil,?nim,?sin,?sio,?sip,?siq,?nir,?nis,?nit,?niu,?niv,?niw,?nix,?siy,?siz,?sja,?sjb,?njc,?njd,?nje,?njf,?njg,?njh,?nji,?sjj,?sjk,?sjl,?sjm,?sjn,?njo,?njp,?njq,?djr,?djs,?djt,?dju,?djv,?djw,?sjx,?mjy,?vjz,?mka,?vkb,?mkc,?vkd,?mke,?vkf,?mkg,?vkh,?mki,?vkj,?mkk,?vkl,?mkm,?vkn,?mko,?vkp,?mkq,?vkr,?mks,?vkt,?mku,?vkv,?bkw,?bkx,?bky,?bkz,?bla,?blb,?blc,?bld,?ble,?clf,?llg⟩,?zcc⟩
   case maa | mac | mae | mag | mai | mak | mam | mao | maq | mas | mau | maw | may | mba | mbc | mbe | mbg | mbi | mbk | mbm | mbo | mbq | mbs | mbu | mbw | mby | mca | mcc | mce | mcg | mci | mck | mcm | mco | mcq | mcs | mcu | mcw | mcy | mda | mdc | mde | mdg | mdv | mdy | mex | mfa | mfh | mfo | mfv | mjy | mka | mkc | mke | mkg | mki | mkk | mkm | mko | mkq | mks | mku=>(try dsimp only);refine' PySem.W.mg_of ka G ?z;case z=>k_is
   case edh | edj | edl | edn | edp | edr | edt | edw | edz | eeb | eed | eef | eeh | eej | eel | een | eep | eer | eet | eev | eey | efb | efd | eff | efi | efk | efm | efp | efr | eft | efw | efy | ega | egc=>(try dsimp only);k_is
   case sge | sgf | sgg | sgh | sgi | sgj | sgk | sgl | sgp | sgq | sgz | sha | shb | shc | shd | she | shf | shg | shh | shi | shj | shk | shl | shu | sic | sid | sie | sif | sin | sio | sip | siq | siy | siz | sja | sjb | sjj | sjk | sjl | sjm | sjn | sjx=>(try dsimp only);constructor <;> k_is
   case Fab | Fad | Faf | Fah | Faj | Fal | Fan | Fap | Far | Fat | Fav | Fax | Faz | Fbb | Fbd | Fbf | Fbh | Fbj | Fbl | Fbn | Fbp | Fbr | Fbt | Fbv | Fbx | Fbz | Fcb | Fcd | Fcf | Fch | Fcj | Fcl | Fcn | Fcp | Fcr | Fct | Fcv | Fcx | Fcz | Fdb | Fdd | Fdf | Fdi | Fdk | Fdm | Fdo | Fdq | Fds | Fdu | Fdx | Fea | Fec | Fee | Feg | Fei | Fek | Fem | Feo | Feq | Fes | Feu | Few | Fez | Ffc | Ffe | Ffg | Ffj | Ffl | Ffn | Ffq | Ffs | Ffu | Ffx | Ffz | Fgb | Fgd=>(try dsimp only);refine' L2.ab8 ?x ?y ?z;(case x=>k_is);(case y=>k_is);(case z=>k_is)
   case clf=>(try dsimp only);(try rfl)
   case ngm | ngn | ngo | ngr | ngs | ngt | ngu | ngv | ngw | ngx | ngy | nhm | nhn | nho | nhp | nhq | nhr | nhs | nht | nhv | nhw | nhx | nhy | nhz | nia | nib | nig | nih | nii | nij | nik | nil | nim | nir | nis | nit | niu | niv | niw | nix | njc | njd | nje | njf | njg | njh | nji | njo | njp | njq=>(try dsimp only);unfold L2.cX;k_is
   case djr | djs | djt | dju | djv | djw=>(try dsimp only);decide
   case vjz | vkb | vkd | vkf | vkh | vkj | vkl | vkn | vkp | vkr | vkt | vkv=>(try dsimp only);exact ⟨_,rfl⟩
   case bkw | bkx | bky | bkz | bla | blb | blc | bld | ble=>(try dsimp only);refine' PySem.W.mg_none_of ka G ?z;case z=>k_is
   case llg=>(try dsimp only);exact fun _ _=>.of_eq rfl
   case zcc=>(try dsimp only);kernel_rfl
  obtain ⟨t,T,n0⟩:=T;have eX:=vu.symm.trans T.Xb;cases eX;exact ⟨t.xd,t.qV,T.X_,n0,fun base ajq nb dg jb=>My.Yl T dg jb⟩
 case S=>exact fun K H a Pt ns aM k5 d1=>⟨a,ns,rfl,L2.Sc.Vj k5 d1,aM,⟨#[],k5.1,.inl rfl⟩,fun _=>rfl⟩
 case C=>exact fun _ _ _ _ z=>z
